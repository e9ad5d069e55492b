import PyProof.Rows.All
import Wide.All
import OpenK.AllK
import Wide.FinOn
import KE.SortKeyHeap
import KE.KLam
import HandS.ForMost
import HandS.ForExc
import HandS.Flow
import HandS.Style
import HandS.SortInts
import HandS.SortKw
import HandS.TupAny
import HandS.TupMul
import HandS.Lambda
import HandS.EndTab
import HandS.Head2
import HandS.HeadEnd
import HandS.HeadHook4
import HandS.HeadWalk
import HandS.Walk
import HandS.IsInst
import HandS.Defaults
import HandS.More
import HandS.DictComp
import HandS.ListItems
import HandS.SetFor
import HandS.Strs
import HandS.Zip
import HandS.TupSets
import KE.SortData
import KE.GoesMore
import HandS.Conv
import HandS.WordsDict
import HandS.MakeKw
import HandS.Codes
import KE.KIndexOf
import HandS.TryMany
import HandS.WordsExc
import KE.KExcSuper
import HandS.ClsMeth
import HandS.Nested
import HandS.ExcInit
import PyProof.ReprRoads
import PyProof.Rows.StrJoinMade
import PyProof.StrLawsRepr
import HandS.ExcField
import HandS.FStr
import PyProof.InstSpecial
import PyProof.Conv_bool
import KE.KFmtOwn
import HandS.Records
import HandS.Small
import HandS.OwnEq
import PyProof.InstNe
import KE.DataCmp
import HandS.Text
import KE.IntTextLaws
import KE.KIntText
import PyProof.StrLawsIn
import PyProof.Rows.ReprOcc
import HandS.Iter
import HandS.RaiseMore
import HandS.TryOnly
import HandS.Deep
import KE.KEqSeq
import KE.DataFind
import PySem.Challenge.RW_deedsheaf_k74_whole_a_scribe_and_their_b
set_option Elab.async false
set_option linter.all false
set_option maxRecDepth 100000
set_option maxHeartbeats 0
set_option pp.maxSteps 1200

namespace Deed
open PySem PySem.Spec PyProof.Rows L2
def topS (i : Nat) : Stmt := PySem.Challenge.pw_deedsheaf_k74_whole_a_scribe_and_their_b.main.body.getD i (.Pass ⟨0, 0, 0, 0⟩)
/-! ### heaps: all but the pen at p is as it was -/
def Kp (p : Addr) (H H' : Hp) : Prop := ∀ b o, b ≠ p → H b = some o → H' b = some o
theorem Kp.refl (p : Addr) (H : Hp) : Kp p H H := fun _ _ _ h => h
theorem Kp.trans {p : Addr} {H H1 H2 : Hp} (a : Kp p H H1) (b : Kp p H1 H2) : Kp p H H2 := fun c o n h => b c o n (a c o n h)
theorem Kp.new {p q : Addr} {H : Hp} (n : H q = none) (o : HO) : Kp p H (upd H q o) := fun b u _ e => by
  rw [upd_ne (ne_of_none e n)]
  exact e
theorem Kp.put {p : Addr} {H : Hp} (o : HO) : Kp p H (upd H p o) := fun b u n e => by
  rw [upd_ne n]
  exact e
theorem Kp.same {p : Addr} {H H' : Hp} (h : Same H H') : Kp p H H' := fun b o _ e => h b o e
/-- the pen: four whole numbers, the last one a rest -/
def PenAt (H : Hp) (p : Addr) : Prop := ∃ a f c e : Int, H p = some (.lst [.int a, .int f, .int c, .int e]) ∧ 0 ≤ e ∧ e < 1000000007
theorem PenAt.new {p q : Addr} {H : Hp} (h : PenAt H p) (n : H q = none) (o : HO) : PenAt (upd H q o) p := by
  obtain ⟨a, f, c, e, h1, h2⟩ := h
  refine ⟨a, f, c, e, ?_, h2⟩
  rw [upd_ne (ne_of_none h1 n)]
  exact h1
theorem PenAt.ne {p q : Addr} {H : Hp} {o : HO} (h : PenAt H p) (e : H q = some o) (no : ∀ xs, o ≠ .lst xs) : q ≠ p := fun z => by
  obtain ⟨a, f, c, e', h1, _⟩ := h
  rw [z, h1] at e
  exact no _ (Option.some.inj e).symm
theorem PenAt.free {p q : Addr} {H : Hp} (h : PenAt H p) (n : H q = none) : q ≠ p := fun z => by
  obtain ⟨a, f, c, e', h1, _⟩ := h
  rw [z, h1] at n
  cases n
section
variable {P : Program} {w : World} {K : PySem.W.Frag} {mg : Str → Option Value} {base : Heap}
/-! ### the script's cell -/
abbrev sCell : Stmt := topS 83
theorem scCell : FnScope ["_law_script", "_law_k"] ["_law_script", "_law_k"] (defScope sCell) := ⟨rfl, rfl, rfl, by decide +kernel, rfl, by decide +kernel, by decide +kernel⟩
def spCell (K : PySem.W.Frag) : Sp := fun vs H Q _ => ∃ (a : Addr) (ns : List Int) (k : Int), vs = [.ref a, .int k] ∧ SqL K H a (ns.map V.int) ∧ 0 ≤ k ∧ ∀ v : Int, Q (.int v) H
theorem ok_cell {f : Addr} {fd : FuncData} {k : Nat} (F : Fun K "_law_cell_at" "_law_cell_at" sCell f fd) (ml : mg "len" = none) : FnOk P w K mg base CX0 (k + 1) f fd ["_law_script", "_law_k"] (spCell K) := by
  refine F.ok scCell (fun vs H Q E h => ?_) (fun cdv A outer s H vs Q E hr h => ?_)
  · obtain ⟨a, ns, k, rfl, _⟩ := h
    rfl
  · obtain ⟨a, ns, k, rfl, hS, h0, q⟩ := h
    refine ⟨_, pss_cons (ps_if (pt_cmpR op_lt (pv 1) (pe_callB call_len_seq (by rfl) ml PySem.boot_len (pa_cons (pv 0) pa_nil)) (nomark _)) (pss_one (ps_ret (pe_ix ix_list (pv 0) (pv 1) (fun _ _ => rfl)))) pss_nil)
      (pss_one (ps_ret pe_int)), ?_⟩
    have hl : (ns.map V.int).length = ns.length := List.length_map _
    refine ⟨_, rfl, _, rfl, a, _, rfl, .inl hS, _, _, rfl, rfl, _, rfl, ?_⟩
    refine ite2 (fun c => ?_) (fun c => ?_)
    · have c' : k < (((ns.map V.int).length : Nat) : Int) := of_decide_eq_true c
      rw [hl] at c'
      have hk : k.toNat < ns.length := by omega
      have ek : k = ((k.toNat : Nat) : Int) := by omega
      refine ⟨_, rfl, _, rfl, a, _, _, .int ns[k.toNat], rfl, rfl, hS, ?_, q _⟩
      exact at_of ek (by rw [List.getElem?_map, List.getElem?_eq_getElem hk] <;> rfl)
    · exact q 0
/-! ### the pen -/
abbrev sPen : Stmt := topS 82
theorem scPen : FnScope ["_law_cell"] ["_law_cell"] (defScope sPen) := ⟨rfl, rfl, rfl, by decide +kernel, rfl, by decide +kernel, by decide +kernel⟩
def spPen : Sp := fun vs H Q _ => ∃ (c : Int), vs = [.int c] ∧ ∀ p H', Same H H' → H p = none → PenAt H' p → Q (.ref p) H'
theorem ok_pen {f : Addr} {fd : FuncData} {k : Nat} (F : Fun K "_law_pen" "_law_pen" sPen f fd) (mi : mg "int" = none) : FnOk P w K mg base CX0 (k + 1) f fd ["_law_cell"] spPen := by
  refine F.ok scPen (fun vs H Q E h => ?_) (fun cdv A outer s H vs Q E hr h => ?_)
  · obtain ⟨c, rfl, _⟩ := h
    rfl
  · obtain ⟨c, rfl, q⟩ := h
    refine ⟨_, pss_one (ps_ret (pe_lst (pa_cons (pv 0) (pa_cons (pe_callTy call_int1 (by rfl) mi (by decide +kernel) (pa_cons (pe_cmpR op_ge (pv 0) (pe_op op_pow pe_int pe_int) (nomark _)) pa_nil)) (pa_cons pe_int (pa_cons (pe_op op_mod (pv 0) pe_int) pa_nil)))))), ?_⟩
    refine ⟨_, rfl, _, rfl, _, _, rfl, rfl, ⟨by decide, by decide, by decide⟩, _, _, rfl, rfl, .inr ⟨_, rfl, ?_⟩⟩
    refine ⟨_, rfl, _, _, rfl, rfl, (by show (0 : Int) < 1000000007; decide), (by show 4 ≤ sizeLine; decide), fun p hp => ?_⟩
    refine q p _ (fun b o e => ?_) hp ⟨_, _, _, _, upd_same, Int.emod_nonneg _ (by decide), Int.emod_lt_of_pos _ (by decide)⟩
    rw [upd_ne (ne_of_none e hp)]
    exact e
/-! ### a draw -/
abbrev sDraw : Stmt := topS 84
theorem scDraw : FnScope ["_law_pen_here", "_law_bound", "_law_found", "_law_stir"] ["_law_pen_here", "_law_bound"] (defScope sDraw) := ⟨rfl, rfl, rfl, by decide +kernel, rfl, by decide +kernel, by decide +kernel⟩
def spDraw : Sp := fun vs H Q _ => ∃ (p : Addr) (b : Int), vs = [.ref p, .int b] ∧ PenAt H p ∧ 0 < b ∧ b < 1073741824 ∧ ∀ v H', Kp p H H' → PenAt H' p → 0 ≤ v → v < b → Q (.int v) H'
theorem ok_draw {f : Addr} {fd : FuncData} {k : Nat} (F : Fun K "_law_draw" "_law_draw" sDraw f fd) : FnOk P w K mg base CX0 (k + 1) f fd ["_law_pen_here", "_law_bound"] spDraw := by
  refine F.ok scDraw (fun vs H Q E h => ?_) (fun cdv A outer s H vs Q E hr h => ?_)
  · obtain ⟨p, b, rfl, _⟩ := h
    rfl
  · obtain ⟨p, b, rfl, ⟨x, y, c, e, hp, he0, he1⟩, hb0, hb1, q⟩ := h
    refine ⟨_, pss_cons (ps_if (PW.pt (pw_and (pt_cmpR op_eq (pe_ix ix_list (pv 0) pe_int (fun _ _ => rfl)) pe_int (nomark _)) (pw_and1 (pt_cmpR op_gt (pe_ix ix_list (pv 0) pe_int (fun _ _ => rfl)) pe_int (nomark _)))))
        (pss_cons (ps_set (i := 2) scDraw.nd rfl (.inl rfl) (pe_op op_mod (pe_ix ix_list (pv 0) pe_int (fun _ _ => rfl)) (pv 1)))
        (pss_cons (ps_asg (pe_op op_fdiv (pe_ix ix_list (pv 0) pe_int (fun _ _ => rfl)) (pv 1)) (pg_sub (pv 0) pe_int set_list))
        (pss_one (ps_ret (pv 2))))) pss_nil)
      (pss_cons (ps_asg (pe_op op_add (pe_ix ix_list (pv 0) pe_int (fun _ _ => rfl)) pe_int) (pg_sub (pv 0) pe_int set_list))
      (pss_cons (ps_set (i := 3) scDraw.nd rfl (.inl rfl) (pe_op op_mod (pe_op op_mul (pe_op op_add (pe_ix ix_list (pv 0) pe_int (fun _ _ => rfl)) pe_int) (pe_op op_add pe_int (pe_op op_mul pe_int (pe_ix ix_list (pv 0) pe_int (fun _ _ => rfl))))) pe_int))
      (pss_cons (ps_set (i := 3) scDraw.nd rfl (.inl rfl) (pe_op op_mod (pe_op op_add (pe_op op_add (pe_op op_mul (pv 3) (pv 3)) (pe_op op_mul pe_int (pe_ix ix_list (pv 0) pe_int (fun _ _ => rfl)))) pe_int) pe_int))
      (pss_one (ps_ret (pe_op op_mod (pe_op op_fdiv (pe_op op_mod (pe_op op_mul (pv 3) pe_int) pe_int) pe_int) (pv 1))))))), ?_⟩
    have i0 : ∀ u : V, ∀ r : List V, atI (u :: r) 0 = some u := fun u r => atI_nat (j := 0) rfl
    have i1 : ∀ u v : V, ∀ r : List V, atI (u :: v :: r) 1 = some v := fun u v r => atI_nat (j := 1) rfl
    have i2 : ∀ u v w : V, ∀ r : List V, atI (u :: v :: w :: r) 2 = some w := fun u v w r => atI_nat (j := 2) rfl
    have i3 : ∀ u v w z : V, ∀ r : List V, atI (u :: v :: w :: z :: r) 3 = some z := fun u v w z r => atI_nat (j := 3) rfl
    have hS : SqL K H p [.int x, .int y, .int c, .int e] := SqL.of hp
    refine ⟨_, rfl, p, _, _, _, rfl, rfl, hS, i1 _ _ _, rfl, _, rfl, ?_⟩
    refine ite2 (fun c1 => ?_) (fun c1 => ?slow1)
    refine ⟨_, rfl, p, _, _, _, rfl, rfl, hS, i0 _ _, _, _, rfl, rfl, _, rfl, ?_⟩
    refine ite2 (fun c2 => ?_) (fun c2 => ?slow2)
    · refine ⟨_, rfl, p, _, _, _, rfl, rfl, hS, i0 _ _, _, rfl, _, _, rfl, rfl, hb0, ?_⟩
      refine ⟨_, rfl, p, _, _, _, rfl, rfl, hS, i0 _ _, _, rfl, _, _, rfl, rfl, ⟨hb0, hb1⟩, _, rfl, p, _, 0, 0, rfl, rfl, hp, rfl, ?_⟩
      exact ⟨_, rfl, q _ _ (Kp.put _) ⟨_, _, _, _, upd_same, he0, he1⟩ (Int.emod_nonneg _ (by omega)) (Int.emod_lt_of_pos _ hb0)⟩
    all_goals
      refine ⟨_, rfl, p, _, _, _, rfl, rfl, hS, i2 _ _ _ _, _, _, rfl, rfl, _, rfl, p, _, 2, 2, rfl, rfl, hp, rfl, ?_⟩
      have hp1 : (upd H p (.lst [.int x, .int y, .int (c + 1), .int e])) p = some (.lst [.int x, .int y, .int (c + 1), .int e]) := upd_same
      have hS1 : SqL K (upd H p (.lst [.int x, .int y, .int (c + 1), .int e])) p [.int x, .int y, .int (c + 1), .int e] := SqL.of hp1
      refine ⟨_, rfl, p, _, _, _, rfl, rfl, hS1, i3 _ _ _ _ _, _, _, rfl, rfl, _, rfl, p, _, _, _, rfl, rfl, hS1, i2 _ _ _ _, _, _, rfl, rfl, .inl ⟨by decide, by decide⟩, _, _, rfl, rfl, _, _, rfl, rfl, .inl ⟨by omega, by omega⟩, _, _, rfl, rfl, (by show (0 : Int) < 2147483647; decide), ?_⟩
      have r1 := Int.emod_nonneg ((e + 17) * (69621 + 2 * (c + 1))) (b := 2147483647) (by decide)
      have r2 := Int.emod_lt_of_pos ((e + 17) * (69621 + 2 * (c + 1))) (b := 2147483647) (by decide)
      generalize (e + 17) * (69621 + 2 * (c + 1)) % 2147483647 = st at r1 r2
      refine ⟨_, rfl, _, rfl, _, _, rfl, rfl, .inl ⟨by omega, by omega⟩, _, rfl, p, _, _, _, rfl, rfl, hS1, i2 _ _ _ _, _, _, rfl, rfl, .inl ⟨by decide, by decide⟩, _, _, rfl, rfl, _, _, rfl, rfl, _, _, rfl, rfl, (by show (0 : Int) < 2147483629; decide), ?_⟩
      refine ⟨_, rfl, _, _, rfl, rfl, .inr ⟨by decide, by decide⟩, _, _, rfl, rfl, (by show (0 : Int) < 2147483647; decide), _, _, rfl, rfl, ⟨by decide, by decide⟩, _, rfl, _, _, rfl, rfl, hb0, ?_⟩
      exact q _ _ (Kp.put _) ⟨_, _, _, _, upd_same, he0, he1⟩ (Int.emod_nonneg _ (by omega)) (Int.emod_lt_of_pos _ hb0)
end
end Deed

namespace Deed
open PySem PySem.Spec PyProof.Rows L2 LamX
/-! ### the end: the facts by names -/
def mkD (x : Str) (st : Stmt) : He.DefD := ⟨(x, none), x, x, defArgs st, defBody st, defScope st, [], []⟩
def mkDd (x : Str) (st : Stmt) (dfl : List He.Dv) : He.DefD := ⟨(x, none), x, x, defArgs st, defBody st, defScope st, dfl, []⟩
def fn0 : List He.DefD := [mkD "_law_cell_at" (topS 83), mkD "_law_pen" (topS 82), mkD "_law_draw" (topS 84), mkD "_law_day" (topS 87), mkD "_law_folk" (topS 85), mkD "_law_mixed" (topS 86), mkD "_law_few" (topS 88), mkD "_law_deed" (topS 89), mkD "_law_act" (topS 90), mkD "_law_book" (topS 91), mkD "is_whole" (topS 15), mkD "is_within" (topS 16), mkD "is_day" (topS 17), mkD "is_age" (topS 18), mkD "is_person" (topS 19), mkD "is_folk" (topS 20), mkD "is_rising" (topS 21), mkD "is_rising_below" (topS 22), mkD "is_deed_tail" (topS 23), mkD "is_act_tail" (topS 24), mkD "is_entry" (topS 25), mkD "names_fit" (topS 26), mkD "is_book" (topS 27), mkD "entries_rising" (topS 28), mkD "deed_entries" (topS 29)]
def fn1 : List He.DefD := [mkD "act_entries" (topS 30), mkD "deeds_of" (topS 31), mkD "acts_of" (topS 32), mkD "check_day" (topS 48), mkD "check_deed" (topS 49), mkD "open_acts" (topS 52), mkD "acts_on" (topS 53), mkD "acts_in_force" (topS 54), mkD "word_of_deed" (topS 55), mkDd "all_standing" (topS 57) [.int 9999], mkDd "standing_of" (topS 56) [.int 9999], mkD "named_in" (topS 59), mkD "with_entry" (topS 60), mkD "without_entry" (topS 61), mkD "by_numbers" (topS 79), mkD "person_text" (topS 64), mkD "part_text" (topS 65), mkD "book_text" (topS 66), mkD "is_number_text" (topS 67), mkD "are_number_texts" (topS 68), mkD "is_list_text" (topS 69), mkD "list_read" (topS 70), mkD "person_read" (topS 71), mkD "folk_read" (topS 72), mkD "deed_tail_read" (topS 73)]
def fn2 : List He.DefD := [mkD "tail_read" (topS 74), mkD "entry_read" (topS 75), mkD "parts_read" (topS 76), mkD "book_read" (topS 77), mkD "_law_named" (topS 92), mkD "_law_due_of" (topS 93), mkD "_law_new_entry" (topS 94), mkD "_law_written" (topS 95), mkD "_law_due_out" (topS 96), mkD "_law_torn_right" (topS 97), mkD "law" (topS 98), ⟨("Scribe", some "__init__"), "__init__", "Scribe.__init__", defArgs (L2.inClass (topS 80) 0), defBody (L2.inClass (topS 80) 0), defScope (L2.inClass (topS 80) 0), [], []⟩, ⟨("Scribe", some "turn_to"), "turn_to", "Scribe.turn_to", defArgs (L2.inClass (topS 80) 1), defBody (L2.inClass (topS 80) 1), defScope (L2.inClass (topS 80) 1), [], []⟩, ⟨("Scribe", some "write"), "write", "Scribe.write", defArgs (L2.inClass (topS 80) 2), defBody (L2.inClass (topS 80) 2), defScope (L2.inClass (topS 80) 2), [], []⟩, ⟨("Scribe", some "tear"), "tear", "Scribe.tear", defArgs (L2.inClass (topS 80) 3), defBody (L2.inClass (topS 80) 3), defScope (L2.inClass (topS 80) 3), [], []⟩, ⟨("Scribe", some "undo"), "undo", "Scribe.undo", defArgs (L2.inClass (topS 80) 4), defBody (L2.inClass (topS 80) 4), defScope (L2.inClass (topS 80) 4), [], []⟩, ⟨("Scribe", some "book"), "book", "Scribe.book", defArgs (L2.inClass (topS 80) 5), defBody (L2.inClass (topS 80) 5), defScope (L2.inClass (topS 80) 5), [], []⟩, ⟨("Scribe", some "standing"), "standing", "Scribe.standing", defArgs (L2.inClass (topS 80) 6), defBody (L2.inClass (topS 80) 6), defScope (L2.inClass (topS 80) 6), [.int 9999], []⟩, ⟨("Scribe", some "twin"), "twin", "Scribe.twin", defArgs (L2.inClass (topS 80) 7), defBody (L2.inClass (topS 80) 7), defScope (L2.inClass (topS 80) 7), [], []⟩, ⟨("Scribe", some "__len__"), "__len__", "Scribe.__len__", defArgs (L2.inClass (topS 80) 8), defBody (L2.inClass (topS 80) 8), defScope (L2.inClass (topS 80) 8), [], []⟩, ⟨("Scribe", some "__eq__"), "__eq__", "Scribe.__eq__", defArgs (L2.inClass (topS 80) 9), defBody (L2.inClass (topS 80) 9), defScope (L2.inClass (topS 80) 9), [], []⟩, ⟨("Scribe", some "__repr__"), "__repr__", "Scribe.__repr__", defArgs (L2.inClass (topS 80) 10), defBody (L2.inClass (topS 80) 10), defScope (L2.inClass (topS 80) 10), [], []⟩, ⟨("Scribe", some "__str__"), "__str__", "Scribe.__str__", defArgs (L2.inClass (topS 80) 11), defBody (L2.inClass (topS 80) 11), defScope (L2.inClass (topS 80) 11), [], []⟩]
def fnAll : List He.DefD := fn0 ++ (fn1 ++ (fn2))
def fa0 : List He.Fa := [.glo "_law_cell_at", .glo "_law_pen", .glo "_law_draw", .glo "_law_day", .glo "_law_folk", .glo "_law_mixed", .glo "_law_few", .glo "_law_deed", .glo "_law_act", .glo "_law_book", .glo "is_whole", .glo "is_within", .glo "is_day", .glo "is_age", .glo "is_person", .glo "is_folk", .glo "is_rising", .glo "is_rising_below", .glo "is_deed_tail", .glo "is_act_tail", .glo "is_entry", .glo "names_fit", .glo "is_book", .glo "entries_rising", .glo "deed_entries", .glo "act_entries", .glo "deeds_of", .glo "acts_of", .glo "check_day", .glo "check_deed", .glo "open_acts", .glo "acts_on", .glo "acts_in_force", .glo "word_of_deed", .glo "all_standing", .glo "standing_of", .glo "named_in", .glo "with_entry"]
def fa1 : List He.Fa := [.glo "without_entry", .glo "by_numbers", .glo "person_text", .glo "part_text", .glo "book_text", .glo "is_number_text", .glo "are_number_texts", .glo "is_list_text", .glo "list_read", .glo "person_read", .glo "folk_read", .glo "deed_tail_read", .glo "tail_read", .glo "entry_read", .glo "parts_read", .glo "book_read", .glo "_law_named", .glo "_law_due_of", .glo "_law_new_entry", .glo "_law_written", .glo "_law_due_out", .glo "_law_torn_right", .glo "law", .free "range", .free "min", .free "max", .free "tuple", .free "list", .free "len", .free "sorted", .free "int", .free "isinstance", .free "bool", .free "dict", .free "any", .free "all", .free "zip", .free "str"]
def fa2 : List He.Fa := [.free "repr", .int "NUMBER" 0, .int "WORD" 4, .int "DAY" 1, .int "WRITTEN" 2, .int "OF" 5, .int "RESTS" 7, .int "LAST_DAY" 9999, .int "LAST_NUMBER" 30, .int "LAST_HAND" 3, .int "MOST_FOLK" 6, .int "MOST_ENTRIES" 16, .int "MOST_RESTS" 2, .int "MOST_WITNESSES" 3, .int "MOST_FIGURES" 40, .glo "CARRYING", .glo "ACT_WORDS", .glo "Scribe", .glo "NoFolk", .glo "NoAge", .glo "NothingDone", .exc "NoFolk", .exc "NoAge", .exc "NothingDone", .exm "NoFolk" "NoFolk" true, .exm "NoAge" "NoAge" true, .exm "NothingDone" "NothingDone" true, .cls "Scribe", .noat "Scribe" "kept", .noat "Scribe" "earlier", .mkr "Scribe", .meth "Scribe" "turn_to", .meth "Scribe" "write", .meth "Scribe" "tear", .meth "Scribe" "undo", .meth "Scribe" "book", .meth "Scribe" "standing", .meth "Scribe" "twin"]
def faAll : List He.Fa := fa0 ++ (fa1 ++ (fa2))
def tfAll : List He.Defn := [("entries_rising", none)]
abbrev tsAll : List He.Tab := []
def exAll (K : PySem.W.Frag) : Bool := He.tupB K "CARRYING" [.str "stands", .str "paid"] && (He.tupB K "ACT_WORDS" [.str "paid", .str "void", .str "undone"] && ((decide (PySem.W.findIn K (.ref (He.ga K "Scribe")) "__len__" = some (some (.ref (He.fAd K ("Scribe", some "__len__"))))) && PySem.W.isFn K (.ref (He.fAd K ("Scribe", some "__len__")))) && ((decide (PySem.W.findIn K (.ref (He.ga K "Scribe")) "__repr__" = some (some (.ref (He.fAd K ("Scribe", some "__repr__"))))) && PySem.W.isFn K (.ref (He.fAd K ("Scribe", some "__repr__")))) && ((decide (PySem.W.findIn K (.ref (He.ga K "Scribe")) "__str__" = some (some (.ref (He.fAd K ("Scribe", some "__str__"))))) && PySem.W.isFn K (.ref (He.fAd K ("Scribe", some "__str__")))) && ((decide (PySem.W.findIn K (.ref (He.ga K "Scribe")) "__eq__" = some (some (.ref (He.fAd K ("Scribe", some "__eq__"))))) && PySem.W.isFn K (.ref (He.fAd K ("Scribe", some "__eq__")))) && (decide (PySem.W.findIn K (.ref (He.ga K "Scribe")) "__ne__" = some (some (.builtin "object.__ne__"))) && (decide (PySem.W.mroIn K (He.ga K "Scribe") (.type "object") = some true) && (decide (PySem.W.findIn K (.ref (He.ga K "Scribe")) "__class__" = some (some (.builtin "object.__class__"))) && (decide (PySem.W.specialIn K (.builtin "object.__class__") "__get__" = some (some (.builtin "getset_descriptor.__get__"))) && (decide (PySem.W.takesIn K (.builtin "object.__class__") = some true) && (decide (PySem.W.kitOne K (.ref (He.ga K "Scribe")) (.ref (He.ga K "Scribe")) = some true))))))))))))
abbrev rowR : PySem.W.OpenRow := PySem.W.OpenLaw.row PySem.Challenge.rw_deedsheaf_k74_whole_a_scribe_and_their_b
abbrev twV : Unit := ()
def two (_ : PySem.W.Frag) : Unit := ()
def kOf (g : Addr → Option Obj) : PySem.W.Frag := He.frT g (PySem.cStatics :: He.asD g 5)
theorem says_as {fa : List He.Fa} {fn : List He.DefD} {ts : List He.Tab} {tf : List He.Defn} {ex : PySem.W.Frag → Bool} {w : World} {h : Heap} {K : PySem.W.Frag} (hn : ∀ a o, h.get? a = some o → He.emptyTab o = true → K.lookup a = none) (e1 : He.obsT fa fn ts K = He.valT fn ts w) (e2 : (ex K && He.tabsB h.get? tf K) = true) : He.SaysX fa fn ts tf ex w h K := by
  obtain ⟨h1, h2⟩ := He.ba e2
  have key := fun p hp => He.ba (List.all_eq_true.mp h2 p hp)
  refine ⟨e1, h1, fun p hp => (key p hp).1, fun p hp => ?_, fun p hp => ?_⟩
  · have h3 := (key p hp).2
    split at h3
    · rename_i o q
      exact hn _ _ q h3
    · cases h3
  · have h3 := (key p hp).2
    split at h3
    · rename_i o q
      rw [q, He.emptyTab_eq h3]
    · cases h3
def hk : PySem.W.Hook where
  α := (He.AlT × Bool) × (Unit)
  obs := fun s => ((He.obsT faAll fnAll tsAll (kOf s.heap.get?), exAll (kOf s.heap.get?) && He.tabsB s.heap.get? tfAll (kOf s.heap.get?)), two (kOf s.heap.get?))
  val := fun w => ((He.valT fnAll tsAll w, true), twV)
  says := fun w h => ∃ K : PySem.W.Frag, K.In h ∧ He.SaysX faAll fnAll tsAll tfAll exAll w h K ∧ two K = twV
  of := fun _ _ e => ⟨_, He.frT_in, says_as (fun _ _ q z => He.frT_none q z) (congrArg (fun z : (He.AlT × Bool) × (Unit) => z.1.1) e) (congrArg (fun z : (He.AlT × Bool) × (Unit) => z.1.2) e), congrArg (fun z : (He.AlT × Bool) × (Unit) => z.2) e⟩
  keeps := fun _ _ _ ⟨K, hK, c, e⟩ k => ⟨K, PySem.W.Frag.In.keeps hK k, ⟨c.t, c.more, c.hd, c.out, fun p hp => k _ _ (c.empty p hp)⟩, e⟩
def ob (s : PySem.W.SharedT) : (He.AlT × Bool) × (Unit) := ((He.obsT faAll fnAll tsAll (kOf (HandSHeadRun.getT s)), exAll (kOf (HandSHeadRun.getT s)) && He.tabsB (HandSHeadRun.getT s) tfAll (kOf (HandSHeadRun.getT s))), two (kOf (HandSHeadRun.getT s)))
theorem ob_eq (s : PySem.W.SharedT) : ob s = hk.obs s.abs := by
  have e : HandSHeadRun.getT s = s.abs.heap.get? := funext (HandSHeadRun.getT_eq s)
  unfold ob
  rw [e] <;> rfl
def looseAll : List Str := (["NUMBER", "DAY", "WRITTEN", "WORD", "OF", "RESTS", "ACT_WORDS", "LAST_DAY", "LAST_NUMBER", "LAST_HAND", "MOST_FOLK", "MOST_ENTRIES"] : List Str) ++ (["MOST_RESTS", "MOST_WITNESSES", "is_whole", "is_within", "is_day", "is_age", "is_person", "is_folk", "is_rising", "is_rising_below", "is_deed_tail", "is_act_tail"] : List Str) ++ (["is_entry", "names_fit", "is_book", "entries_rising", "deed_entries", "act_entries", "deeds_of", "acts_of", "SheafError", "NoDay", "NoDeed", "NoEntry"] : List Str) ++ (["NoName", "TooMany", "Missing", "NoFolk", "NoAge", "NothingDone", "NoText", "Twice", "Named", "check_day", "check_deed", "CARRYING"] : List Str) ++ (["open_acts", "acts_on", "acts_in_force", "word_of_deed", "standing_of", "all_standing", "named_in", "with_entry", "without_entry", "MOST_FIGURES", "person_text", "part_text"] : List Str) ++ (["book_text", "is_number_text", "are_number_texts", "is_list_text", "list_read", "person_read", "folk_read", "deed_tail_read", "tail_read", "entry_read", "parts_read", "book_read"] : List Str) ++ (["by_numbers", "Scribe", "_law_pen", "_law_cell_at", "_law_draw", "_law_folk", "_law_mixed", "_law_day", "_law_few", "_law_deed", "_law_act", "_law_book"] : List Str) ++ (["_law_named", "_law_due_of", "_law_new_entry", "_law_written", "_law_due_out", "_law_torn_right"] : List Str)
theorem obsD_app {fa1 fa2 : List He.Fa} {fn1 fn2 : List He.DefD} {K : PySem.W.Frag} (h1 : He.obsD fa1 fn1 K = He.valD fn1) (h2 : He.obsD fa2 fn2 K = He.valD fn2) : He.obsD (fa1 ++ fa2) (fn1 ++ fn2) K = He.valD (fn1 ++ fn2) := by
  unfold He.obsD He.valD at *
  injection h1 with a1 b1
  injection h2 with a2 b2
  obtain ⟨c1, d1⟩ := He.ba a1
  obtain ⟨c2, d2⟩ := He.ba a2
  rw [List.all_append, List.all_append, List.map_append, List.map_append, c1, c2, d1, d2, b1, b2]
  rfl
theorem someR_of {α β : Type} {x : Option α} {f : α → β} {b : β} (h : x.map f = some b) : ∃ s, x = some s ∧ f s = b := by
  cases x with
  | none => cases h
  | some s => exact ⟨s, rfl, by injection h⟩
theorem atR_of {α β : Type} {x : Option α} {f : α → β} {b : β} {s : α} (h : x.map f = some b) (e : x = some s) : f s = b := by
  rw [e] at h
  injection h
open HandSHeadRun PySem.W in
theorem runA (w : World) (os : OsState) : (endF (stepQ (denQ tabQ) rowR.prog w) 12000 rowR.prog w os).map (fun s => looksF rowR.prog (boot_heap w.params) s.abs) = some true := by
  kernel_rfl
open HandSHeadRun PySem.W in
theorem runB (w : World) (os : OsState) : (endF (stepQ (denQ tabQ) rowR.prog w) 12000 rowR.prog w os).map (fun s => seenQ (view rowR.prog [98]) looseAll (importedModules rowR.prog.main.body) (fun s => xlAt (view rowR.prog [98]) [] s && recOk rowR.toRowW.records s) s.abs) = some (openGood (view rowR.prog [98]) looseAll) := by
  kernel_rfl
open HandSHeadRun PySem.W in
theorem runC0 (w : World) (os : OsState) : (endF (stepQ (denQ tabQ) rowR.prog w) 12000 rowR.prog w os).map (fun s => He.obsD fa0 fn0 (kOf (HandSHeadRun.getT s))) = some (He.valD fn0) := by
  kernel_rfl
open HandSHeadRun PySem.W in
theorem runC1 (w : World) (os : OsState) : (endF (stepQ (denQ tabQ) rowR.prog w) 12000 rowR.prog w os).map (fun s => He.obsD fa1 fn1 (kOf (HandSHeadRun.getT s))) = some (He.valD fn1) := by
  kernel_rfl
open HandSHeadRun PySem.W in
theorem runC2 (w : World) (os : OsState) : (endF (stepQ (denQ tabQ) rowR.prog w) 12000 rowR.prog w os).map (fun s => He.obsD fa2 fn2 (kOf (HandSHeadRun.getT s))) = some (He.valD fn2) := by
  kernel_rfl
open HandSHeadRun PySem.W in
theorem runE (w : World) (os : OsState) : (endF (stepQ (denQ tabQ) rowR.prog w) 12000 rowR.prog w os).map (fun s => (tsAll.map fun t => He.dicW (kOf (HandSHeadRun.getT s)) (t.1 (kOf (HandSHeadRun.getT s))), exAll (kOf (HandSHeadRun.getT s)) && He.tabsB (HandSHeadRun.getT s) tfAll (kOf (HandSHeadRun.getT s)))) = some ((tsAll.map fun t => some (He.keysIn w.params t.2)), true) := by
  kernel_rfl
open HandSHeadRun PySem.W in
theorem runT (w : World) (os : OsState) : (endF (stepQ (denQ tabQ) rowR.prog w) 12000 rowR.prog w os).map (fun s => two (kOf (HandSHeadRun.getT s))) = some twV := by
  kernel_rfl
theorem mapC {x : Option PySem.W.SharedT} {fa1 fa2 : List He.Fa} {fn1 fn2 : List He.DefD} {KF : PySem.W.SharedT → PySem.W.Frag} (h1 : x.map (fun s => He.obsD fa1 fn1 (KF s)) = some (He.valD fn1)) (h2 : x.map (fun s => He.obsD fa2 fn2 (KF s)) = some (He.valD fn2)) : x.map (fun s => He.obsD (fa1 ++ fa2) (fn1 ++ fn2) (KF s)) = some (He.valD (fn1 ++ fn2)) := by
  obtain ⟨s, e, q⟩ := someR_of h1
  subst e
  injection h2 with h2
  exact congrArg some (obsD_app q h2)
theorem mapR {α β γ δ ε : Type} {x : Option PySem.W.SharedT} {A : PySem.W.SharedT → α} {a : α} {B : PySem.W.SharedT → β} {b : β} {C : PySem.W.SharedT → γ} {c : γ} {E1 : PySem.W.SharedT → δ} {E2 : PySem.W.SharedT → Bool} {d : δ} (hA : x.map A = some a) (hB : x.map B = some b) (hC : x.map C = some c) (hE : x.map (fun s => (E1 s, E2 s)) = some (d, true)) : x.map (fun s => (A s, B s, ((C s, E1 s), E2 s))) = some (a, b, ((c, d), true)) := by
  obtain ⟨s, e, q⟩ := someR_of hA
  subst e
  injection hB with hB
  injection hC with hC
  injection hE with hE
  injection hE with hE1 hE2
  show some (A s, B s, ((C s, E1 s), E2 s)) = _
  rw [q, hB, hC, hE1, hE2]
theorem mapT {α β γ δ ε : Type} {x : Option PySem.W.SharedT} {A : PySem.W.SharedT → α} {a : α} {B : PySem.W.SharedT → β} {b : β} {C : PySem.W.SharedT → γ} {c : γ} {E1 : PySem.W.SharedT → δ} {E2 : PySem.W.SharedT → Bool} {d : δ} {T1 : PySem.W.SharedT → ε} {t : ε} (hA : x.map A = some a) (hB : x.map B = some b) (hC : x.map C = some c) (hE : x.map (fun s => (E1 s, E2 s)) = some (d, true)) (hT : x.map T1 = some t) : x.map (fun s => (A s, B s, (((C s, E1 s), E2 s), T1 s))) = some (a, b, (((c, d), true), t)) := by
  obtain ⟨s, e, q⟩ := someR_of hA
  subst e
  injection hB with hB
  injection hC with hC
  injection hE with hE
  injection hE with hE1 hE2
  injection hT with hT
  show some (A s, B s, (((C s, E1 s), E2 s), T1 s)) = _
  rw [q, hB, hC, hE1, hE2, hT]
open HandSHeadRun PySem.W in
theorem run (w : World) : HandSHeadRun.RunEq rowR (PySem.W.view rowR.prog [98]) hk ob 12000 looseAll w := by
  intro os
  exact mapT (runA w os) (runB w os) (mapC (KF := fun s => (kOf (HandSHeadRun.getT s))) (runC0 w os) (mapC (KF := fun s => (kOf (HandSHeadRun.getT s))) (runC1 w os) (runC2 w os))) (runE w os) (runT w os)
end Deed

namespace Deed
open PySem PySem.Spec PyProof.Rows L2
/-- a def of the top: where it stands, how its arguments come, its name -/
structure Df (K : PySem.W.Frag) (mg : Str → Option Value) (x : Str) (st : Stmt) (ps : List Str) (f : Addr) (fd : FuncData) : Prop where
  F : Fun K x x st f fd
  b : Binds K fd ps []
  g : mg x = some (.ref f)
theorem am0 {φ : V → Prop} : ∀ y ∈ ([] : List V), φ y := fun _ h => nomatch h
theorem am1 {φ : V → Prop} {x : V} {xs : List V} (h : φ x) (r : ∀ y ∈ xs, φ y) : ∀ y ∈ x :: xs, φ y := fun y hy => (List.mem_cons.mp hy).elim (fun e => e ▸ h) (r y)
/-- an item of a written list at an open place -/
theorem pick {xs : List V} {i : Int} (φ : V → Prop) (h0 : 0 ≤ i) (h1 : i < (xs.length : Int)) (hx : ∀ x ∈ xs, φ x) : ∃ v, atI xs i = some v ∧ φ v := by
  have hk : i.toNat < xs.length := by omega
  exact ⟨xs[i.toNat], at_of (j := i.toNat) (by omega) (List.getElem?_eq_getElem hk), hx _ (List.getElem_mem hk)⟩
/-- an int within bounds -/
def Within (lo hi : Int) (x : V) : Prop := ∃ n : Int, x = .int n ∧ lo ≤ n ∧ n ≤ hi
section
variable {P : Program} {w : World} {K : PySem.W.Frag} {mg : Str → Option Value} {base : Heap} {fDr : Addr} {dDr : FuncData}
abbrev DrawD (K : PySem.W.Frag) (mg : Str → Option Value) := Df K mg "_law_draw" sDraw ["_law_pen_here", "_law_bound"]
/-- a person at x -/
def PersonAt (H : Hp) (x : V) : Prop := ∃ (a : Addr) (b : Int) (d : V), x = .ref a ∧ H a = some (.tup [.int b, d]) ∧ -9999 ≤ b ∧ b ≤ 9998 ∧ (d = .non ∨ ∃ i : Int, d = .int i ∧ b < i ∧ i ≤ 9999)
theorem PersonAt.kp {p : Addr} {H H' : Hp} {x : V} (h : PersonAt H x) (k : Kp p H H') (P : PenAt H p) : PersonAt H' x := by
  obtain ⟨a, b, d, e, h1, r⟩ := h
  exact ⟨a, b, d, e, k _ _ (P.ne h1 fun _ z => by cases z) h1, r⟩
def FolkAt (H : Hp) (t : Addr) (n : Nat) : Prop := ∃ xs : List V, H t = some (.tup xs) ∧ xs.length = n ∧ ∀ x ∈ xs, PersonAt H x
theorem FolkAt.kp {p : Addr} {H H' : Hp} {t : Addr} {n : Nat} (h : FolkAt H t n) (k : Kp p H H') (P : PenAt H p) : FolkAt H' t n := by
  obtain ⟨xs, h1, h2, h3⟩ := h
  exact ⟨xs, k _ _ (P.ne h1 fun _ z => by cases z) h1, h2, fun x hx => (h3 x hx).kp k P⟩
end
end Deed

namespace Deed
open PySem PySem.Spec PyProof.Rows L2
theorem seqIx {i : Int} {n : Nat} (h0 : 0 ≤ i) (h1 : i < n) : seqIndex? i n = some i.toNat := seqIndex_of h0 h1
theorem rising_of {l : List Int} (hn : l.Nodup) (hp : l.Pairwise (· ≤ ·)) : l.Pairwise (· < ·) := by
  induction l with
  | nil => exact .nil
  | cons x r ih =>
    have h1 := List.nodup_cons.mp hn
    have h2 := List.pairwise_cons.mp hp
    refine List.pairwise_cons.mpr ⟨fun y hy => ?_, ih h1.2 h2.2⟩
    have h3 := h2.1 y hy
    have h4 : x ≠ y := fun e => h1.1 (e ▸ hy)
    omega
theorem perm_erase {α : Type} {l : List α} {k : Nat} {y : α} (h : l[k]? = some y) : (y :: l.eraseIdx k).Perm l := by
  induction l generalizing k with
  | nil => simp at h
  | cons a r ih =>
    cases k with
    | zero =>
      have e : a = y := by simpa using h
      subst e
      exact List.Perm.refl _
    | succ k =>
      have h' : r[k]? = some y := by simpa using h
      show (y :: a :: r.eraseIdx k).Perm (a :: r)
      exact (List.Perm.swap a y _).trans ((ih h').cons a)
theorem erase_map {α β : Type} (f : α → β) : ∀ (l : List α) (k : Nat), (l.map f).eraseIdx k = (l.eraseIdx k).map f
  | [], _ => rfl
  | _ :: _, 0 => rfl
  | a :: r, k + 1 => congrArg (List.cons (f a)) (erase_map f r k)
end Deed

namespace Deed
open PySem PySem.Spec PyProof.Rows L2
/-! ### lists of ints compared -/
theorem dp_ints {K : PySem.W.Frag} {H : Hp} : ∀ ns : List Int, DpAll K H (ns.map V.int) (ns.map PyData.int)
  | [] => .nil
  | n :: r => .cons (.int n) (dp_ints r)
theorem lay_ints : ∀ ns : List Int, PyData.canLayAll0 (ns.map PyData.int) = true
  | [] => by simp [PyData.canLayAll0]
  | n :: r => by simp [PyData.canLayAll0, PyData.canLay0, lay_ints r]
theorem depth_ints : ∀ ns : List Int, PyData.depthAll (ns.map PyData.int) ≤ 1
  | [] => by simp [PyData.depthAll]
  | n :: r => by
    have h := depth_ints r
    simp only [List.map_cons, PyData.depthAll, PyData.depth]
    omega
theorem shaped_ints (ns : List Int) : SeqAt.shaped (.list (ns.map PyData.int)) = true := by
  have h1 := depth_ints ns
  have h2 : PyData.depth (.list (ns.map PyData.int)) ≤ 64 := by
    simp only [PyData.depth]
    omega
  show (PyData.canLay0 (.list (ns.map PyData.int)) && decide (PyData.depth (.list (ns.map PyData.int)) ≤ 64)) = true
  rw [Bool.and_eq_true]
  exact ⟨by simp only [PyData.canLay0]; exact lay_ints ns, decide_eq_true h2⟩
theorem eqvAll_ints : ∀ ns ms : List Int, PyData.eqvAll (ns.map PyData.int) (ms.map PyData.int) = decide (ns = ms)
  | [], [] => by simp [PyData.eqvAll]
  | [], _ :: _ => by simp [PyData.eqvAll]
  | _ :: _, [] => by simp [PyData.eqvAll]
  | n :: r, m :: q => by
    simp only [List.map_cons, PyData.eqvAll, PyData.eqv, eqvAll_ints r q]
    by_cases h : n = m
    · subst h
      simp
    · simp [h]
theorem eqv_ints (ns ms : List Int) : PyData.eqv (.list (ns.map PyData.int)) (.list (ms.map PyData.int)) = decide (ns = ms) := by
  simp only [PyData.eqv]
  exact eqvAll_ints ns ms
theorem mem_inV {n : Int} {ns : List Int} : inV (.int n) (ns.map V.int) = decide (n ∈ ns) := by
  induction ns with
  | nil => simp [inV]
  | cons m r ih =>
    have e : inV (.int n) ((m :: r).map V.int) = (eqV (.int m) (.int n) || inV (.int n) (r.map V.int)) := by simp [inV]
    have e2 : eqV (.int m) (.int n) = decide (m = n) := by
      first | rfl | simp [eqV] | (unfold eqV; simp)
    rw [e, ih, e2]
    by_cases h : m = n
    · subst h
      simp
    · have h' : ¬ n = m := fun z => h z.symm
      simp [h, h']
theorem flat_ints (ns : List Int) : (ns.map V.int).all flatV = true := by
  induction ns with
  | nil => rfl
  | cons n r ih =>
    rw [List.map_cons, List.all_cons, ih]
    rfl
/-! ### entries -/
inductive Kd where
  | deed (g t : Int) (rs ws : List Int)
  | act (x : Str) (o : Int)
structure En where
  num : Int
  day : Int
  wri : Int
  hand : Int
  kd : Kd
def En.isDeed (e : En) : Bool := match e.kd with
  | .deed _ _ _ _ => true
  | .act _ _ => false
/-- the entry e at the address a -/
def EntAt (H : Hp) (a : Addr) (e : En) : Prop := match e.kd with
  | .deed g t rs ws => ∃ r w : Addr, H a = some (.tup [.int e.num, .int e.day, .int e.wri, .int e.hand, .str "deed", .int g, .int t, .ref r, .ref w]) ∧ H r = some (.tup (rs.map V.int)) ∧ H w = some (.tup (ws.map V.int))
  | .act x o => H a = some (.tup [.int e.num, .int e.day, .int e.wri, .int e.hand, .str x, .int o])
/-- all that isn't a list is kept -/
def KpT (H H' : Hp) : Prop := ∀ b xs, H b = some (.tup xs) → H' b = some (.tup xs)
theorem Kp.tup {p : Addr} {H H' : Hp} (k : Kp p H H') (P : PenAt H p) : KpT H H' := fun b xs e => k _ _ (P.ne e fun _ z => by cases z) e
theorem Same.tup {H H' : Hp} (k : Same H H') : KpT H H' := fun b xs e => k _ _ e
theorem KpT.trans {H H1 H2 : Hp} (a : KpT H H1) (b : KpT H1 H2) : KpT H H2 := fun c o h => b c o (a c o h)
theorem EntAt.kp {H H' : Hp} {a : Addr} {e : En} (h : EntAt H a e) (k : KpT H H') : EntAt H' a e := by
  unfold EntAt at h ⊢
  cases hk : e.kd with
  | deed g t rs ws =>
    rw [hk] at h
    obtain ⟨r, w, h1, h2, h3⟩ := h
    exact ⟨r, w, k _ _ h1, k _ _ h2, k _ _ h3⟩
  | act x o =>
    rw [hk] at h
    exact k _ _ h
def EnOk (n : Nat) (ds as : List Int) (e : En) : Prop := (0 ≤ e.day ∧ e.day ≤ 9999) ∧ (0 ≤ e.wri ∧ e.wri ≤ 9999) ∧ (0 ≤ e.hand ∧ e.hand ≤ 3) ∧ match e.kd with
  | .deed g t rs ws => (0 ≤ g ∧ g < n) ∧ (0 ≤ t ∧ t < n) ∧ g ≠ t ∧ rs.length ≤ 2 ∧ rs.Pairwise (· < ·) ∧ (∀ r ∈ rs, r ∈ ds ∧ r < e.num) ∧ ws.length ≤ 3 ∧ ws.Pairwise (· < ·) ∧ ∀ x ∈ ws, 0 ≤ x ∧ x < n ∧ x ≠ g ∧ x ≠ t
  | .act x o => ((x = "undone" ∧ o ∈ as) ∨ ((x = "paid" ∨ x = "void") ∧ o ∈ ds)) ∧ o < e.num
theorem EnOk.mono {n : Nat} {ds as ds' as' : List Int} {e : En} (h : EnOk n ds as e) (h1 : ∀ x ∈ ds, x ∈ ds') (h2 : ∀ x ∈ as, x ∈ as') : EnOk n ds' as' e := by
  unfold EnOk at h ⊢
  obtain ⟨a, b, c, d⟩ := h
  refine ⟨a, b, c, ?_⟩
  cases hk : e.kd with
  | deed g t rs ws =>
    rw [hk] at d
    obtain ⟨d1, d2, d3, d4, d5, d6, d7⟩ := d
    exact ⟨d1, d2, d3, d4, d5, fun r hr => ⟨h1 _ (d6 r hr).1, (d6 r hr).2⟩, d7⟩
  | act x o =>
    rw [hk] at d
    obtain ⟨d1, d2⟩ := d
    refine ⟨?_, d2⟩
    rcases d1 with ⟨z, m⟩ | ⟨z, m⟩
    · exact .inl ⟨z, h2 _ m⟩
    · exact .inr ⟨z, h1 _ m⟩
/-- the built-ins' names are the built-ins' -/
structure Bi (mg : Str → Option Value) : Prop where
  range : mg "range" = none
  min : mg "min" = none
  max : mg "max" = none
  tuple : mg "tuple" = none
  list : mg "list" = none
  len : mg "len" = none
  sorted : mg "sorted" = none
  int : mg "int" = none
end Deed

namespace Deed
open PySem PySem.Spec PyProof.Rows L2
def rLenS (K : PySem.W.Frag) : List V → Hp → VK → Prop := fun xs H Q => ∃ p ys, xs = [.ref p] ∧ (SqL K H p ys ∨ SqT K H p ys) ∧ Q (.int ys.length) H
section
variable {P : Program} {w : World} {K : PySem.W.Frag} {mg : Str → Option Value} {base : Heap} {fDr : Addr} {dDr : FuncData}
/-! ### in another order -/
abbrev sMixed : Stmt := topS 86
abbrev nMixed : List Str := ["_law_pen_here", "_law_some", "_law_left", "_law_k"]
theorem scMixed : FnScope nMixed ["_law_pen_here", "_law_some"] (defScope sMixed) := ⟨rfl, rfl, rfl, by decide +kernel, rfl, by decide +kernel, by decide +kernel⟩
def spMixed (K : PySem.W.Frag) : Sp := fun vs H Q _ => ∃ (p a : Addr) (xs : List V), vs = [.ref p, .ref a] ∧ PenAt H p ∧ (SqL K H a xs ∨ SqT K H a xs) ∧ xs.length ≤ 1000 ∧
  ∀ l (ys : List V) H', Kp p H H' → PenAt H' p → H l = none → H' l = some (.lst ys) → ys.Perm xs → Q (.ref l) H'
theorem ok_mixed {f : Addr} {fd : FuncData} {k : Nat} (F : Fun K "_law_mixed" "_law_mixed" sMixed f fd) (D : DrawD K mg fDr dDr) (B : Bi mg) : FnOk P w K mg base CX0 (k + 2) f fd ["_law_pen_here", "_law_some"] (spMixed K) := by
  have G : FnOk P w K mg base CX0 (k + 1) fDr dDr ["_law_pen_here", "_law_bound"] spDraw := ok_draw D.F
  refine F.ok scMixed (fun vs H Q E h => ?_) (fun cdv A outer s H vs Q E hr h => ?_)
  · obtain ⟨p, a, xs, rfl, _⟩ := h
    rfl
  · obtain ⟨p, a, xs, rfl, hP, hS, hxl, q⟩ := h
    refine ⟨_, pss_cons (ps_set (i := 2) scMixed.nd rfl (.inr rfl) (pe_callTy call_list_of (by rfl) B.list (by decide +kernel) (pa_cons (pv 1) pa_nil)))
      (pss_one (ps_ret (pe_lc (own := [("_law_k", 3)]) (g := gName 3) (by rfl) scMixed.nd (pi_range1 (by rfl) B.range (pa_cons (pe_callB call_len_seq (by rfl) B.len PySem.boot_len (pa_cons (pv 2) pa_nil)) pa_nil)) (blkOk_by (own := [("_law_k", 3)]) (N := nMixed) (sc := defScope sMixed) (by decide +kernel)) (fun _ _ _ _ _ => pg_name (i := 3) scMixed.nd rfl (Or.inl rfl)) (fun _ _ _ _ _ => pts_nil)
        (fun _ _ _ _ _ => show PE _ _ (tBM K "list" rPopAt (tVar 2) (tCons (tCall spDraw [] E0 (tCons (tVar 0) (tCons (tCB (rLenS K) (tCons (tVar 2) tNil)) tNil))) tNil)) from pe_bm PySem.F.plainAttrs_list PySem.F.slot_list_pop PySem.F.type_list_pop mt_popAt (pv 2) (pa_cons (pe_call G hr (by rfl) D.g D.F.kp D.b .nil pass0 (pa_cons (pv 0) (pa_cons (pe_callB call_len_seq (by rfl) B.len PySem.boot_len (pa_cons (pv 2) pa_nil)) pa_nil))) pa_nil))))), ?_⟩
    refine ⟨_, rfl, a, _, rfl, hS, fun l hl => ?_⟩
    have nl : l ≠ p := hP.free hl
    have el : (upd H l (.lst xs)) l = some (.lst xs) := upd_same
    refine ⟨_, rfl, l, xs, rfl, .inl (SqL.of el), _, rfl, by omega, by omega, fun o no => ?_⟩
    have no' : o ≠ p := (hP.new hl _).free no
    have nlo : l ≠ o := fun z => by
      rw [← z, el] at no
      cases no
    have hno : H o = none := by
      rw [upd_ne nlo.symm] at no
      exact no
    refine lc_range (lo := 0) (n := ((xs.length : Nat) : Int).toNat) (fun i H' => ∃ ys ls : List V, H' o = some (.lst ys) ∧ H' l = some (.lst ls) ∧ Kp p H H' ∧ PenAt H' p ∧ ys.length = i ∧ (ys ++ ls).Perm xs)
      ⟨[], xs, upd_same, by rw [upd_ne nlo]; exact el, (Kp.new hl _).trans (Kp.new no _), (hP.new hl _).new no _, rfl, List.Perm.refl _⟩ ?_ ?_
    · rintro i H' hi ⟨ys, ls, e1, e2, k', P', hyl, hpm⟩
      have hll : ls.length = xs.length - i := by
        have := hpm.length_eq
        rw [List.length_append] at this
        omega
      refine ⟨rfl, ?_⟩
      unfold tYes
      dsimp only
      rw [if_pos rfl]
      refine ⟨_, rfl, .inl ⟨rfl, _, SqL.of e2⟩, _, rfl, _, rfl, l, ls, rfl, .inl (SqL.of e2), p, _, rfl, P', by omega, by omega, fun v2 H2 k2 P2 a2 b2 => ?_⟩
      have e1' := k2 _ _ no' e1
      have e2' := k2 _ _ nl e2
      have hk : v2.toNat < ls.length := by omega
      refine ⟨l, _, v2, v2.toNat, ls[v2.toNat], rfl, rfl, e2', by omega, by omega, seqIx a2 (by omega), List.getElem?_eq_getElem hk, ?_⟩
      refine ⟨ys, by rw [upd_ne nlo.symm]; exact e1', small1000 (by omega), ys ++ [ls[v2.toNat]], ls.eraseIdx v2.toNat, upd_same, by rw [upd_ne nlo, upd_same], fun b z n1 e => ?_, ?_, ?_, ?_⟩
      · rw [upd_ne (ne_of_none e hno), upd_ne (ne_of_none e hl)]
        exact (k'.trans k2) _ _ n1 e
      · obtain ⟨x1, x2, x3, x4, z1, z2⟩ := P2
        exact ⟨x1, x2, x3, x4, by rw [upd_ne no'.symm, upd_ne nl.symm]; exact z1, z2⟩
      · rw [List.length_append, hyl]
        rfl
      · have h1 : (ls[v2.toNat] :: ls.eraseIdx v2.toNat).Perm ls := perm_erase (List.getElem?_eq_getElem hk)
        refine List.Perm.trans ?_ hpm
        rw [List.append_assoc]
        exact List.Perm.append_left ys h1
    · rintro H' ⟨ys, ls, e1, e2, k', P', hyl, hpm⟩
      refine q o ys H' k' P' hno e1 ?_
      have h0 : ls = [] := by
        have := hpm.length_eq
        rw [List.length_append] at this
        exact List.length_eq_zero_iff.mp (by omega)
      rw [h0, List.append_nil] at hpm
      exact hpm
end
end Deed

namespace Deed
open PySem PySem.Spec PyProof.Rows L2
theorem perm_pairs {α β : Type} (f : α → β) {ys xs : List β} (h : ys.Perm xs) : ∀ zs : List α, xs = zs.map f → ∃ zs' : List α, ys = zs'.map f ∧ zs'.Perm zs := by
  induction h with
  | nil =>
    intro zs e
    cases zs with
    | nil => exact ⟨[], rfl, List.Perm.refl _⟩
    | cons z r => cases e
  | cons x _ ih =>
    intro zs e
    cases zs with
    | nil => cases e
    | cons z r =>
      rw [List.map_cons] at e
      injection e with e1 e2
      obtain ⟨zs', h1, h2⟩ := ih r e2
      exact ⟨z :: zs', by rw [List.map_cons, ← h1, e1], h2.cons z⟩
  | swap x y l =>
    intro zs e
    match zs, e with
    | [], e => cases e
    | [_], e => cases e
    | a :: b :: r, e =>
      rw [List.map_cons, List.map_cons] at e
      injection e with e1 e2
      injection e2 with e2 e3
      exact ⟨b :: a :: r, by rw [List.map_cons, List.map_cons, ← e1, ← e2, ← e3], List.Perm.swap _ _ _⟩
  | trans _ _ ih1 ih2 =>
    intro zs e
    obtain ⟨z1, h1, h2⟩ := ih2 zs e
    obtain ⟨z2, h3, h4⟩ := ih1 z1 h1
    exact ⟨z2, h3, h4.trans h2⟩
def dn (es : List En) : List Int := (es.filter (·.isDeed)).map (·.num)
def an (es : List En) : List Int := (es.filter (fun e => !e.isDeed)).map (·.num)
theorem dn_snoc (es : List En) (e : En) : dn (es ++ [e]) = dn es ++ (if e.isDeed then [e.num] else []) := by
  unfold dn
  rw [List.filter_append, List.map_append]
  cases h : e.isDeed <;> simp [List.filter, h]
theorem an_snoc (es : List En) (e : En) : an (es ++ [e]) = an es ++ (if e.isDeed then [] else [e.num]) := by
  unfold an
  rw [List.filter_append, List.map_append]
  cases h : e.isDeed <;> simp [List.filter, h]
theorem dn_sub (es : List En) : ∀ x ∈ dn es, x ∈ es.map (·.num) := fun x hx => by
  obtain ⟨e, he, rfl⟩ := List.mem_map.mp hx
  exact List.mem_map.mpr ⟨e, (List.mem_filter.mp he).1, rfl⟩
theorem an_sub (es : List En) : ∀ x ∈ an es, x ∈ es.map (·.num) := fun x hx => by
  obtain ⟨e, he, rfl⟩ := List.mem_map.mp hx
  exact List.mem_map.mpr ⟨e, (List.mem_filter.mp he).1, rfl⟩
theorem dn_nodup {es : List En} (h : (es.map (fun e => e.num)).Nodup) : (dn es).Nodup := by
  have h1 : (es.filter (fun e => e.isDeed)).Sublist es := List.filter_sublist
  exact (h1.map (fun e => e.num)).nodup h
theorem dn_len (es : List En) : (dn es).length ≤ es.length := by
  unfold dn
  rw [List.length_map]
  exact List.length_filter_le _ _
theorem an_len (es : List En) : (an es).length ≤ es.length := by
  unfold an
  rw [List.length_map]
  exact List.length_filter_le _ _
theorem mem_dn {es : List En} {x : Int} : x ∈ dn es ↔ ∃ e ∈ es, e.isDeed = true ∧ e.num = x := by
  unfold dn
  simp only [List.mem_map, List.mem_filter]
  constructor
  · rintro ⟨e, ⟨h1, h2⟩, h3⟩
    exact ⟨e, h1, h2, h3⟩
  · rintro ⟨e, h1, h2, h3⟩
    exact ⟨e, ⟨h1, h2⟩, h3⟩
theorem mem_an {es : List En} {x : Int} : x ∈ an es ↔ ∃ e ∈ es, e.isDeed = false ∧ e.num = x := by
  unfold an
  simp only [List.mem_map, List.mem_filter, Bool.not_eq_true']
  constructor
  · rintro ⟨e, ⟨h1, h2⟩, h3⟩
    exact ⟨e, h1, h2, h3⟩
  · rintro ⟨e, h1, h2, h3⟩
    exact ⟨e, ⟨h1, h2⟩, h3⟩
/-- entries of a book of n folk -/
structure BkOk (n : Nat) (es : List En) : Prop where
  nd : (es.map (·.num)).Nodup
  rng : ∀ e ∈ es, 0 ≤ e.num ∧ e.num ≤ 30
  ok : ∀ e ∈ es, EnOk n (dn es) (an es) e
theorem BkOk.perm {n : Nat} {es es' : List En} (h : BkOk n es) (p : es'.Perm es) : BkOk n es' := by
  refine ⟨(p.map _).nodup_iff.mpr h.nd, fun e he => h.rng e (p.mem_iff.mp he), fun e he => (h.ok e (p.mem_iff.mp he)).mono (fun x hx => ?_) fun x hx => ?_⟩
  · obtain ⟨e', h1, h2⟩ := mem_dn.mp hx
    exact mem_dn.mpr ⟨e', p.mem_iff.mpr h1, h2⟩
  · obtain ⟨e', h1, h2⟩ := mem_an.mp hx
    exact mem_an.mpr ⟨e', p.mem_iff.mpr h1, h2⟩
def En.word (e : En) : Str := match e.kd with
  | .deed _ _ _ _ => "deed"
  | .act x _ => x
theorem EnOk.word {n : Nat} {ds as : List Int} {e : En} (h : EnOk n ds as e) : e.word = "deed" ↔ e.isDeed = true := by
  unfold En.word En.isDeed
  cases hk : e.kd with
  | deed g t rs ws => simp
  | act x o =>
    have h4 := h.2.2.2
    rw [hk] at h4
    simp only [Bool.false_eq_true, iff_false]
    rcases h4.1 with ⟨z, _⟩ | ⟨z | z, _⟩ <;> rw [z] <;> decide
/-- the first places of an entry -/
theorem EntAt.tup {H : Hp} {a : Addr} {e : En} (h : EntAt H a e) : ∃ xs, H a = some (.tup xs) ∧ atI xs 0 = some (.int e.num) ∧ atI xs 1 = some (.int e.day) ∧ atI xs 2 = some (.int e.wri) ∧ atI xs 3 = some (.int e.hand) ∧ atI xs 4 = some (.str e.word) := by
  unfold EntAt at h
  unfold En.word
  cases hk : e.kd with
  | deed g t rs ws =>
    rw [hk] at h
    obtain ⟨r, w, h1, _⟩ := h
    exact ⟨_, h1, atI_nat (j := 0) rfl, atI_nat (j := 1) rfl, atI_nat (j := 2) rfl, atI_nat (j := 3) rfl, atI_nat (j := 4) rfl⟩
  | act x o =>
    rw [hk] at h
    exact ⟨_, h, atI_nat (j := 0) rfl, atI_nat (j := 1) rfl, atI_nat (j := 2) rfl, atI_nat (j := 3) rfl, atI_nat (j := 4) rfl⟩
theorem FolkAt.kpT {H H' : Hp} {t : Addr} {n : Nat} (h : FolkAt H t n) (k : KpT H H') : FolkAt H' t n := by
  obtain ⟨xs, h1, h2, h3⟩ := h
  refine ⟨xs, k _ _ h1, h2, fun x hx => ?_⟩
  obtain ⟨a, b, d, e, h4, r⟩ := h3 x hx
  exact ⟨a, b, d, e, k _ _ h4, r⟩
theorem KpT.lst {H : Hp} {l : Addr} {xs : List V} (e : H l = some (.lst xs)) (o : HO) : KpT H (upd H l o) := fun b ys h => by
  have nb : b ≠ l := fun z => by
    rw [z, e] at h
    cases h
  rw [upd_ne nb]
  exact h
theorem KpT.refl (H : Hp) : KpT H H := fun _ _ h => h
theorem Kp.over {p l : Addr} {H H' : Hp} (k : Kp p H H') (n : H l = none) (o : HO) : Kp p H (upd H' l o) := fun b u n1 e => by
  rw [upd_ne (ne_of_none e n)]
  exact k _ _ n1 e
theorem PenAt.put {p l : Addr} {H : Hp} (h : PenAt H p) (n : l ≠ p) (o : HO) : PenAt (upd H l o) p := by
  obtain ⟨x1, x2, x3, x4, z1, z2⟩ := h
  exact ⟨x1, x2, x3, x4, by rw [upd_ne n.symm]; exact z1, z2⟩
abbrev refs (zs : List (Addr × En)) : List V := zs.map fun z => .ref z.1
abbrev ens (zs : List (Addr × En)) : List En := zs.map (·.2)
/-- a book at b -/
structure BookAt (H : Hp) (b fk t : Addr) (n : Nat) (age : Int) (zs : List (Addr × En)) : Prop where
  at_ : H b = some (.tup [.ref fk, .int age, .ref t])
  folk : FolkAt H fk n
  n2 : 2 ≤ n
  n6 : n ≤ 6
  age0 : 0 ≤ age
  age1 : age ≤ 9999
  ents : H t = some (.tup (refs zs))
  ent : ∀ z ∈ zs, EntAt H z.1 z.2
  ok : BkOk n (ens zs)
  len : zs.length ≤ 16
theorem BookAt.kp {H H' : Hp} {b fk t : Addr} {n : Nat} {age : Int} {zs : List (Addr × En)} (h : BookAt H b fk t n age zs) (k : KpT H H') : BookAt H' b fk t n age zs :=
  ⟨k _ _ h.at_, h.folk.kpT k, h.n2, h.n6, h.age0, h.age1, k _ _ h.ents, fun z hz => (h.ent z hz).kp k, h.ok, h.len⟩
end Deed

namespace Deed
open PySem PySem.Spec PySem.W PyProof.Rows L2 LamX
/-! ### sorted(e, key=lambda x: x[0]) of a list or tuple of tuples -/
section
variable {prog : Program} {w : World} {A : Around} {E : Value → Shared → Prop} {s : Shared}
theorem collectT {l : Addr} {vs : List Value} {Q : List Value → Shared → Prop} (ht : s.heap.IsTuple l vs.toArray) (hsz : vs.length ≤ sizeLine)
    (h : Q vs { s with heap := (s.heap.push (seqObj "list" #[] 0)).update s.heap.objs.size (Obj.mapSeq (· ++ vs.toArray)) }) : wpAny (model prog w) A (collect (.ref l)) Q E s := by
  obtain ⟨ob, g0, gc, ep, gd⟩ := id ht
  have g1 : (s.heap.push (seqObj "list" #[] 0)).get? l = some ob := Heap.get?_push_of_some _ g0
  unfold collect
  refine wpAny_bind (m := _) (wpAny_runValue (codeAny_builtin entry_proto_collect' ?_))
  show wpAny _ _ (do again (.builtin "list.__iadd__" ⟨[← newList [], Value.ref l], []⟩)) _ _ s
  refine wpAny_bind (wpAny_newList (wpAny_pure ⟨Code.quiet_builtin _ (by decide +kernel), (codeAny_builtin entry_list_iadd' ?_)⟩))
  show wpAny _ _ (Builtin.List.listExtendWith (.ref s.heap.objs.size) (Value.ref l) (.ref s.heap.objs.size)) _ _ { s with heap := s.heap.push (seqObj "list" #[] 0) }
  unfold Builtin.List.listExtendWith
  refine wpAny_bind (wpAny_typeOf (T := "tuple") ⟨ob, g1, gc⟩ ?_)
  have tt : (Value.type "tuple" == Value.type "tuple") = true := by rfl
  rw [if_pos (by simp [tt])]
  refine wpAny_bind (listItems_at g1 gd ?_)
  refine wpAny_bind (listItems_at (n := 0) (xs := #[]) (Heap.get?_push_size _ rfl) rfl ?_)
  rw [if_neg (fun z => by simp at z)]
  refine wpAny_bind (listUpdate_at (n := 0) (xs := #[]) (Heap.get?_push_size _ rfl) rfl ?_ (Nat.zero_le _) (by show (#[] ++ vs.toArray).size ≤ sizeLine + 1; simp only [Array.size_append, List.size_toArray, List.length_nil]; omega))
  refine wpAny_pure (?_)
  show wpAny (model prog w) A (do let o ← load s.heap.objs.size; match o.data with | .seq xs _ => pure xs.toList | _ => unsupported "internal:collect") Q E { s with heap := (s.heap.push (seqObj "list" #[] 0)).update s.heap.objs.size (Obj.mapSeq (· ++ vs.toArray)) }
  refine wpAny_bind (wpAny_load (get?_update_seq (Heap.get?_push_size _ rfl) _) (?_))
  show wpAny _ _ (pure (((#[] : Array Value) ++ vs.toArray).toList)) Q E _
  rw [show (((#[] : Array Value) ++ vs.toArray).toList) = vs by simp]
  exact wpAny_pure h
theorem collectS {l : Addr} {vs : List Value} {Q : List Value → Shared → Prop} (hl : s.heap.IsList l vs.toArray ∨ s.heap.IsTuple l vs.toArray) (hsz : vs.length ≤ sizeLine)
    (h : Q vs { s with heap := (s.heap.push (seqObj "list" #[] 0)).update s.heap.objs.size (Obj.mapSeq (· ++ vs.toArray)) }) : wpAny (model prog w) A (collect (.ref l)) Q E s := by
  rcases hl with hl | hl
  · exact collect_list hl h hsz
  · exact collectT hl hsz h
/-- sorted(e, key=f), e a list or a tuple, the keys ints -/
theorem sortedK {β : Type} {l f : Addr} {vs : List Value} {bs : List β} {R : Value → β → Prop} {Q : Value → Shared → Prop} (k : β → Int) (hl : s.heap.IsList l vs.toArray ∨ s.heap.IsTuple l vs.toArray) (e : EachIs R vs bs) (hL : bs.length ≤ sizeLine) (hu : A.units + 66 < cLine)
    (turn : ∀ (v : Value) (x : β), R v x → x ∈ bs → ∀ (h : Heap) (tk : Nat), (∀ b o, s.heap.get? b = some o → h.get? b = some o) →
      wpAny (model prog w) A.in1.in1 (call (.ref f) [v]) (KeyPure (.int (k x)) { s with heap := h, toks := tk }) (fun _ _ => False) { s with heap := h, toks := tk })
    (h : ∀ out c h' tk, (∀ b o, s.heap.get? b = some o → h'.get? b = some o) → h'.get? (s.heap.objs.size + 1) = some (seqObj "list" (List.toArray out) c) → out.length = bs.length → EachIs R out (bs.mergeSort (dataLe false fun x => .int (k x))) →
      Q (.ref (s.heap.objs.size + 1)) { s with heap := h', toks := tk }) :
    wpAny (model prog w) A (call (.builtin "sorted") [.ref l] [(Str.ofString "key", .ref f)]) Q E s := by
  have hv : vs.length ≤ sizeLine := by rw [e.length]; exact hL
  have up : ∀ {g : Heap}, KeepsBut (s.heap.objs.size + 1) (copyHeap s.heap vs) g → ∀ b o, s.heap.get? b = some o → g.get? b = some o := fun kp b o z =>
    kp b o (Nat.ne_of_lt (Nat.lt_succ_of_lt (Heap.lt_size z))) (copyHeap_old z)
  have ez : ((s.heap.push (seqObj "list" #[] 0)).update s.heap.objs.size (Obj.mapSeq (· ++ vs.toArray))).objs.size = s.heap.objs.size + 1 := by rw [Heap.size_update, size_push']
  refine call_function_entry_kw kind_sorted plain_sorted entry_sorted (ksk_s1 _ _) ?_
  unfold Builtin.«sorted»
  refine wpAny_bind (m := checkCount "sorted" 1 1 _) (wpAny_pure (?_))
  refine wpAny_bind (collectS hl hv ?_)
  refine wpAny_bind (wpAny_newList (?_) hv)
  show wpAny _ _ _ _ _ { s with heap := copyHeap s.heap vs }
  rw [ez]
  refine wpAny_bind (wpAny_holding (wpAny_call_entry_kw slot_list_sort ⟨_, copyHeap_at s.heap vs, rfl⟩ entry_list_sort (?body) (ksk_l1 _ _)))
  case body =>
    show wpAny (model prog w) A.in1.in1 (Builtin.«list.sort» ⟨[.ref (s.heap.objs.size + 1)], [(Str.ofString "key", .ref f)]⟩) _ _ _
    rw [ksk_t1]
    refine keyH_tree (kz := bs.map fun x => PyData.int (k x)) (s := { s with heap := copyHeap s.heap vs }) (copyHeap_at s.heap vs) (by rw [List.length_map]; exact e.length.symm) hv (AllAlike.of fun _ _ => by simp [alike]) ?srt (fun d hd => ?dep)
      (keyH_turns (k := fun x => PyData.int (k x)) (s := { s with heap := copyHeap s.heap vs }) e fun v x hR hx h tk kp => turn v x hR hx h tk (up kp)) fun h' tk out c kp hD ko => ?fin
    case srt => exact Sortable.others fun _ => ⟨(fun z => nomatch z), (fun _ z => nomatch z)⟩
    case dep =>
      obtain ⟨x, _, rfl⟩ := List.mem_map.mp hd
      show A.units + 1 + 1 + PyData.depth (.int (k x)) < cLine
      simp only [PyData.depth]
      omega
    case fin =>
      exact ⟨_, rfl, wpAny_pure ⟨_, rfl, h out c h' tk (up kp) hD ((ko.length (by rw [List.length_map]; exact e.length.symm)).trans e.length) (keyedOut_each (fun x => PyData.int (k x)) ko e)⟩⟩
/-- the call of the lambda -/
theorem lam_key {f c' t : Addr} {x q : Str} {params : Arguments} {ix : Expr} {scope : Scope} {cl : List (Str × Addr)} {pm ctv : Value} {p1 p3 : Pos} {items : Array Value} {kk : Int} {u : Tok} {mg : Str → Option Value}
    (of : s.heap.get? f = some (kla_obj "<lambda>" q params (.Subscript (.Name x p1) ix p3) scope cl pm c' ctv)) (hcd : s.heap.CodeRec (.ref c') q) (hroom : A.depth < recursionLimit) (lim : s.heap.NoLimit) (ns : s.heap.Ns mainGlobals mg)
    (hk : scope.kind = .function) (hco : scope.isCoroutine = false) (hgen : scope.isGenerator = false) (hcell : ∀ y ∈ scope.names, y.2 ≠ .cell) (hloc : scope.names.lookup x = some .local)
    (hbind : ∀ v : Value, bindArgs (kla_fn "<lambda>" q params (.Subscript (.Name x p1) ix p3) scope cl pm (.ref c') ctv) ⟨[v], []⟩ = pure [(x, v)])
    (hix : ∀ (env : Env) (A : Around) (E : Value → Shared → Prop) (s' : Shared) (Q : Value → Shared → Prop), env.scope = scope → env.globals = mainGlobals → s'.heap.Ns mainGlobals mg → (∀ u tk, Q (.int 0 u) { s' with toks := tk }) → wpAny (model prog w) A (eval ix env) Q E s')
    (hpl : PlainIx ix) (hd : (x == ("__debug__" : Str)) = false) (ht : s.heap.IsTuple t items) (hx : items[0]? = some (.int kk u)) :
    wpAny (model prog w) A (call (.ref f) [.ref t]) (KeyPure (.int kk) s) (fun _ _ => False) s := by
  refine wpAny_call (kla_callFunE hroom of rfl hco hgen rfl hcd ?_)
  rw [hbind]
  refine wpAny_pure (wpAny_newFunctionEnv hcell (fun y hy => ?_) (fun h₁ hns hsb => ⟨lim.fresh _ hsb, ?_⟩) hk)
  · rw [List.mem_singleton.mp hy]
    exact hloc
  have kp : ∀ b o, s.heap.get? b = some o → h₁.get? b = some o := fun b o z => hsb.extBut b o (Nat.ne_of_lt (Heap.lt_size z)) (Heap.get?_push_of_some _ z)
  refine kla_codeExpr (Subscript_ (wpAny_Name (wpAny_loadName_local hk hloc hns (v := .ref t) (by simp) ?_) hd))
  refine hix _ _ _ _ _ rfl rfl (ns.keeps kp) fun u' tk' => ?_
  have ht1 : h₁.IsTuple t items := by
    obtain ⟨o, z1, z2, z3⟩ := ht
    exact ⟨o, kp _ _ z1, z2, z3⟩
  have hsz : 0 < items.size := by
    rcases Nat.eq_zero_or_pos items.size with z | z
    · rw [Array.getElem?_eq_none (by omega)] at hx
      cases hx
    · exact z
  refine subscriptTail_builtinR (x := .int kk u) (ht1.typeIs) slot_tuple_getitem.lookup (getItem_tuple (j := 0) (Q := fun r s' => r = .int kk u ∧ KeyPure (.int kk) s r s') ht1 (by decide) (by decide) (seqIndex_of (by decide) (by omega)) hx ⟨rfl, ?_⟩) (hpl _ _)
  exact ⟨h₁, _, rfl, kp, .int _ _⟩
end
end Deed

namespace Deed
open PySem PySem.Spec PySem.W PyProof.Rows L2 LamX
theorem each_vals {xs : List V} {us : List Value} (r : Vals xs us) : EachIs (fun u y => RelV y u) us xs := by
  induction r with
  | nil => exact .nil
  | cons h _ ih => exact .cons h ih
theorem vals_each {xs : List V} {us : List Value} (r : EachIs (fun u y => RelV y u) us xs) : Vals xs us := by
  induction r with
  | nil => exact .nil
  | cons h _ ih => exact .cons h ih
/-- sorted(e, key=lambda x: x[0]): some arrangement by the keys, at a new address; a table may have grown -/
def tSortK (K : PySem.W.Frag) (T : List (Addr × Str)) (te : TA) : TE := fun σ H Q => te σ H fun vs H1 => ∃ (a : Addr) (xs : List V) (ks : V → Int), vs = [.ref a] ∧ (SqL K H1 a xs ∨ SqT K H1 a xs) ∧ (∀ y ∈ xs, ∃ t r, y = .ref t ∧ H1 t = some (.tup (.int (ks y) :: r))) ∧ Tabs T H1 ∧
  ∀ p ys H2, ExtN H1 H2 → Tabs T H2 → H2 p = none → ys.Perm xs → ys.Pairwise (fun u v => ks u ≤ ks v) → Q (.ref p) (upd H2 p (.lst ys))
section
variable {X : Cx}
theorem pe_sortK {T : List (Addr × Str)} {c P : Addr} {k : Nat} {e ix : Expr} {te : TA} {x : Str} {params : Arguments} {scope : Scope} {p p1 p3 lpos kpos pos : Pos}
    (hg : Gl X "sorted") (hm : X.mg "sorted" = none) (ha : PA X [e] te) (hr : Room (k + 1) X.A) (TB : TabB X.base X.mg c P) (hcode : X.env.code = .ref c) (hmT : (P, X.env.qual ++ "<lambda>") ∈ T) (hu : ∀ p ∈ T, p.1 = P → p.2 = X.env.qual ++ "<lambda>")
    (hdef : defaultsOf params X.env = ([], [])) (hfree : ∀ y ∈ scope.names, y.2 ≠ .free)
    (hk : scope.kind = .function) (hco : scope.isCoroutine = false) (hgen : scope.isGenerator = false) (hcell : ∀ y ∈ scope.names, y.2 ≠ .cell) (hloc : scope.names.lookup x = some .local)
    (hbind : ∀ (q : Str) (cl : List (Str × Addr)) (pm cv ctv v : Value), bindArgs (kla_fn "<lambda>" q params (.Subscript (.Name x p1) ix p3) scope cl pm cv ctv) ⟨[v], []⟩ = pure [(x, v)])
    (hix : ∀ (env : Env) (A : Around) (E : Value → Shared → Prop) (s' : Shared) (Q : Value → Shared → Prop), env.scope = scope → env.globals = mainGlobals → s'.heap.Ns mainGlobals X.mg → (∀ u tk, Q (.int 0 u) { s' with toks := tk }) → wpAny (model X.prog X.w) A (eval ix env) Q E s')
    (hpl : PlainIx ix) (hd : (x == ("__debug__" : Str)) = false)
    (h1 : backTo pos (starEach [e] X.env) = (false, eval e X.env) :: backTo pos (starEach [] X.env) := by rfl) (h2 : (backTo pos (starEach [e] X.env)).any (·.1) = false := by rfl) :
    PE X (.Call (.Name "sorted" p) [e] [⟨some "key", .Lambda params (.Subscript (.Name x p1) ix p3) scope lpos, kpos⟩] pos) (tSortK X.K T te) := by
  refine ⟨fun pins s σ H Q I h => ?_⟩
  refine wpAny_Call_Name_kw (ld_blt I hg hm (show bootBuiltins "sorted" = some (.builtin "sorted") by decide +kernel) ?_)
  refine callWith_kw (thn (ha.run pos pins s σ H _ I h) fun us s1 ⟨vs, H1, I1, r1, q1⟩ => ?_) h1 h2 rfl rfl
  obtain ⟨a, xs, ks, rfl, hS, hxs, hT, q⟩ := q1
  obtain rfl := Vals.ref1 r1
  show wpAny _ _ (evalAll [(do let v ← eval (.Lambda params (.Subscript (.Name x p1) ix p3) scope lpos) X.env; standAt pos; pure v)]) _ _ s1
  refine wpAny_evalAll_cons (wpAny_bind (lam_make2 I1 TB hcode hmT hu hT hdef (fun y hy e => absurd e (hfree y hy)) fun f c' pm ctv H2 s2 I2 eN T2 hf hfn hfr hco' => wpAny_bind (wpAny_standAt (wpAny_pure (wpAny_evalAll_nil ?_)))))
  have seqs : ∃ its, Vals xs its ∧ xs.length ≤ sizeLine ∧ (s2.heap.IsList a its.toArray ∨ s2.heap.IsTuple a its.toArray) := by
    rcases hS with hS | hS
    · have hS2 : SqL X.K H2 a xs := by
        rcases hS with (z | ⟨o, z⟩) | z
        · exact .inl (.inl (eN _ _ z fun ps z' => by cases z'))
        · exact .inl (.inr ⟨o, eN _ _ z fun ps z' => by cases z'⟩)
        · exact .inr z
      obtain ⟨its, rv, hl, hz⟩ := I2.list hS2
      exact ⟨its, rv, hz, .inl hl.isList⟩
    · have hS2 : SqT X.K H2 a xs := by
        rcases hS with (z | ⟨o, z⟩) | z
        · exact .inl (.inl (eN _ _ z fun ps z' => by cases z'))
        · exact .inl (.inr ⟨o, eN _ _ z fun ps z' => by cases z'⟩)
        · exact .inr z
      obtain ⟨its, rv, hl, hz⟩ := I2.tuple hS2
      exact ⟨its, rv, hz, .inr hl⟩
  obtain ⟨its, rv, hz, hl⟩ := seqs
  have hun := hr.un
  have hdp := hr.dp
  show wpAny (model X.prog X.w) X.A (call (.builtin "sorted") [.ref a] [(Str.ofString "key", .ref f)]) _ _ s2
  refine sortedK (R := fun u y => RelV y u) ks hl (each_vals rv) hz (by omega) (fun u y hR hy h tk kp => ?_) fun out ep h' tk kp hD hlen eo => ?_
  · obtain ⟨t, r, rfl, ht⟩ := hxs y hy
    obtain rfl : u = Value.ref t := hR
    have ht2 := eN _ _ ht fun ps z' => by cases z'
    obtain ⟨_, its2, r2, o, ho, hc, n, hd2⟩ := I2.hok _ _ ht2
    obtain ⟨oc, vs, tt, c1, c2, c3⟩ := (I2.hok c' _ hco').1
    cases r2 with
    | cons ru r3 =>
      obtain ⟨tu, rfl⟩ := ru
      refine lam_key (u := tu) (s := { s2 with heap := h, toks := tk }) (kp _ _ hf) ⟨c', oc, vs, tt, rfl, kp _ _ c1, c2, c3⟩ ?_ (I2.nolimit.keeps kp) ((I2.mod.glob.keeps I2.bk).keeps kp) hk hco hgen hcell hloc (fun v => hbind _ _ _ _ _ v) hix hpl hd ⟨o, kp _ _ ho, hc, n, hd2⟩ (by simp)
      show X.A.depth < recursionLimit
      omega
  · rw [dataLe_int] at eo
    have hp : (xs.mergeSort fun a b => decide (ks a ≤ ks b)).Perm xs := List.mergeSort_perm _ _
    have hs : (xs.mergeSort fun a b => decide (ks a ≤ ks b)).Pairwise (fun u v => ks u ≤ ks v) := by
      have := List.pairwise_mergeSort (le := fun a b => decide (ks a ≤ ks b)) (fun a b c h1 h2 => by simp only [decide_eq_true_eq] at *; omega) (fun a b => by simp only [Bool.or_eq_true, decide_eq_true_eq]; omega) xs
      exact this.imp fun h => of_decide_eq_true h
    refine ⟨.ref _, _, I2.laid (t' := tk) kp (Nat.le_succ _) (show ObjOk X.prog X.w _ h' _ (.lst (xs.mergeSort fun a b => decide (ks a ≤ ks b))) from ⟨by rw [hp.length_eq]; exact hz, out, ep, vals_each eo, hD⟩), rfl, q _ _ H2 eN T2 (I2.hok.fresh (Nat.le_succ _)) hp hs⟩
end
end Deed

namespace Deed
open PySem PySem.Spec PyProof.Rows L2 LamX
/-! ### a def whose code object's table is told -/
theorem okC {P : Program} {w : World} {K : PySem.W.Frag} {mg : Str → Option Value} {base : Heap} {x qual : Str} {st : Stmt} {f c : Addr} {fd : FuncData} {N ps : List Str} {k : Nat} {sp : Sp} (F : Fun K x qual st f fd) (hc : fd.code = .ref c) (S : FnScope N ps (defScope st)) (len : ∀ vs H Q E, sp vs H Q E → vs.length = ps.length)
    (hbody : ∀ (A : Around) (outer : List Env) (s : Shared) (H : Hp) (vs : List V) (Q : VK) (E : XK), Room k (A.deeper (envOfC qual (defScope st) s.heap.objs.size f (.ref c))) → sp vs H Q E →
      ∃ t, PSs (cxOf CX0 P w K mg base N qual (defScope st) f (.ref c) A outer s H E).nox (defBody st) t ∧ t { nx := fun _ H' => Q .non H', rt := Q } (start N vs) H) : FnOk P w K mg base CX0 (k + 1) f fd ps sp := by
  obtain ⟨oc, od, kV, doc, pm, an, cdv, ct, osl, rfl, lk, hcd⟩ := F.ex
  have e : cdv = .ref c := hc
  subst e
  refine fn_of lk hcd S len fun A outer s H vs Q E hr hsp => ?_
  obtain ⟨t, h, q⟩ := hbody A outer s H vs Q E hr hsp
  exact ⟨t, h.nox, q⟩
/-- the number that stands ahead in the tuple at v -/
def keyAt (H : Hp) (v : V) : Int := match v with
  | .ref t => (match H t with
    | some (.tup (.int n :: _)) => n
    | _ => 0)
  | _ => 0
theorem EntAt.key {H : Hp} {a : Addr} {e : En} (h : EntAt H a e) : ∃ r, H a = some (.tup (.int e.num :: r)) ∧ keyAt H (.ref a) = e.num := by
  have fin : ∀ r, H a = some (.tup (.int e.num :: r)) → keyAt H (.ref a) = e.num := fun r z => by
    show (match H a with | some (.tup (.int n :: _)) => n | _ => 0) = e.num
    rw [z]
  unfold EntAt at h
  cases hk : e.kd with
  | deed g t rs ws =>
    rw [hk] at h
    obtain ⟨r, w, h1, _⟩ := h
    exact ⟨_, h1, fin _ h1⟩
  | act x o =>
    rw [hk] at h
    exact ⟨_, h, fin _ h⟩
/-- what isn't tracked, or a table -/
def Fresh (H : Hp) (p : Addr) : Prop := ∀ o, H p = some o → ∃ ps, o = .tbl ps
theorem Fresh.of {H H' : Hp} {p : Addr} (e : ExtN H H') (n : H' p = none) : Fresh H p := fun o z => by
  by_cases h : ∃ ps, o = .tbl ps
  · exact h
  · rw [e p o z fun ps q => h ⟨ps, q⟩] at n
    cases n
theorem Fresh.ne {H : Hp} {p b : Addr} {o : HO} (f : Fresh H p) (e : H b = some o) (h : ∀ ps, o ≠ .tbl ps) : b ≠ p := fun z => by
  rw [z] at e
  obtain ⟨ps, q⟩ := f o e
  exact h ps q
theorem Fresh.up {H H' : Hp} {p : Addr} (e : ExtN H H') (f : Fresh H' p) : Fresh H p := fun o z => by
  by_cases h : ∃ ps, o = .tbl ps
  · exact h
  · exact f o (e p o z fun ps q => h ⟨ps, q⟩)
theorem ExtN.tup {H H' : Hp} (e : ExtN H H') : KpT H H' := fun b xs z => e _ _ z fun ps q => by cases q
theorem ExtN.new {H : Hp} {p : Addr} (n : H p = none) (o : HO) : ExtN H (upd H p o) := .of fun b u e => by
  rw [upd_ne (ne_of_none e n)]
  exact e
theorem Tabs.new {T : List (Addr × Str)} {H : Hp} (t : Tabs T H) {p : Addr} (n : H p = none) (o : HO) : Tabs T (upd H p o) := t.ext fun b u e => by
  rw [upd_ne (ne_of_none e n)]
  exact e
/-- a tracked list is written: the tables stay -/
theorem Tabs.put {T : List (Addr × Str)} {H : Hp} (t : Tabs T H) {p : Addr} {xs : List V} (e : H p = some (.lst xs)) (o : HO) : Tabs T (upd H p o) := fun q hq => by
  obtain ⟨ps, h1, h2, h3⟩ := t q hq
  have n1 : q.1 ≠ p := fun z => by
    rw [z, e] at h1
    cases h1
  refine ⟨ps, by rw [upd_ne n1]; exact h1, h2, fun pos cv hc => ?_⟩
  obtain ⟨c, e1, e2⟩ := h3 pos cv hc
  refine ⟨c, e1, ?_⟩
  have n2 : c ≠ p := fun z => by
    rw [z, e] at e2
    unfold CodeO at e2
    cases e2
  rw [upd_ne n2]
  exact e2
theorem srt_num {H : Hp} {zs : List (Addr × En)} (he : ∀ z ∈ zs, EntAt H z.1 z.2) (nd : ((ens zs).map (·.num)).Nodup) (h : (refs zs).Pairwise (fun u v => keyAt H u ≤ keyAt H v)) : zs.Pairwise (fun a b => a.2.num < b.2.num) := by
  induction zs with
  | nil => exact .nil
  | cons z r ih =>
    have h1 := List.pairwise_cons.mp h
    have nd' : (z.2.num :: (ens r).map (·.num)).Nodup := nd
    have h2 := List.nodup_cons.mp nd'
    refine List.pairwise_cons.mpr ⟨fun y hy => ?_, ih (fun y hy => he y (List.mem_cons_of_mem _ hy)) h2.2 h1.2⟩
    have h3 := h1.1 (.ref y.1) (List.mem_map.mpr ⟨y, hy, rfl⟩)
    obtain ⟨_, _, k1⟩ := (he z List.mem_cons_self).key
    obtain ⟨_, _, k2⟩ := (he y (List.mem_cons_of_mem _ hy)).key
    rw [k1, k2] at h3
    have h4 : z.2.num ≠ y.2.num := fun q => h2.1 (List.mem_map.mpr ⟨y.2, List.mem_map.mpr ⟨y, hy, rfl⟩, q.symm⟩)
    omega
section
variable {P : Program} {w : World} {K : PySem.W.Frag} {mg : Str → Option Value} {base : Heap} {fRi : Addr} {dRi : FuncData} {T : List (Addr × Str)}
/-- an int of the module's top -/
def MgInt (mg : Str → Option Value) (x : Str) (i : Int) : Prop := ∃ t, mg x = some (.int i t)
theorem pe_num {X : Cx} {x : Str} {i : Int} {pos : Pos} (hg : Gl X x) (h : MgInt X.mg x i) (hd : (x == ("__debug__" : Str)) = false := by decide) : PE X (.Name x pos) (tC (.int i)) := by
  obtain ⟨t, h⟩ := h
  exact pe_glob hg h ⟨t, rfl⟩ hd
/-! ### the entries by their numbers -/
abbrev sRising : Stmt := topS 28
theorem scRising : FnScope ["book"] ["book"] (defScope sRising) := ⟨rfl, rfl, rfl, by decide +kernel, rfl, by decide +kernel, by decide +kernel⟩
/-- the book's text of the lambda's name -/
def qRis : Str := "entries_rising.<locals>.<lambda>"
def spRising (T : List (Addr × Str)) : Sp := fun vs H Q _ => ∃ (b fk t : Addr) (n : Nat) (age : Int) (zs : List (Addr × En)), vs = [.ref b] ∧ BookAt H b fk t n age zs ∧ Tabs T H ∧
  ∀ (p : Addr) (zs' : List (Addr × En)) (H' : Hp), ExtN H H' → Tabs T H' → Fresh H p → H' p = some (.lst (refs zs')) → zs'.Perm zs → zs'.Pairwise (fun a b => a.2.num < b.2.num) → Q (.ref p) H'
theorem ok_rising {f c tb : Addr} {fd : FuncData} {k : Nat} (F : Fun K "entries_rising" "entries_rising" sRising f fd) (hc : fd.code = .ref c) (TB : TabB base mg c tb) (ms : mg "sorted" = none) (mN : MgInt mg "NUMBER" 0) (hmT : (tb, qRis) ∈ T) (hu : ∀ p ∈ T, p.1 = tb → p.2 = qRis) :
    FnOk P w K mg base CX0 (k + 2) f fd ["book"] (spRising T) := by
  refine okC F hc scRising (fun vs H Q E h => ?_) (fun A outer s H vs Q E hr h => ?_)
  · obtain ⟨b, fk, t, n, age, zs, rfl, _⟩ := h
    rfl
  · obtain ⟨b, fk, t, n, age, zs, rfl, hB, hT, q⟩ := h
    refine ⟨_, pss_one (ps_ret (pe_sortK (T := T) (c := c) (P := tb) (k := k) (by rfl) ms (pa_cons (pe_ix ix_tup (pv 0) pe_int (fun _ _ => rfl)) pa_nil) hr TB rfl hmT hu rfl (by decide +kernel) rfl rfl rfl (by decide +kernel) rfl (fun _ _ _ _ _ _ => rfl) (fun env A E s' Q he hg hn hq => ?ix) (fun _ _ => rfl) (by decide))), ?_⟩
    case ix =>
      obtain ⟨tk, hN⟩ := mN
      refine Calls.Name_function_global (by rw [he]) (by unfold Env.kindOf; rw [he]; rfl) (Calls.loadGlobal_global (by rw [hg]; exact hn) hN (hq tk s'.toks))
    refine ⟨_, rfl, b, _, 2, _, rfl, rfl, SqT.of hB.at_, atI_nat (j := 2) rfl, t, refs zs, keyAt H, rfl, .inr (SqT.of hB.ents), fun y hy => ?_, hT, fun p ys H2 eN T2 np pm so => ?_⟩
    · obtain ⟨z, hz, rfl⟩ := List.mem_map.mp hy
      obtain ⟨r, h1, h2⟩ := (hB.ent z hz).key
      exact ⟨z.1, r, rfl, by rw [h2]; exact h1⟩
    · obtain ⟨zs', rfl, hp⟩ := perm_pairs (fun z : Addr × En => V.ref z.1) pm zs rfl
      refine q p zs' _ (eN.trans (ExtN.new np _)) (Tabs.new T2 np _) (Fresh.of eN np) upd_same hp (srt_num (fun z hz => hB.ent z (hp.mem_iff.mp hz)) (((hp.map _).map _).nodup_iff.mpr hB.ok.nd) so)
end
end Deed

namespace Deed
open PySem PySem.Spec PyProof.Rows L2 LamX
theorem take_more {α : Type} {l : List α} {i : Nat} {x : α} (h : l[i]? = some x) : l.take (i + 1) = l.take i ++ [x] := by
  rw [List.take_add_one, h]
  rfl
theorem ref_at {zs : List (Addr × En)} {i : Nat} {x : V} (h : (refs zs)[i]? = some x) : ∃ z, zs[i]? = some z ∧ x = .ref z.1 := by
  rw [List.getElem?_map] at h
  cases e : zs[i]? with
  | none => rw [e] at h; cases h
  | some z =>
    rw [e] at h
    exact ⟨z, rfl, (Option.some.inj h).symm⟩
section
variable {P : Program} {w : World} {K : PySem.W.Frag} {mg : Str → Option Value} {base : Heap} {fRi fDe : Addr} {dRi dDe : FuncData} {T : List (Addr × Str)}
/-- what entries_rising needs -/
structure RisD (K : PySem.W.Frag) (mg : Str → Option Value) (base : Heap) (T : List (Addr × Str)) (f : Addr) (fd : FuncData) : Prop where
  D : Df K mg "entries_rising" sRising ["book"] f fd
  hc : ∃ c tb, fd.code = .ref c ∧ TabB base mg c tb ∧ (tb, qRis) ∈ T ∧ ∀ p ∈ T, p.1 = tb → p.2 = qRis
  ms : mg "sorted" = none
  mN : MgInt mg "NUMBER" 0
theorem RisD.ok {k : Nat} {f : Addr} {fd : FuncData} (R : RisD K mg base T f fd) : FnOk P w K mg base CX0 (k + 2) f fd ["book"] (spRising T) := by
  obtain ⟨c, tb, h1, h2, h3, h4⟩ := R.hc
  exact ok_rising R.D.F h1 h2 R.ms R.mN h3 h4
/-- the entries that φ picks, by their numbers -/
def spPick (φ : En → Bool) (T : List (Addr × Str)) : Sp := fun vs H Q _ => ∃ (b fk t : Addr) (n : Nat) (age : Int) (zs : List (Addr × En)), vs = [.ref b] ∧ BookAt H b fk t n age zs ∧ Tabs T H ∧
  ∀ (p : Addr) (zs' : List (Addr × En)) (H' : Hp), ExtN H H' → Tabs T H' → Fresh H p → H' p = some (.lst (refs (zs'.filter fun z => φ z.2))) → zs'.Perm zs → zs'.Pairwise (fun a b => a.2.num < b.2.num) → Q (.ref p) H'
/-! ### their numbers -/
/-- the numbers of what φ picks, rising -/
def spNums (φ : En → Bool) (T : List (Addr × Str)) : Sp := fun vs H Q _ => ∃ (b fk t : Addr) (n : Nat) (age : Int) (zs : List (Addr × En)), vs = [.ref b] ∧ BookAt H b fk t n age zs ∧ Tabs T H ∧
  ∀ (p : Addr) (zs' : List (Addr × En)) (H' : Hp), ExtN H H' → Tabs T H' → Fresh H p → H' p = some (.lst (((zs'.filter fun z => φ z.2).map fun z => z.2.num).map V.int)) → zs'.Perm zs → zs'.Pairwise (fun a b => a.2.num < b.2.num) → Q (.ref p) H'
end
end Deed

namespace Deed
open PySem PySem.Spec PyProof.Rows L2 LamX
/-! ### rules whose reading names K; a def that may be called; comprehensions at large -/
theorem ix_tupK {X : Cx} {K : PySem.W.Frag} (h : X.K = K) : IxR X (rIxT K) := h ▸ ix_tup
theorem ix_listK {X : Cx} {K : PySem.W.Frag} (h : X.K = K) : IxR X (rIxL K) := h ▸ ix_list
theorem in_seqK {X : Cx} {K : PySem.W.Frag} (h : X.K = K) : OpR X (compareOp .In) (rIn K false) := h ▸ op_in_seq
theorem notIn_seqK {X : Cx} {K : PySem.W.Frag} (h : X.K = K) : OpR X (compareOp .NotIn) (rIn K true) := h ▸ op_notIn_seq
theorem len_seqK {X : Cx} {K : PySem.W.Frag} (h : X.K = K) : CallR X (.builtin "len") (rLenS K) := h ▸ call_len_seq
structure CallOk (P : Program) (w : World) (K : PySem.W.Frag) (mg : Str → Option Value) (base : Heap) (L : Nat) (x : Str) (ps : List Str) (sp : Sp) where
  f : Addr
  fd : FuncData
  g : mg x = some (.ref f)
  kp : PySem.W.keepIn K (.ref f) = true
  b : Binds K fd ps []
  ok : FnOk P w K mg base CX0 L f fd ps sp
def CallOk.mono {P : Program} {w : World} {K : PySem.W.Frag} {mg : Str → Option Value} {base : Heap} {L L' : Nat} {x : Str} {ps : List Str} {sp : Sp} (c : CallOk P w K mg base L x ps sp) (h : L ≤ L') : CallOk P w K mg base L' x ps sp := ⟨c.f, c.fd, c.g, c.kp, c.b, c.ok.mono h⟩
def Df.call {P : Program} {w : World} {K : PySem.W.Frag} {mg : Str → Option Value} {base : Heap} {L : Nat} {x : Str} {st : Stmt} {ps : List Str} {f : Addr} {fd : FuncData} {sp : Sp} (D : Df K mg x st ps f fd) (G : FnOk P w K mg base CX0 L f fd ps sp) : CallOk P w K mg base L x ps sp := ⟨f, fd, D.g, D.F.kp, D.b, G⟩
theorem nodup_len : ∀ {l m : List Int}, l.Nodup → (∀ x ∈ l, x ∈ m) → l.length ≤ m.length
  | [], m, _, _ => Nat.zero_le _
  | a :: r, m, h, hs => by
    rw [List.nodup_cons] at h
    have ha := hs a List.mem_cons_self
    have h1 := nodup_len (l := r) (m := m.erase a) h.2 fun x hx => by
      have hne : x ≠ a := fun z => h.1 (z ▸ hx)
      exact (List.mem_erase_of_ne hne).mpr (hs x (List.mem_cons_of_mem _ hx))
    rw [List.length_erase_of_mem ha] at h1
    have := List.length_pos_of_mem ha
    rw [List.length_cons]
    omega
theorem none_back {H H' : Hp} {p : Addr} (s : Same H H') (n : H' p = none) : H p = none := by
  cases h : H p with
  | none => rfl
  | some o => rw [s _ _ h] at n; cases n
theorem same_refl (H : Hp) : Same H H := fun _ _ e => e
theorem take_filter {α : Type} {p : α → Bool} {ys : List α} {i : Nat} {y : α} (h : ys[i]? = some y) : (ys.take (i + 1)).filter p = (ys.take i).filter p ++ (if p y then [y] else []) := by
  rw [take_more h, List.filter_append]
  congr 1
  cases hp : p y <;> simp [hp]
section
variable {J : It} {n : Nat} {G : Hp → Prop} {Y : Nat → Hp → V → Hp → Prop} {g : TG} {tt : TT} {te : TE} {vs : List Nat} {σ : L2.St} {H1 : Hp} {D : Addr} {Qd : Hp → Prop} {α : Type}
abbrev LcGoal (J : It) (g : TG) (tt : TT) (te : TE) (vs : List Nat) (σ : L2.St) (H1 : Hp) (D : Addr) (Qd : Hp → Prop) : Prop :=
  ∃ W : Nat → Nat → Hp → Prop, (∃ m, W 0 m (upd H1 D (.lst []))) ∧ ∀ i m H, W i m H →
      (J.stop i H ∧ Qd H) ∨ (J.go i H ∧ ∃ Nx : Hp → Prop, (∀ H', Nx H' → ∃ m', m' < m ∧ W (i + 1) m' H') ∧ ∀ x H', J.yld i H x H' → g x (wipe σ vs) H' fun σ2 H2 => wipe σ2 vs = wipe σ vs ∧ tt σ2 H2 fun b H3 =>
        if b = true then te σ2 H3 fun y H4 => ∃ acc, H4 D = some (.lst acc) ∧ acc.length < sizeLine ∧ Nx (upd H4 D (.lst (acc ++ [y]))) else Nx H3)
/-- at large: St a step of the heap, In what holds of it, E what holds of an item -/
theorem lc_gen (w : Walk J n G Y) (ys : List α) (p : α → Bool) (In : Hp → Prop) (Sp1 : Hp → Hp → Prop) (E : Hp → α → V → Prop) (hn : ys.length = n) (hlen : ys.length ≤ 1000) (h0 : In (upd H1 D (.lst []))) (hG : ∀ H, In H → G H)
    (hSt : ∀ H H', In H → Sp1 H H' → In H' ∧ ∀ xs, H D = some (.lst xs) → H' D = some (.lst xs)) (hPut : ∀ H xs l, In H → H D = some (.lst xs) → In (upd H D (.lst l)))
    (hE : ∀ H H' y u, In H → Sp1 H H' → E H y u → E H' y u) (hEp : ∀ H xs l y u, In H → H D = some (.lst xs) → E H y u → E (upd H D (.lst l)) y u)
    (hs : ∀ i y x H H', ys[i]? = some y → In H → Y i H x H' → ∀ (Q1 : V → Hp → Prop) (Q0 : Hp → Prop), (p y = true → ∀ u H4, Sp1 H H4 → E H4 y u → Q1 u H4) → (p y = false → ∀ H3, Sp1 H H3 → Q0 H3) →
      g x (wipe σ vs) H' fun σ2 H2 => wipe σ2 vs = wipe σ vs ∧ tt σ2 H2 fun b H3 => if b = true then te σ2 H3 Q1 else Q0 H3)
    (hd : ∀ H (zs : List (V × α)), In H → H D = some (.lst (zs.map (·.1))) → zs.map (·.2) = ys.filter p → (∀ z ∈ zs, E H z.2 z.1) → Qd H) : LcGoal J g tt te vs σ H1 D Qd := by
  refine lc_it w (fun i H => In H ∧ ∃ zs : List (V × α), H D = some (.lst (zs.map (·.1))) ∧ zs.map (·.2) = (ys.take i).filter p ∧ ∀ z ∈ zs, E H z.2 z.1) ⟨h0, [], upd_same, rfl, fun _ h => nomatch h⟩ (fun i H _ h => hG H h.1) ?_ ?_
  · rintro i x H H' hi ⟨hI, zs, eD, ez, hz⟩ hY
    rw [← hn] at hi
    have hy : ys[i]? = some ys[i] := List.getElem?_eq_getElem hi
    have hzl : zs.length ≤ 1000 := by
      have h1 := congrArg List.length ez
      rw [List.length_map] at h1
      have h2 := List.length_filter_le p (ys.take i)
      rw [List.length_take] at h2
      omega
    refine hs i ys[i] x H H' hy hI hY _ _ (fun hp u H4 s4 e4 => ?_) (fun hp H3 s3 => ?_)
    · obtain ⟨I4, k4⟩ := hSt _ _ hI s4
      have eD4 := k4 _ eD
      refine ⟨_, eD4, small1000 (by rw [List.length_map]; omega), hPut _ _ _ I4 eD4, zs ++ [(u, ys[i])], ?_, ?_, fun z hzz => ?_⟩
      · rw [upd_same, List.map_append]
        rfl
      · rw [List.map_append, ez, take_filter hy, hp]
        rfl
      · rcases List.mem_append.mp hzz with h | h
        · exact hEp _ _ _ _ _ I4 eD4 (hE _ _ _ _ hI s4 (hz z h))
        · rw [List.mem_singleton.mp h]
          exact hEp _ _ _ _ _ I4 eD4 e4
    · obtain ⟨I3, k3⟩ := hSt _ _ hI s3
      refine ⟨I3, zs, k3 _ eD, ?_, fun z hzz => hE _ _ _ _ hI s3 (hz z hzz)⟩
      rw [ez, take_filter hy, hp]
      simp
  · rintro H ⟨hI, zs, eD, ez, hz⟩
    rw [← hn, List.take_length] at ez
    exact hd H zs hI eD ez hz
theorem same_put {H H1 : Hp} {D : Addr} (nD : H1 D = none) (s : Same H1 H) (o : HO) : Same H1 (upd H D o) := fun b u e => by
  rw [upd_ne (ne_of_none e nD)]
  exact s _ _ e
theorem same_new {H : Hp} {p : Addr} (n : H p = none) (o : HO) : Same H (upd H p o) := fun b u e => by rw [upd_ne (ne_of_none e n)]; exact e
/-- values; nothing but the new list is otherwise -/
theorem lc_sameV (w : Walk J n G Y) (ys : List α) (p : α → Bool) (v : α → V) (hn : ys.length = n) (hlen : ys.length ≤ 1000) (nD : H1 D = none) (hG : ∀ H, Same H1 H → G H)
    (hs : ∀ i y x H H', ys[i]? = some y → Same H1 H → Y i H x H' → ∀ (Q1 : V → Hp → Prop) (Q0 : Hp → Prop), (p y = true → ∀ H4, Same H H4 → Q1 (v y) H4) → (p y = false → ∀ H3, Same H H3 → Q0 H3) →
      g x (wipe σ vs) H' fun σ2 H2 => wipe σ2 vs = wipe σ vs ∧ tt σ2 H2 fun b H3 => if b = true then te σ2 H3 Q1 else Q0 H3)
    (hd : ∀ H, Same H1 H → H D = some (.lst ((ys.filter p).map v)) → Qd H) : LcGoal J g tt te vs σ H1 D Qd := by
  refine lc_gen w ys p (fun H => Same H1 H) Same (fun _ y u => u = v y) hn hlen (same_new nD _) hG (fun H H' h1 h2 => ⟨h1.trans h2, fun xs e => h2 _ _ e⟩) (fun H xs l h1 _ => same_put nD h1 _) (fun _ _ _ _ _ _ e => e) (fun _ _ _ _ _ _ _ e => e) (fun i y x H H' hy h1 hY Q1 Q0 q1 q0 => ?_) (fun H zs h1 e ez hz => ?_)
  · exact hs i y x H H' hy h1 hY Q1 Q0 (fun hp H4 s4 => q1 hp _ H4 s4 rfl) q0
  · refine hd H h1 ?_
    rw [e, ← ez, List.map_map]
    congr 2
    exact List.map_congr_left fun z hzz => hz z hzz
theorem lc_sameM (w : Walk J n G Y) (ys : List α) (v : α → V) (hn : ys.length = n) (hlen : ys.length ≤ 1000) (nD : H1 D = none) (hG : ∀ H, Same H1 H → G H)
    (hs : ∀ i y x H H', ys[i]? = some y → Same H1 H → Y i H x H' → ∀ (Q1 : V → Hp → Prop), (∀ H4, Same H H4 → Q1 (v y) H4) → g x (wipe σ vs) H' fun σ2 H2 => wipe σ2 vs = wipe σ vs ∧ te σ2 H2 Q1)
    (hd : ∀ H, Same H1 H → H D = some (.lst (ys.map v)) → Qd H) : LcGoal J g tYes te vs σ H1 D Qd := by
  refine lc_sameV w ys (fun _ => true) v hn hlen nD hG (fun i y x H H' hy h1 hY Q1 Q0 q1 q0 => ?_) (fun H h1 e => hd H h1 (by rw [e, List.filter_eq_self.mpr fun _ _ => rfl]))
  exact hs i y x H H' hy h1 hY Q1 (fun H4 s4 => q1 rfl H4 s4)
/-- new tuples -/
theorem lc_sameT (w : Walk J n G Y) (ys : List α) (p : α → Bool) (v : α → List V) (hn : ys.length = n) (hlen : ys.length ≤ 1000) (nD : H1 D = none) (hG : ∀ H, Same H1 H → G H)
    (hs : ∀ i y x H H', ys[i]? = some y → Same H1 H → Y i H x H' → ∀ (Q1 : V → Hp → Prop) (Q0 : Hp → Prop), (p y = true → ∀ t H4, Same H H4 → H4 t = some (.tup (v y)) → Q1 (.ref t) H4) → (p y = false → ∀ H3, Same H H3 → Q0 H3) →
      g x (wipe σ vs) H' fun σ2 H2 => wipe σ2 vs = wipe σ vs ∧ tt σ2 H2 fun b H3 => if b = true then te σ2 H3 Q1 else Q0 H3)
    (hd : ∀ H (zs : List (Addr × α)), Same H1 H → H D = some (.lst (zs.map fun z => .ref z.1)) → zs.map (·.2) = ys.filter p → (∀ z ∈ zs, H z.1 = some (.tup (v z.2))) → Qd H) : LcGoal J g tt te vs σ H1 D Qd := by
  refine lc_gen w ys p (fun H => Same H1 H) Same (fun H y u => ∃ t, u = .ref t ∧ H t = some (.tup (v y))) hn hlen (same_new nD _) hG (fun H H' h1 h2 => ⟨h1.trans h2, fun xs e => h2 _ _ e⟩) (fun H xs l h1 _ => same_put nD h1 _) (fun H H' y u _ h2 e => ?_) (fun H xs l y u h1 h2 e => ?_) (fun i y x H H' hy h1 hY Q1 Q0 q1 q0 => ?_) (fun H zs h1 e ez hz => ?_)
  · obtain ⟨t, e1, e2⟩ := e
    exact ⟨t, e1, h2 _ _ e2⟩
  · obtain ⟨t, e1, e2⟩ := e
    refine ⟨t, e1, ?_⟩
    rw [upd_ne fun z => by rw [z, h2] at e2; cases e2]
    exact e2
  · exact hs i y x H H' hy h1 hY Q1 Q0 (fun hp t H4 s4 e4 => q1 hp _ H4 s4 ⟨t, rfl, e4⟩) q0
  · have key : ∀ zs : List (V × α), (∀ z ∈ zs, ∃ t, z.1 = .ref t ∧ H t = some (.tup (v z.2))) → ∃ ws : List (Addr × α), zs.map (·.1) = ws.map (fun z => V.ref z.1) ∧ ws.map (·.2) = zs.map (·.2) ∧ ∀ z ∈ ws, H z.1 = some (.tup (v z.2)) := by
      intro zs
      induction zs with
      | nil => exact fun _ => ⟨[], rfl, rfl, fun _ h => nomatch h⟩
      | cons z r ih =>
        intro h
        obtain ⟨ws, a1, a2, a3⟩ := ih fun x hx => h x (List.mem_cons_of_mem _ hx)
        obtain ⟨t, e1, e2⟩ := h z List.mem_cons_self
        refine ⟨(t, z.2) :: ws, ?_, ?_, fun x hx => ?_⟩
        · rw [List.map_cons, List.map_cons, a1, e1]
        · rw [List.map_cons, List.map_cons, a2]
        · rcases List.mem_cons.mp hx with h | h
          · rw [h]
            exact e2
          · exact a3 x h
    obtain ⟨ws, a1, a2, a3⟩ := key zs hz
    exact hd H ws h1 (by rw [e, a1]) (by rw [a2, ez]) a3
end
end Deed

namespace Deed
open PySem PySem.Spec PyProof.Rows L2 LamX
theorem cutTake {α : Type} (f : α → V) (l : List α) {v : Int} (h : 0 ≤ v) : cutV (l.map f) none (some v) = (l.take v.toNat).map f := by
  unfold cutV
  obtain ⟨n, rfl⟩ : ∃ n : Nat, v = n := ⟨v.toNat, by omega⟩
  rw [HT.sIx_none, HT.sIx_nat, List.drop_zero, List.length_map, Int.toNat_natCast, Nat.sub_zero, ← List.map_take]
  congr 1
  rw [List.take_eq_take_iff]
  omega
theorem cutDrop {α : Type} (f : α → V) (l : List α) (m : Nat) : cutV (l.map f) (some (m : Int)) none = (l.drop m).map f := by
  unfold cutV
  rw [HT.sIx_none, HT.sIx_nat, List.length_map, ← List.map_drop, ← List.map_take]
  congr 1
  by_cases h : m ≤ l.length
  · rw [Nat.min_eq_left h, List.take_of_length_le (by rw [List.length_drop]; omega)]
  · rw [Nat.min_eq_right (by omega), List.drop_of_length_le (by omega), List.drop_of_length_le (by omega), List.take_nil]
section
variable {P : Program} {w : World} {K : PySem.W.Frag} {mg : Str → Option Value} {base : Heap}
abbrev CDraw (P : Program) (w : World) (K : PySem.W.Frag) (mg : Str → Option Value) (base : Heap) (k : Nat) := CallOk P w K mg base k "_law_draw" ["_law_pen_here", "_law_bound"] spDraw
abbrev sDay : Stmt := topS 87
abbrev nDay : List Str := ["_law_pen_here"]
abbrev pDay : List Str := ["_law_pen_here"]
theorem scDay : FnScope nDay pDay (defScope sDay) := ⟨rfl, rfl, rfl, by decide +kernel, rfl, by decide +kernel, by decide +kernel⟩
def spDay : Sp := fun vs H Q _ => ∃ (p : Addr), vs = [.ref p] ∧ PenAt H p ∧ ∀ v H', Kp p H H' → PenAt H' p → 0 ≤ v → v ≤ 9999 → Q (.int v) H'
theorem ok_day {f : Addr} {fd : FuncData} {k : Nat} (F : Fun K "_law_day" "_law_day" sDay f fd) (C__law_draw : CDraw P w K mg base k) : FnOk P w K mg base CX0 (k + 1) f fd pDay spDay := by
  refine F.ok scDay (fun vs H Q E h => ?_) (fun cdv A outer s H vs Q E hr h => ?_)
  · obtain ⟨p, rfl, _⟩ := h
    rfl
  · obtain ⟨p, rfl, hP, q⟩ := h
    refine ⟨_, pss_one (ps_ret (pe_ix ix_list (pe_lst (pa_cons (pe_call C__law_draw.ok hr (by rfl) C__law_draw.g C__law_draw.kp C__law_draw.b .nil pass0 (pa_cons (pv 0) (pa_cons pe_int pa_nil))) (pa_cons (pe_call C__law_draw.ok hr (by rfl) C__law_draw.g C__law_draw.kp C__law_draw.b .nil pass0 (pa_cons (pv 0) (pa_cons pe_int pa_nil))) (pa_cons (pe_call C__law_draw.ok hr (by rfl) C__law_draw.g C__law_draw.kp C__law_draw.b .nil pass0 (pa_cons (pv 0) (pa_cons pe_int pa_nil))) pa_nil)))) (pe_op op_fdiv (pe_call C__law_draw.ok hr (by rfl) C__law_draw.g C__law_draw.kp C__law_draw.b .nil pass0 (pa_cons (pv 0) (pa_cons pe_int pa_nil))) pe_int) (fun _ _ => rfl))), ?_⟩
    refine ⟨_, rfl, p, 7, rfl, hP, by decide, by decide, fun v1 H1 k1 P1 a1 b1 => ?_⟩
    refine ⟨_, rfl, p, 40, rfl, P1, by decide, by decide, fun v2 H2 k2 P2 a2 b2 => ?_⟩
    refine ⟨_, rfl, p, 10000, rfl, P2, by decide, by decide, fun v3 H3 k3 P3 a3 b3 => ?_⟩
    refine ⟨(by show 3 ≤ sizeLine; decide), fun l nl => ?_⟩
    refine ⟨_, rfl, p, 6, rfl, P3.new nl _, by decide, by decide, fun v4 H4 k4 P4 a4 b4 => ?_⟩
    refine ⟨_, _, rfl, rfl, ⟨by decide, by decide⟩, ?_⟩
    obtain ⟨_, g5, n5, rfl, a5, b5⟩ := pick (i := v4 / 2) (xs := [.int v1, .int v2, .int v3]) (Within 0 9999) (by omega) (by show v4 / 2 < 3; omega) (am1 ⟨_, rfl, by omega, by omega⟩ (am1 ⟨_, rfl, by omega, by omega⟩ (am1 ⟨_, rfl, by omega, by omega⟩ am0)))
    refine ⟨l, _, _, _, rfl, rfl, SqL.of (k4 _ _ (P3.free nl) upd_same), g5, ?_⟩
    exact q n5 _ (k1.trans (k2.trans (k3.trans ((Kp.new nl _).trans k4)))) P4 a5 b5
abbrev sFolk : Stmt := topS 85
abbrev nFolk : List Str := ["_law_pen_here", "_law_least", "_law_found", "_law_k", "_law_born", "_law_died"]
abbrev pFolk : List Str := ["_law_pen_here", "_law_least"]
theorem scFolk : FnScope nFolk pFolk (defScope sFolk) := ⟨rfl, rfl, rfl, by decide +kernel, rfl, by decide +kernel, by decide +kernel⟩
def spFolk : Sp := fun vs H Q _ => ∃ (p : Addr) (least : Int), vs = [.ref p, .int least] ∧ PenAt H p ∧ 1 ≤ least ∧ least ≤ 6 ∧ ∀ t (n : Nat) H', Kp p H H' → PenAt H' p → FolkAt H' t n → least ≤ n → n ≤ 6 → Q (.ref t) H'
theorem ok_folk {f : Addr} {fd : FuncData} {k : Nat} (F : Fun K "_law_folk" "_law_folk" sFolk f fd) (C__law_draw : CDraw P w K mg base k) (m_range : mg "range" = none) (m_min : mg "min" = none) (m_tuple : mg "tuple" = none) : FnOk P w K mg base CX0 (k + 1) f fd pFolk spFolk := by
  refine F.ok scFolk (fun vs H Q E h => ?_) (fun cdv A outer s H vs Q E hr h => ?_)
  · obtain ⟨p, l, rfl, _⟩ := h
    rfl
  · obtain ⟨p, least, rfl, hP, hl1, hl6, q⟩ := h
    have nd := scFolk.nd
    refine ⟨_, pss_cons (ps_set (i := 2) nd rfl (.inl rfl) (pe_lst pa_nil))
      (pss_cons (ps_for PassesOwn.never rfl (pi_range1 rfl m_range (pa_cons (pe_op op_add (pv 1) (pe_call C__law_draw.ok hr (by rfl) C__law_draw.g C__law_draw.kp C__law_draw.b .nil pass0 (pa_cons (pv 0) (pa_cons (pe_op op_sub pe_int (pv 1)) pa_nil)))) pa_nil)) (pg_name (i := 3) nd rfl (.inl rfl))
        (pss_cons (ps_set (i := 4) nd rfl (.inl rfl) (pe_ix ix_list (pe_lst (pa_cons (pe_op op_sub pe_int (pe_call C__law_draw.ok hr (by rfl) C__law_draw.g C__law_draw.kp C__law_draw.b .nil pass0 (pa_cons (pv 0) (pa_cons pe_int pa_nil)))) (pa_cons (pe_call C__law_draw.ok hr (by rfl) C__law_draw.g C__law_draw.kp C__law_draw.b .nil pass0 (pa_cons (pv 0) (pa_cons pe_int pa_nil))) (pa_cons (pe_op op_sub (pe_call C__law_draw.ok hr (by rfl) C__law_draw.g C__law_draw.kp C__law_draw.b .nil pass0 (pa_cons (pv 0) (pa_cons pe_int pa_nil))) pe_int) pa_nil)))) (pe_op op_fdiv (pe_call C__law_draw.ok hr (by rfl) C__law_draw.g C__law_draw.kp C__law_draw.b .nil pass0 (pa_cons (pv 0) (pa_cons pe_int pa_nil))) pe_int) (fun _ _ => rfl)))
      (pss_cons (ps_set (i := 5) nd rfl (.inl rfl) (pe_callB (call_min2 rfl) (by rfl) m_min (by decide +kernel) (pa_cons pe_int (pa_cons (pe_op op_add (pe_op op_add (pv 4) pe_int) (pe_ix ix_list (pe_lst (pa_cons (pe_call C__law_draw.ok hr (by rfl) C__law_draw.g C__law_draw.kp C__law_draw.b .nil pass0 (pa_cons (pv 0) (pa_cons pe_int pa_nil))) (pa_cons (pe_call C__law_draw.ok hr (by rfl) C__law_draw.g C__law_draw.kp C__law_draw.b .nil pass0 (pa_cons (pv 0) (pa_cons pe_int pa_nil))) pa_nil))) (pe_call C__law_draw.ok hr (by rfl) C__law_draw.g C__law_draw.kp C__law_draw.b .nil pass0 (pa_cons (pv 0) (pa_cons pe_int pa_nil))) (fun _ _ => rfl))) pa_nil))))
      (pss_one (ps_expr (pe_bm PySem.F.plainAttrs_list PySem.F.slot_list_append PySem.F.type_list_append mt_append (pv 2) (pa_cons (pe_tup (pa_cons (pv 4) (pa_cons (pe_ix ix_list (pe_lst (pa_cons pe_non (pa_cons (pv 5) pa_nil))) (pe_call C__law_draw.ok hr (by rfl) C__law_draw.g C__law_draw.kp C__law_draw.b .nil pass0 (pa_cons (pv 0) (pa_cons pe_int pa_nil))) (fun _ _ => rfl)) pa_nil))) pa_nil)))))))
      (pss_one (ps_ret (pe_callTy call_tuple_of (by rfl) m_tuple (by decide +kernel) (pa_cons (pv 2) pa_nil))))), ?_⟩
    refine ⟨Nat.zero_le _, fun l hl => ?_⟩
    have Pl : PenAt (upd H l (.lst [])) p := hP.new hl _
    have nl : l ≠ p := hP.free hl
    refine ⟨_, rfl, _, rfl, _, rfl, _, _, rfl, rfl, p, 7 - least, rfl, Pl, by omega, by omega, fun v1 H1 k1 P1 a1 b1 => ?_⟩
    refine ⟨_, _, rfl, rfl, _, rfl, by omega, by omega, ?_⟩
    refine for_range (lo := 0) (n := (least + v1).toNat) (fun i σ H' => ∃ y3 y4 y5 xs, σ = [some (.ref p), some (.int least), some (.ref l), y3, y4, y5] ∧ Kp p H H' ∧ PenAt H' p ∧ H' l = some (.lst xs) ∧ xs.length = i ∧ ∀ x ∈ xs, PersonAt H' x)
      ⟨none, none, none, [], rfl, (Kp.new hl _).trans k1, P1, k1 _ _ nl upd_same, rfl, am0⟩ ?_ ?_
    · rintro i σ H' hi ⟨y3, y4, y5, xs, rfl, k', P', el, ln, ps⟩
      refine ⟨_, rfl, p, 40, rfl, P', by decide, by decide, fun v2 H2 k2 P2 a2 b2 => ⟨_, _, rfl, rfl, ?_⟩⟩
      refine ⟨_, rfl, p, 9, rfl, P2, by decide, by decide, fun v2' H2' k2' P2' a2' b2' => ?_⟩
      refine ⟨_, rfl, p, 9000, rfl, P2', by decide, by decide, fun v3 H3 k3 P3 a3 b3 => ⟨_, _, rfl, rfl, ?_⟩⟩
      refine ⟨(by show 3 ≤ sizeLine; decide), fun m hm => ?_⟩
      refine ⟨_, rfl, p, 5, rfl, P3.new hm _, by decide, by decide, fun v4 H4 k4 P4 a4 b4 => ?_⟩
      refine ⟨_, _, rfl, rfl, ⟨by decide, by decide⟩, ?_⟩
      obtain ⟨_, g5, n5, rfl, a5, b5⟩ := pick (i := v4 / 2) (xs := [.int (0 - v2), .int v2', .int (v3 - 4000)]) (Within (-9999) 9998) (by omega) (by show v4 / 2 < 3; omega) (am1 ⟨_, rfl, by omega, by omega⟩ (am1 ⟨_, rfl, by omega, by omega⟩ (am1 ⟨_, rfl, by omega, by omega⟩ am0)))
      refine ⟨m, _, _, _, rfl, rfl, SqL.of (k4 _ _ (P3.free hm) upd_same), g5, ?_⟩
      have kA : Kp p H' H4 := k2.trans (k2'.trans (k3.trans ((Kp.new hm _).trans k4)))
      refine ⟨_, rfl, _, _, rfl, rfl, ?_⟩
      refine ⟨_, rfl, p, 60, rfl, P4, by decide, by decide, fun v6 H6 k6 P6 a6 b6 => ?_⟩
      refine ⟨_, rfl, p, 9999, rfl, P6, by decide, by decide, fun v7 H7 k7 P7 a7 b7 => ?_⟩
      refine ⟨(by show 2 ≤ sizeLine; decide), fun m2 hm2 => ?_⟩
      refine ⟨_, rfl, p, 2, rfl, P7.new hm2 _, by decide, by decide, fun v8 H8 k8 P8 a8 b8 => ?_⟩
      obtain ⟨_, g9, n9, rfl, a9, b9⟩ := pick (xs := [.int v6, .int v7]) (Within 0 9998) a8 b8 (am1 ⟨_, rfl, by omega, by omega⟩ (am1 ⟨_, rfl, by omega, by omega⟩ am0))
      refine ⟨m2, _, v8, _, rfl, rfl, SqL.of (k8 _ _ (P7.free hm2) upd_same), g9, _, _, rfl, rfl, _, _, rfl, ?_⟩
      have kB : Kp p H4 H8 := k6.trans (k7.trans ((Kp.new hm2 _).trans k8))
      have hd : n5 < (if n5 + 1 + n9 < 9999 then n5 + 1 + n9 else 9999) ∧ (if n5 + 1 + n9 < 9999 then n5 + 1 + n9 else 9999) ≤ 9999 := by
        split <;> omega
      generalize (if n5 + 1 + n9 < 9999 then n5 + 1 + n9 else 9999) = dd at hd
      have kC := kA.trans kB
      have el8 := kC _ _ nl el
      refine ⟨_, rfl, .inl ⟨rfl, _, SqL.of el8⟩, _, rfl, _, rfl, (by show 2 ≤ sizeLine; decide), fun m3 hm3 => ?_⟩
      refine ⟨_, rfl, p, 2, rfl, P8.new hm3 _, by decide, by decide, fun v10 H10 k10 P10 a10 b10 => ?_⟩
      obtain ⟨vd, g11, hvd⟩ := pick (xs := [.non, .int dd]) (fun d => d = .non ∨ ∃ i : Int, d = .int i ∧ n5 < i ∧ i ≤ 9999) a10 b10 (am1 (.inl rfl) (am1 (.inr ⟨_, rfl, hd⟩) am0))
      refine ⟨m3, _, v10, _, rfl, rfl, SqL.of (k10 _ _ (P8.free hm3) upd_same), g11, (by show 2 ≤ sizeLine; decide), fun t ht => ?_⟩
      have kD := (kC.trans ((Kp.new hm3 _).trans k10)).trans (Kp.new (p := p) ht (.tup [.int n5, vd]))
      have elD := kD _ _ nl el
      have PD : PenAt (upd H10 t (.tup [.int n5, vd])) p := P10.new ht _
      refine ⟨l, _, _, rfl, rfl, elD, small1000 (by omega), ?_⟩
      have kE : ∀ b o, b ≠ p → b ≠ l → H' b = some o → (upd (upd H10 t (.tup [.int n5, vd])) l (.lst (xs ++ [.ref t]))) b = some o := fun b o n1 n2 e => by
        rw [upd_ne n2]
        exact kD _ _ n1 e
      have ntl : t ≠ l := fun z => by
        have := (kC.trans ((Kp.new hm3 _).trans k10)) _ _ nl el
        rw [z, this] at ht
        cases ht
      refine ⟨_, _, _, xs ++ [.ref t], rfl, fun b o n1 e => ?_, ?_, upd_same, ?_, fun x hx => ?_⟩
      · by_cases hb : b = l
        · rw [hb, hl] at e
          cases e
        · exact kE b o n1 hb (k' _ _ n1 e)
      · obtain ⟨x1, x2, x3, x4, e1, e2⟩ := PD
        exact ⟨x1, x2, x3, x4, by rw [upd_ne nl.symm]; exact e1, e2⟩
      · rw [List.length_append, ln]
        rfl
      · rcases List.mem_append.mp hx with hx | hx
        · obtain ⟨a, b, d, e, h1, r⟩ := ps x hx
          exact ⟨a, b, d, e, kE _ _ (P'.ne h1 fun _ z => by cases z) (fun z => by rw [z, el] at h1; cases h1) h1, r⟩
        · rw [List.mem_singleton.mp hx]
          exact ⟨t, n5, vd, rfl, by rw [upd_ne ntl, upd_same], by omega, by omega, hvd⟩
    · rintro σ H' ⟨y3, y4, y5, xs, rfl, k', P', el, ln, ps⟩
      refine ⟨_, rfl, l, xs, rfl, .inl ⟨SqL.of el, fun t ht => ?_⟩⟩
      have kF : Kp p H' (upd H' t (.tup xs)) := Kp.new ht _
      exact q t (least + v1).toNat _ (k'.trans kF) (P'.new ht _) ⟨xs, upd_same, ln, fun x hx => (ps x hx).kp kF P'⟩ (by omega) (by omega)
abbrev sFew : Stmt := topS 88
abbrev nFew : List Str := ["_law_pen_here", "_law_some", "_law_most", "_law_left"]
abbrev pFew : List Str := ["_law_pen_here", "_law_some", "_law_most"]
theorem scFew : FnScope nFew pFew (defScope sFew) := ⟨rfl, rfl, rfl, by decide +kernel, rfl, by decide +kernel, by decide +kernel⟩
def spFew (K : PySem.W.Frag) : Sp := fun vs H Q _ => ∃ (p a : Addr) (most : Int) (ns : List Int), vs = [.ref p, .ref a, .int most] ∧ PenAt H p ∧ SqL K H a (ns.map V.int) ∧ 0 ≤ most ∧ most ≤ 1000 ∧ ns.length ≤ 1000 ∧
  ∀ t (rs ls : List Int) H', Kp p H H' → PenAt H' p → H' t = some (.tup (rs.map V.int)) → (rs ++ ls).Perm ns → rs.Pairwise (· ≤ ·) → rs.length ≤ most → Q (.ref t) H'
theorem ok_few {f : Addr} {fd : FuncData} {k : Nat} (F : Fun K "_law_few" "_law_few" sFew f fd) (C__law_draw : CDraw P w K mg base k) (C__law_mixed : CallOk P w K mg base k "_law_mixed" ["_law_pen_here", "_law_some"] (spMixed K)) (m_tuple : mg "tuple" = none) (m_sorted : mg "sorted" = none) : FnOk P w K mg base CX0 (k + 1) f fd pFew (spFew K) := by
  refine F.ok scFew (fun vs H Q E h => ?_) (fun cdv A outer s H vs Q E hr h => ?_)
  · obtain ⟨p, a, most, ns, rfl, _⟩ := h
    rfl
  · obtain ⟨p, a, most, ns, rfl, hP, hS, hm0, hm1, hln, q⟩ := h
    have nd := scFew.nd
    refine ⟨_, pss_cons (ps_set (i := 3) nd rfl (.inl rfl) (pe_call C__law_mixed.ok hr (by rfl) C__law_mixed.g C__law_mixed.kp C__law_mixed.b .nil pass0 (pa_cons (pv 0) (pa_cons (pv 1) pa_nil))))
      (pss_one (ps_ret (pe_callTy call_tuple_of (by rfl) m_tuple (by decide +kernel) (pa_cons (pe_callB cr_sortedI (by rfl) m_sorted (by decide +kernel) (pa_cons (pe_slice sl_list (pv 3) po_none (po_some (pe_call C__law_draw.ok hr (by rfl) C__law_draw.g C__law_draw.kp C__law_draw.b .nil pass0 (pa_cons (pv 0) (pa_cons (pe_op op_add (pv 2) pe_int) pa_nil))))) pa_nil)) pa_nil)))), ?_⟩
    refine ⟨_, rfl, _, rfl, p, a, _, rfl, hP, .inl hS, by rw [List.length_map]; exact hln, fun l ys H1 k1 P1 nl el pm => ?_⟩
    obtain ⟨ms, rfl, pm2⟩ := perm_pairs V.int pm ns rfl
    have nlp : l ≠ p := hP.free nl
    refine ⟨_, rfl, _, rfl, _, rfl, _, _, rfl, rfl, p, most + 1, rfl, P1, by omega, by omega, fun v H2 k2 P2 a2 b2 => ?_⟩
    have el2 := k2 _ _ nlp el
    refine ⟨_, rfl, l, _, rfl, SqL.of el2, fun s1 ns1 => ?_⟩
    rw [cutTake _ _ a2]
    have P3 := P2.new ns1 (.lst ((ms.take v.toNat).map V.int))
    have k3 : Kp p H2 _ := Kp.new ns1 (.lst ((ms.take v.toNat).map V.int))
    refine ⟨s1, _, rfl, SqL.of upd_same, fun rs m pm3 up nm => ?_⟩
    refine ⟨m, _, rfl, .inl ⟨SqL.of upd_same, fun t nt => ?_⟩⟩
    refine q t rs (ms.drop v.toNat) _ (k1.trans (k2.trans (k3.trans ((Kp.new nm _).trans (Kp.new nt _))))) ((P3.new nm _).new nt _) upd_same ?_ up ?_
    · refine (List.Perm.append_right _ pm3).trans ?_
      rw [List.take_append_drop]
      exact pm2
    · rw [pm3.length_eq, List.length_take]
      omega
end
end Deed

namespace Deed
open PySem PySem.Spec PyProof.Rows L2 LamX
section
variable {P : Program} {w : World} {K : PySem.W.Frag} {mg : Str → Option Value} {base : Heap}
def rgI (n : Nat) : List Int := (List.range n).map fun i : Nat => (i : Int)
theorem rgV_ints (n : Nat) : rgV 0 (n : Int) = (rgI n).map V.int := by
  unfold rgV rgI
  rw [List.map_map]
  simp
theorem rgI_len (n : Nat) : (rgI n).length = n := by unfold rgI; simp
abbrev sDeed : Stmt := topS 89
abbrev nDeed : List Str := ["_law_pen_here", "_law_number", "_law_folk_here", "_law_deeds", "_law_both", "_law_giver", "_law_taker", "_law_head"]
abbrev pDeed : List Str := ["_law_pen_here", "_law_number", "_law_folk_here", "_law_deeds"]
theorem scDeed : FnScope nDeed pDeed (defScope sDeed) := ⟨rfl, rfl, rfl, by decide +kernel, rfl, by decide +kernel, by decide +kernel⟩
def spDeed (K : PySem.W.Frag) : Sp := fun vs H Q _ => ∃ (p fk ld : Addr) (num : Int) (n : Nat) (ds : List Int), vs = [.ref p, .int num, .ref fk, .ref ld] ∧ PenAt H p ∧ FolkAt H fk n ∧ 2 ≤ n ∧ n ≤ 6 ∧ H ld = some (.lst (ds.map V.int)) ∧ ld ≠ p ∧ ds.Nodup ∧ ds.length ≤ 1000 ∧ (∀ d ∈ ds, d < num) ∧
  ∀ a (e : En) H', Kp p H H' → PenAt H' p → EntAt H' a e → e.num = num → e.isDeed = true → (∀ as, EnOk n ds as e) → Q (.ref a) H'
theorem ok_deed {f : Addr} {fd : FuncData} {k : Nat} (F : Fun K "_law_deed" "_law_deed" sDeed f fd) (C__law_draw : CDraw P w K mg base k) (C__law_day : CallOk P w K mg base k "_law_day" pDay spDay) (C__law_mixed : CallOk P w K mg base k "_law_mixed" ["_law_pen_here", "_law_some"] (spMixed K)) (C__law_few : CallOk P w K mg base k "_law_few" pFew (spFew K)) (m_list : mg "list" = none) (m_range : mg "range" = none) (m_len : mg "len" = none) : FnOk P w K mg base CX0 (k + 1) f fd pDeed (spDeed K) := by
  refine F.ok scDeed (fun vs H Q E h => ?_) (fun cdv A outer s H vs Q E hr h => ?_)
  · obtain ⟨p, fk, ld, num, n, ds, rfl, _⟩ := h
    rfl
  · obtain ⟨p, fk, ld, num, n, ds, rfl, hP, hF, h2, h6, eld, nld, hnd, hdl, hdn, q⟩ := h
    have nd := scDeed.nd
    refine ⟨_, pss_cons (ps_set (i := 4) nd rfl (.inl rfl) (pe_call C__law_mixed.ok hr (by rfl) C__law_mixed.g C__law_mixed.kp C__law_mixed.b .nil pass0 (pa_cons (pv 0) (pa_cons (pe_listRg (by rfl) (by rfl) m_list (prg_1 (by rfl) m_range (pe_callB call_len_seq (by rfl) m_len (by decide +kernel) (pa_cons (pv 2) pa_nil)))) pa_nil))))
      (pss_cons (ps_par (i := 5) (j := 6) (by rfl) nd rfl rfl (by decide) rfl rfl (pa_cons (pe_ix ix_list (pv 4) pe_int (fun _ _ => rfl)) (pa_cons (pe_ix ix_list (pv 4) pe_int (fun _ _ => rfl)) pa_nil)) (by rfl))
      (pss_cons (ps_set (i := 7) nd rfl (.inl rfl) (pe_tup (pa_cons (pv 1) (pa_cons (pe_call C__law_day.ok hr (by rfl) C__law_day.g C__law_day.kp C__law_day.b .nil pass0 (pa_cons (pv 0) pa_nil)) (pa_cons (pe_call C__law_day.ok hr (by rfl) C__law_day.g C__law_day.kp C__law_day.b .nil pass0 (pa_cons (pv 0) pa_nil)) (pa_cons (pe_call C__law_draw.ok hr (by rfl) C__law_draw.g C__law_draw.kp C__law_draw.b .nil pass0 (pa_cons (pv 0) (pa_cons pe_int pa_nil))) (pa_cons pe_str (pa_cons (pv 5) (pa_cons (pv 6) pa_nil)))))))))
      (pss_one (ps_ret (pe_op op_catT (pv 7) (pe_tup (pa_cons (pe_call C__law_few.ok hr (by rfl) C__law_few.g C__law_few.kp C__law_few.b .nil pass0 (pa_cons (pv 0) (pa_cons (pv 3) (pa_cons pe_int pa_nil)))) (pa_cons (pe_call C__law_few.ok hr (by rfl) C__law_few.g C__law_few.kp C__law_few.b .nil pass0 (pa_cons (pv 0) (pa_cons (pe_slice sl_list (pv 4) (po_some pe_int) po_none) (pa_cons pe_int pa_nil)))) pa_nil)))))))), ?_⟩
    obtain ⟨xs, ef, hxl, _⟩ := id hF
    refine ⟨_, rfl, _, rfl, fk, _, rfl, .inr (SqT.of ef), _, rfl, ?_, fun l1 nl1 => ?_⟩
    · unfold RgOk
      rw [hxl]
      refine ⟨by omega, by omega, by omega, by omega, ?_⟩
      exact Nat.le_of_lt (small1000 (by omega))
    rw [hxl, rgV_ints]
    have k1 : Kp p H _ := Kp.new nl1 (.lst ((rgI n).map V.int))
    have P1 := hP.new nl1 (.lst ((rgI n).map V.int))
    have el1 : (upd H l1 (.lst ((rgI n).map V.int))) l1 = some (.lst ((rgI n).map V.int)) := upd_same
    generalize upd H l1 (.lst ((rgI n).map V.int)) = H1 at k1 P1 el1
    refine ⟨p, l1, _, rfl, P1, .inl (SqL.of el1), by rw [List.length_map, rgI_len]; omega, fun l ys H2 k2 P2 nl el pm => ?_⟩
    obtain ⟨ms, rfl, pm2⟩ := perm_pairs V.int pm _ rfl
    have hml : ms.length = n := by rw [pm2.length_eq, rgI_len]
    have hmr : ∀ x ∈ ms, 0 ≤ x ∧ x < n := fun x hx => by
      have hx := pm2.mem_iff.mp hx
      unfold rgI at hx
      obtain ⟨i, hi, rfl⟩ := List.mem_map.mp hx
      have := List.mem_range.mp hi
      omega
    have hmn : ms.Nodup := pm2.nodup_iff.mpr (by
      have h := List.nodup_range (n := n)
      unfold rgI
      exact List.Pairwise.map _ (fun a b h z => h (by omega)) h)
    have nlp : l ≠ p := P1.free nl
    obtain ⟨g, t, r, rfl⟩ : ∃ g t r, ms = g :: t :: r := by
      match ms, hml with
      | [], h => exact absurd h (by simp; omega)
      | [_], h => exact absurd h (by simp; omega)
      | a :: b :: c, _ => exact ⟨a, b, c, rfl⟩
    refine ⟨_, rfl, l, _, _, _, rfl, rfl, SqL.of el, (atI_nat (j := 0) rfl), _, rfl, l, _, _, _, rfl, rfl, SqL.of el, (atI_nat (j := 1) rfl), _, _, rfl, ?_⟩
    refine ⟨_, rfl, _, rfl, p, rfl, P2, fun v1 H3 k3 P3 a1 b1 => ?_⟩
    refine ⟨_, rfl, p, rfl, P3, fun v2 H4 k4 P4 a2 b2 => ?_⟩
    refine ⟨_, rfl, p, 4, rfl, P4, by decide, by decide, fun v3 H5 k5 P5 a3 b3 => ?_⟩
    refine ⟨_, rfl, _, rfl, (by show 7 ≤ sizeLine; decide), fun th nth => ?_⟩
    have k6 : Kp p H5 _ := Kp.new nth (.tup [.int num, .int v1, .int v2, .int v3, .str "deed", .int g, .int t])
    have P6 := P5.new nth (.tup [.int num, .int v1, .int v2, .int v3, .str "deed", .int g, .int t])
    have eth : (upd H5 th (.tup [.int num, .int v1, .int v2, .int v3, .str "deed", .int g, .int t])) th = some (.tup [.int num, .int v1, .int v2, .int v3, .str "deed", .int g, .int t]) := upd_same
    generalize upd H5 th (.tup [.int num, .int v1, .int v2, .int v3, .str "deed", .int g, .int t]) = H6 at k6 P6 eth
    have k26 : Kp p H2 H6 := k3.trans (k4.trans (k5.trans k6))
    have k06 : Kp p H H6 := k1.trans (k2.trans k26)
    refine ⟨_, rfl, _, rfl, _, rfl, p, ld, 2, ds, rfl, P6, SqL.of (k06 _ _ nld eld), by decide, by decide, hdl, fun tr rs ls H7 k7 P7 etr pr upr hrl => ?_⟩
    have el7 := k7 _ _ nlp (k26 _ _ nlp el)
    refine ⟨_, rfl, _, rfl, _, rfl, l, _, rfl, SqL.of el7, fun s1 ns1 => ?_⟩
    rw [show cutV ((g :: t :: r).map V.int) (some 2) none = r.map V.int from cutDrop V.int (g :: t :: r) 2]
    have k8 : Kp p H7 _ := Kp.new ns1 (.lst (r.map V.int))
    have P8 := P7.new ns1 (.lst (r.map V.int))
    have es1 : (upd H7 s1 (.lst (r.map V.int))) s1 = some (.lst (r.map V.int)) := upd_same
    generalize upd H7 s1 (.lst (r.map V.int)) = H8 at k8 P8 es1
    have hrn : r.length ≤ 1000 := by
      have : (g :: t :: r).length = n := hml
      simp at this
      omega
    refine ⟨p, s1, 3, r, rfl, P8, SqL.of es1, by decide, by decide, hrn, fun tw ws ls2 H9 k9 P9 etw pw upw hwl => ?_⟩
    refine ⟨(by show 2 ≤ sizeLine; decide), fun t4 nt4 => ?_⟩
    have k10 : Kp p H9 _ := Kp.new nt4 (.tup [.ref tr, .ref tw])
    have P10 := P9.new nt4 (.tup [.ref tr, .ref tw])
    have et4 : (upd H9 t4 (.tup [.ref tr, .ref tw])) t4 = some (.tup [.ref tr, .ref tw]) := upd_same
    generalize upd H9 t4 (.tup [.ref tr, .ref tw]) = H10 at k10 P10 et4
    have k79 : Kp p H7 H10 := k8.trans (k9.trans k10)
    have eth10 := (k7.trans k79).tup P6 _ _ eth
    refine ⟨th, t4, _, _, rfl, rfl, SqT.of eth10, SqT.of et4, List.cons_ne_nil _ _, (by show 9 ≤ sizeLine; decide), fun z0 => absurd z0 (List.cons_ne_nil _ _), fun _ b hb => ?_⟩
    have kb : Kp p H10 (upd H10 b (.tup ([.int num, .int v1, .int v2, .int v3, .str "deed", .int g, .int t] ++ [.ref tr, .ref tw]))) := Kp.new hb _
    have etr10 := kb.tup P10 _ _ (k79.tup P7 _ _ etr)
    have etw10 := kb.tup P10 _ _ (k10.tup P9 _ _ etw)
    have hg := hmr g (by simp)
    have ht := hmr t (by simp)
    rw [List.nodup_cons, List.nodup_cons] at hmn
    have hwr : ∀ y ∈ ws, y ∈ r := fun y hy => pw.mem_iff.mp (List.mem_append_left _ hy)
    have hrd : ∀ y ∈ rs, y ∈ ds := fun y hy => pr.mem_iff.mp (List.mem_append_left _ hy)
    refine q b ⟨num, v1, v2, v3, .deed g t rs ws⟩ _ (k06.trans (k7.trans (k79.trans kb))) (P10.new hb _) ⟨tr, tw, upd_same, etr10, etw10⟩ rfl rfl fun as => ?_
    refine ⟨⟨a1, b1⟩, ⟨a2, b2⟩, ⟨a3, by show v3 ≤ 3; omega⟩, hg, ht, fun z => hmn.1 (z ▸ List.mem_cons_self), by omega, rising_of ?_ upr, fun y hy => ⟨hrd y hy, hdn _ (hrd y hy)⟩, by omega, rising_of ?_ upw, fun y hy => ?_⟩
    · exact (List.nodup_append.mp (pr.nodup_iff.mpr hnd)).1
    · exact (List.nodup_append.mp (pw.nodup_iff.mpr hmn.2.2)).1
    · have hy := hwr y hy
      have h1 := hmr y (by simp [hy])
      exact ⟨h1.1, h1.2, fun z => hmn.1 (z ▸ List.mem_cons_of_mem _ hy), fun z => hmn.2.1 (z ▸ hy)⟩
abbrev sAct : Stmt := topS 90
abbrev nAct : List Str := ["_law_pen_here", "_law_number", "_law_deeds", "_law_acts", "_law_word", "_law_some"]
abbrev pAct : List Str := ["_law_pen_here", "_law_number", "_law_deeds", "_law_acts"]
theorem scAct : FnScope nAct pAct (defScope sAct) := ⟨rfl, rfl, rfl, by decide +kernel, rfl, by decide +kernel, by decide +kernel⟩
def spAct (K : PySem.W.Frag) : Sp := fun vs H Q _ => ∃ (p ld la : Addr) (num : Int) (ds as : List Int), vs = [.ref p, .int num, .ref ld, .ref la] ∧ PenAt H p ∧ H ld = some (.lst (ds.map V.int)) ∧ ld ≠ p ∧ H la = some (.lst (as.map V.int)) ∧ la ≠ p ∧ ds ≠ [] ∧ ds.length ≤ 1000 ∧ as.length ≤ 1000 ∧ (∀ d ∈ ds, d < num) ∧ (∀ d ∈ as, d < num) ∧
  ∀ a (e : En) H', Kp p H H' → PenAt H' p → EntAt H' a e → e.num = num → e.isDeed = false → (∀ n, EnOk n ds as e) → Q (.ref a) H'
theorem ok_act {f : Addr} {fd : FuncData} {k : Nat} (F : Fun K "_law_act" "_law_act" sAct f fd) (C__law_draw : CDraw P w K mg base k) (C__law_day : CallOk P w K mg base k "_law_day" pDay spDay) (m_len : mg "len" = none) : FnOk P w K mg base CX0 (k + 1) f fd pAct (spAct K) := by
  refine F.ok scAct (fun vs H Q E h => ?_) (fun cdv A outer s H vs Q E hr h => ?_)
  · obtain ⟨p, ld, la, num, ds, as, rfl, _⟩ := h
    rfl
  · obtain ⟨p, ld, la, num, ds, as, rfl, hP, eld, nld, ela, nla, hne, hdl, hal, hdn, han, q⟩ := h
    have nd := scAct.nd
    refine ⟨_, pss_cons (ps_set (i := 4) nd rfl (.inl rfl) (pe_ix ix_list (pe_lst (pa_cons pe_str (pa_cons pe_str (pa_cons pe_str pa_nil)))) (pe_call C__law_draw.ok hr (by rfl) C__law_draw.g C__law_draw.kp C__law_draw.b .nil pass0 (pa_cons (pv 0) (pa_cons pe_int pa_nil))) (fun _ _ => rfl)))
      (pss_cons (ps_set (i := 5) nd rfl (.inl rfl) (pv 2))
      (pss_cons (ps_if (pt_cmpR op_eq (pv 4) pe_str (nomark _)) (pss_one (ps_set (i := 5) nd rfl (.inl rfl) (pv 3))) pss_nil)
      (pss_cons (ps_if (pt_cmpR (op_eqD hr.units) (pv 5) (pe_lst pa_nil) (nomark _)) (pss_one (ps_par (i := 4) (j := 5) (by rfl) nd rfl rfl (by decide) rfl rfl (pa_cons pe_str (pa_cons (pv 2) pa_nil)) (by rfl))) pss_nil)
      (pss_one (ps_ret (pe_tup (pa_cons (pv 1) (pa_cons (pe_call C__law_day.ok hr (by rfl) C__law_day.g C__law_day.kp C__law_day.b .nil pass0 (pa_cons (pv 0) pa_nil)) (pa_cons (pe_call C__law_day.ok hr (by rfl) C__law_day.g C__law_day.kp C__law_day.b .nil pass0 (pa_cons (pv 0) pa_nil)) (pa_cons (pe_call C__law_draw.ok hr (by rfl) C__law_draw.g C__law_draw.kp C__law_draw.b .nil pass0 (pa_cons (pv 0) (pa_cons pe_int pa_nil))) (pa_cons (pv 4) (pa_cons (pe_ix ix_list (pv 5) (pe_call C__law_draw.ok hr (by rfl) C__law_draw.g C__law_draw.kp C__law_draw.b .nil pass0 (pa_cons (pv 0) (pa_cons (pe_callB call_len_seq (by rfl) m_len (by decide +kernel) (pa_cons (pv 5) pa_nil)) pa_nil))) (fun _ _ => rfl)) pa_nil)))))))))))), ?_⟩
    refine ⟨(by show 3 ≤ sizeLine; decide), fun l1 nl1 => ?_⟩
    refine ⟨_, rfl, p, 3, rfl, hP.new nl1 _, by decide, by decide, fun v0 H1 k1 P1 a0 b0 => ?_⟩
    obtain ⟨_, gx, x, rfl, hx⟩ := pick (xs := [.str "paid", .str "void", .str "undone"]) (fun v => ∃ x : Str, v = .str x ∧ (x = "paid" ∨ x = "void" ∨ x = "undone")) a0 b0 (am1 ⟨_, rfl, .inl rfl⟩ (am1 ⟨_, rfl, .inr (.inl rfl)⟩ (am1 ⟨_, rfl, .inr (.inr rfl)⟩ am0)))
    have k01 : Kp p H H1 := (Kp.new nl1 _).trans k1
    refine ⟨l1, _, _, _, rfl, rfl, SqL.of (k1 _ _ (hP.free nl1) upd_same), gx, ?_⟩
    have eld1 := k01 _ _ nld eld
    have ela1 := k01 _ _ nla ela
    refine ⟨_, rfl, ?_⟩
    refine ⟨_, rfl, rfl, _, rfl, ?_⟩
    refine (Classical.em (x = ("undone" : Str))).elim (fun hu => ?U) (fun hu => ?NU)
    case' U =>
      rw [decide_eq_true (show V.str x = V.str "undone" by rw [hu])]
      refine iteT ?_
      refine ⟨_, rfl, ?_⟩
      refine ⟨_, rfl, Nat.zero_le _, fun l2 nl2 => ?_⟩
      have s2 := same_new nl2 (.lst [])
      have el2 : (upd H1 l2 (.lst [])) l2 = some (.lst (([] : List Int).map V.int)) := upd_same
      generalize upd H1 l2 (.lst []) = H2 at s2 el2
      refine ⟨.list (as.map PyData.int), .list (([] : List Int).map PyData.int), .lst (SqL.of (s2 _ _ ela1)) (dp_ints _), .lst (SqL.of el2) (dp_ints _), shaped_ints _, shaped_ints _, _, rfl, ?_⟩
      rw [eqv_ints]
      refine (Classical.em (as = [])).elim (fun ha => ?A1) (fun ha => ?B1)
      case' A1 =>
        rw [decide_eq_true ha]
        refine iteT ?_
        refine ⟨_, rfl, _, _, rfl, ?A⟩
      case' B1 =>
        rw [decide_eq_false ha]
        refine iteF ?B
    case' NU =>
      rw [decide_eq_false (show ¬ V.str x = V.str "undone" from fun z => hu (by injection z))]
      refine iteF ?_
      refine ⟨_, rfl, Nat.zero_le _, fun l2 nl2 => ?_⟩
      have s2 := same_new nl2 (.lst [])
      have el2 : (upd H1 l2 (.lst [])) l2 = some (.lst (([] : List Int).map V.int)) := upd_same
      generalize upd H1 l2 (.lst []) = H2 at s2 el2
      refine ⟨.list (ds.map PyData.int), .list (([] : List Int).map PyData.int), .lst (SqL.of (s2 _ _ eld1)) (dp_ints _), .lst (SqL.of el2) (dp_ints _), shaped_ints _, shaped_ints _, _, rfl, ?_⟩
      rw [eqv_ints, decide_eq_false hne]
      refine iteF ?C
    case' A1 =>
      obtain ⟨xw, ss, sa, es, nsa, hss, hsl, hcase, exw⟩ : ∃ (xw : Str) (ss : List Int) (sa : Addr), H2 sa = some (.lst (ss.map V.int)) ∧ sa ≠ p ∧ ss ≠ [] ∧ ss.length ≤ 1000 ∧ (∀ o ∈ ss, (((xw = "undone" ∧ o ∈ as) ∨ ((xw = "paid" ∨ xw = "void") ∧ o ∈ ds)) ∧ o < num)) ∧ (xw = "paid" ∧ sa = ld) :=
        ⟨"paid", ds, ld, s2 _ _ eld1, nld, hne, hdl, fun o ho => ⟨.inr ⟨.inl rfl, ho⟩, hdn o ho⟩, rfl, rfl⟩
      obtain ⟨rfl, rfl⟩ := exw
    case' B1 =>
      obtain ⟨xw, ss, sa, es, nsa, hss, hsl, hcase, exw⟩ : ∃ (xw : Str) (ss : List Int) (sa : Addr), H2 sa = some (.lst (ss.map V.int)) ∧ sa ≠ p ∧ ss ≠ [] ∧ ss.length ≤ 1000 ∧ (∀ o ∈ ss, (((xw = "undone" ∧ o ∈ as) ∨ ((xw = "paid" ∨ xw = "void") ∧ o ∈ ds)) ∧ o < num)) ∧ (xw = x ∧ sa = la) :=
        ⟨x, as, la, s2 _ _ ela1, nla, ha, hal, fun o ho => ⟨.inl ⟨hu, ho⟩, han o ho⟩, rfl, rfl⟩
      obtain ⟨rfl, rfl⟩ := exw
    case' NU =>
      obtain ⟨xw, ss, sa, es, nsa, hss, hsl, hcase, exw⟩ : ∃ (xw : Str) (ss : List Int) (sa : Addr), H2 sa = some (.lst (ss.map V.int)) ∧ sa ≠ p ∧ ss ≠ [] ∧ ss.length ≤ 1000 ∧ (∀ o ∈ ss, (((xw = "undone" ∧ o ∈ as) ∨ ((xw = "paid" ∨ xw = "void") ∧ o ∈ ds)) ∧ o < num)) ∧ (xw = x ∧ sa = ld) :=
        ⟨x, ds, ld, s2 _ _ eld1, nld, hne, hdl, fun o ho => ⟨.inr ⟨(by rcases hx with h | h | h; exact .inl h; exact .inr h; exact absurd h hu), ho⟩, hdn o ho⟩, rfl, rfl⟩
      obtain ⟨rfl, rfl⟩ := exw
    all_goals
      have P2 : PenAt H2 p := by
        obtain ⟨x1, x2, x3, x4, z1, z2⟩ := P1
        exact ⟨x1, x2, x3, x4, s2 _ _ z1, z2⟩
      have k02 : Kp p H H2 := k01.trans (Kp.same s2)
      refine ⟨_, rfl, _, rfl, p, rfl, P2, fun v1 H3 k3 P3 a1 b1 => ?_⟩
      refine ⟨_, rfl, p, rfl, P3, fun v2 H4 k4 P4 a2 b2 => ?_⟩
      refine ⟨_, rfl, p, 4, rfl, P4, by decide, by decide, fun v3 H5 k5 P5 a3 b3 => ?_⟩
      have k25 : Kp p H2 H5 := k3.trans (k4.trans k5)
      have es5 := k25 _ _ nsa es
      have hlpos : 0 < ss.length := List.length_pos_iff.mpr hss
      refine ⟨_, rfl, _, rfl, _, rfl, _, rfl, _, _, rfl, .inl (SqL.of es5), p, _, rfl, P5, by rw [List.length_map]; omega, by rw [List.length_map]; omega, fun v4 H6 k6 P6 a4 b4 => ?_⟩
      rw [List.length_map] at b4
      have hk : v4.toNat < ss.length := by omega
      refine ⟨_, _, _, .int ss[v4.toNat], rfl, rfl, SqL.of (k6 _ _ nsa es5), at_of (j := v4.toNat) (by omega) (by rw [List.getElem?_map, List.getElem?_eq_getElem hk]; rfl), (by show 6 ≤ sizeLine; decide), fun t3 nt3 => ?_⟩
      exact q t3 ⟨num, v1, v2, v3, .act _ ss[v4.toNat]⟩ _ (k02.trans (k25.trans (k6.trans (Kp.new nt3 _)))) (P6.new nt3 _) upd_same rfl rfl fun n => ⟨⟨a1, b1⟩, ⟨a2, b2⟩, ⟨a3, by show v3 ≤ 3; omega⟩, hcase _ (List.getElem_mem hk)⟩
end
end Deed

namespace Deed
open PySem PySem.Spec PyProof.Rows L2 LamX
theorem okE_snoc {n : Nat} {es : List En} {e : En} {num : Int} (hok : BkOk n es) (hlt : ∀ x ∈ es, x.num < num) (hnum : e.num = num) (h0 : 0 ≤ num) (h1 : num ≤ 30) (hEn : EnOk n (dn es) (an es) e) : BkOk n (es ++ [e]) := by
  have hd : ∀ x ∈ dn es, x ∈ dn (es ++ [e]) := fun x hx => by rw [dn_snoc]; exact List.mem_append_left _ hx
  have ha : ∀ x ∈ an es, x ∈ an (es ++ [e]) := fun x hx => by rw [an_snoc]; exact List.mem_append_left _ hx
  refine ⟨?_, fun e' he' => ?_, fun e' he' => ?_⟩
  · rw [List.map_append]
    refine List.nodup_append.mpr ⟨hok.nd, List.pairwise_singleton _ _, fun x hx y hy => ?_⟩
    obtain ⟨e', he', rfl⟩ := List.mem_map.mp hx
    have hy' : y = e.num := by simpa using hy
    rw [hy', hnum]
    exact Int.ne_of_lt (hlt e' he')
  · rcases List.mem_append.mp he' with he' | he'
    · exact hok.rng e' he'
    · rw [List.mem_singleton.mp he', hnum]
      omega
  · rcases List.mem_append.mp he' with he' | he'
    · exact (hok.ok e' he').mono hd ha
    · rw [List.mem_singleton.mp he']
      exact hEn.mono hd ha
theorem Kp.none {p q : Addr} {H H' : Hp} (k : Kp p H H') (n : q ≠ p) (h : H' q = none) : H q = none := by
  cases z : H q with
  | none => rfl
  | some o => rw [k _ _ n z] at h; cases h
section
variable {P : Program} {w : World} {K : PySem.W.Frag} {mg : Str → Option Value} {base : Heap}
abbrev sBook : Stmt := topS 91
abbrev nBook : List Str := ["_law_pen_here", "_law_most", "_law_folk_here", "_law_step", "_law_deeds", "_law_acts", "_law_entries", "_law_shift", "_law_k", "_law_number", "_law_age"]
abbrev pBook : List Str := ["_law_pen_here", "_law_most"]
theorem scBook : FnScope nBook pBook (defScope sBook) := ⟨rfl, rfl, rfl, by decide +kernel, rfl, by decide +kernel, by decide +kernel⟩
def spBook : Sp := fun vs H Q _ => ∃ (p : Addr) (most : Int), vs = [.ref p, .int most] ∧ PenAt H p ∧ 0 ≤ most ∧ most ≤ 16 ∧
  ∀ b fk t n age zs H', Kp p H H' → PenAt H' p → BookAt H' b fk t n age zs → (zs.length : Int) ≤ most → Q (.ref b) H'
theorem ok_book {f : Addr} {fd : FuncData} {k : Nat} (F : Fun K "_law_book" "_law_book" sBook f fd) (C__law_draw : CDraw P w K mg base k) (C__law_folk : CallOk P w K mg base k "_law_folk" pFolk spFolk) (C__law_deed : CallOk P w K mg base k "_law_deed" pDeed (spDeed K)) (C__law_act : CallOk P w K mg base k "_law_act" pAct (spAct K)) (C__law_mixed : CallOk P w K mg base k "_law_mixed" ["_law_pen_here", "_law_some"] (spMixed K)) (m_int : mg "int" = none) (m_range : mg "range" = none) (m_tuple : mg "tuple" = none) : FnOk P w K mg base CX0 (k + 1) f fd pBook spBook := by
  refine F.ok scBook (fun vs H Q E h => ?_) (fun cdv A outer s H vs Q E hr h => ?_)
  · obtain ⟨p, m, rfl, _⟩ := h
    rfl
  · obtain ⟨p, most, rfl, hP, hm0, hm1, q⟩ := h
    have nd := scBook.nd
    refine ⟨_, pss_cons (ps_par (i := 2) (j := 3) (by rfl) nd rfl rfl (by decide) rfl rfl (pa_cons (pe_call C__law_folk.ok hr (by rfl) C__law_folk.g C__law_folk.kp C__law_folk.b .nil pass0 (pa_cons (pv 0) (pa_cons pe_int pa_nil))) (pa_cons (pe_op op_add pe_int (pe_call C__law_draw.ok hr (by rfl) C__law_draw.g C__law_draw.kp C__law_draw.b .nil pass0 (pa_cons (pv 0) (pa_cons pe_int pa_nil)))) pa_nil)) (by rfl))
      (pss_cons (ps_par3 (i := 4) (j := 5) (l := 6) (by rfl) nd rfl rfl rfl (by decide) (by decide) (by decide) rfl rfl rfl (pa_cons (pe_lst pa_nil) (pa_cons (pe_lst pa_nil) (pa_cons (pe_lst pa_nil) pa_nil))) (by rfl))
      (pss_cons (ps_set (i := 7) nd rfl (.inl rfl) (pe_op op_mul (pe_call C__law_draw.ok hr (by rfl) C__law_draw.g C__law_draw.kp C__law_draw.b .nil pass0 (pa_cons (pv 0) (pa_cons pe_int pa_nil))) (pe_callTy call_int1 (by rfl) m_int (by decide +kernel) (pa_cons (pe_cmpR op_eq (pv 3) pe_int (nomark _)) pa_nil))))
      (pss_cons (ps_for PassesOwn.never rfl (pi_range1 rfl m_range (pa_cons (pe_call C__law_draw.ok hr (by rfl) C__law_draw.g C__law_draw.kp C__law_draw.b .nil pass0 (pa_cons (pv 0) (pa_cons (pe_op op_add (pv 1) pe_int) pa_nil))) pa_nil)) (pg_name (i := 8) nd rfl (.inl rfl))
        (pss_cons (ps_set (i := 9) nd rfl (.inl rfl) (pe_op op_add (pe_op op_mul (pv 8) (pv 3)) (pv 7)))
      (pss_one (ps_if (PW.pt (pw_or (pt_cmpR (op_eqD hr.units) (pv 4) (pe_lst pa_nil) (nomark _)) (pw_or1 (pt_cmpR op_lt (pe_call C__law_draw.ok hr (by rfl) C__law_draw.g C__law_draw.kp C__law_draw.b .nil pass0 (pa_cons (pv 0) (pa_cons pe_int pa_nil))) pe_int (nomark _))))) (pss_cons (ps_expr (pe_bm PySem.F.plainAttrs_list PySem.F.slot_list_append PySem.F.type_list_append mt_append (pv 6) (pa_cons (pe_call C__law_deed.ok hr (by rfl) C__law_deed.g C__law_deed.kp C__law_deed.b .nil pass0 (pa_cons (pv 0) (pa_cons (pv 9) (pa_cons (pv 2) (pa_cons (pv 4) pa_nil))))) pa_nil)))
      (pss_one (ps_expr (pe_bm PySem.F.plainAttrs_list PySem.F.slot_list_append PySem.F.type_list_append mt_append (pv 4) (pa_cons (pv 9) pa_nil))))) (pss_cons (ps_expr (pe_bm PySem.F.plainAttrs_list PySem.F.slot_list_append PySem.F.type_list_append mt_append (pv 6) (pa_cons (pe_call C__law_act.ok hr (by rfl) C__law_act.g C__law_act.kp C__law_act.b .nil pass0 (pa_cons (pv 0) (pa_cons (pv 9) (pa_cons (pv 4) (pa_cons (pv 5) pa_nil))))) pa_nil)))
      (pss_one (ps_expr (pe_bm PySem.F.plainAttrs_list PySem.F.slot_list_append PySem.F.type_list_append mt_append (pv 5) (pa_cons (pv 9) pa_nil)))))))))
      (pss_cons (ps_set (i := 10) nd rfl (.inl rfl) (pe_ix ix_list (pe_lst (pa_cons pe_int (pa_cons (pe_call C__law_draw.ok hr (by rfl) C__law_draw.g C__law_draw.kp C__law_draw.b .nil pass0 (pa_cons (pv 0) (pa_cons pe_int pa_nil))) (pa_cons (pe_call C__law_draw.ok hr (by rfl) C__law_draw.g C__law_draw.kp C__law_draw.b .nil pass0 (pa_cons (pv 0) (pa_cons pe_int pa_nil))) pa_nil)))) (pe_call C__law_draw.ok hr (by rfl) C__law_draw.g C__law_draw.kp C__law_draw.b .nil pass0 (pa_cons (pv 0) (pa_cons pe_int pa_nil))) (fun _ _ => rfl)))
      (pss_one (ps_ret (pe_tup (pa_cons (pv 2) (pa_cons (pv 10) (pa_cons (pe_callTy call_tuple_of (by rfl) m_tuple (by decide +kernel) (pa_cons (pe_call C__law_mixed.ok hr (by rfl) C__law_mixed.g C__law_mixed.kp C__law_mixed.b .nil pass0 (pa_cons (pv 0) (pa_cons (pv 6) pa_nil))) pa_nil)) pa_nil)))))))))), ?_⟩
    refine ⟨_, rfl, p, 2, rfl, hP, by decide, by decide, fun fk n H1 k1 P1 F1 hn2 hn6 => ?_⟩
    have hn2' : 2 ≤ n := by omega
    refine ⟨_, rfl, p, 2, rfl, P1, by decide, by decide, fun st0 H2 k2 P2 a2 b2 => ⟨_, _, rfl, rfl, _, _, rfl, ?_⟩⟩
    have F2 := F1.kp k2 P1
    have k12 := k1.trans k2
    refine ⟨Nat.zero_le _, fun ld hld => ?_⟩
    have nld : ld ≠ p := P2.free hld
    have hldH : H ld = none := k12.none nld hld
    refine ⟨Nat.zero_le _, fun la hla => ?_⟩
    have Pd := P2.new hld (.lst [])
    have nla : la ≠ p := Pd.free hla
    have nda : ld ≠ la := fun z => by rw [← z, upd_same] at hla; cases hla
    have hlaH : H la = none := (k12.trans (Kp.new hld _)).none nla hla
    refine ⟨Nat.zero_le _, fun lf hlf => ⟨_, _, _, rfl, ?_⟩⟩
    have Pa := Pd.new hla (.lst [])
    have nlf : lf ≠ p := Pa.free hlf
    have naf : la ≠ lf := fun z => by rw [← z, upd_same] at hlf; cases hlf
    have ndf : ld ≠ lf := fun z => by rw [← z, upd_ne nda, upd_same] at hlf; cases hlf
    have hlfH : H lf = none := (k12.trans ((Kp.new hld _).trans (Kp.new hla _))).none nlf hlf
    have k3 : Kp p H2 (upd (upd (upd H2 ld (.lst [])) la (.lst [])) lf (.lst [])) := ((Kp.new hld _).trans (Kp.new hla _)).trans (Kp.new hlf _)
    have P3 := Pa.new hlf (.lst [])
    have e3d : (upd (upd (upd H2 ld (.lst [])) la (.lst [])) lf (.lst [])) ld = some (.lst []) := by rw [upd_ne ndf, upd_ne nda, upd_same]
    have e3a : (upd (upd (upd H2 ld (.lst [])) la (.lst [])) lf (.lst [])) la = some (.lst []) := by rw [upd_ne naf, upd_same]
    have e3f : (upd (upd (upd H2 ld (.lst [])) la (.lst [])) lf (.lst [])) lf = some (.lst []) := upd_same
    generalize (upd (upd (upd H2 ld (.lst [])) la (.lst [])) lf (.lst [])) = H3 at k3 P3 e3d e3a e3f
    -- the shift
    refine ⟨_, rfl, p, 15, rfl, P3, by decide, by decide, fun sh H3' k3' P3' a3 b3 => ?_⟩
    refine ⟨_, rfl, rfl, .inr ⟨_, rfl, ?_⟩⟩
    refine ⟨_, _, rfl, rfl, .inl ⟨by omega, by omega⟩, ?_⟩
    obtain ⟨sf, esf, hsf⟩ : ∃ sf : Int, sh * (if decide (V.int (1 + st0) = V.int 1) = true then 1 else 0) = sf ∧ 0 ≤ sf ∧ ∀ i : Int, 0 ≤ i → i < 16 → i * (1 + st0) + sf ≤ 30 ∧ 0 ≤ i * (1 + st0) + sf := by
      have hst : st0 = 0 ∨ st0 = 1 := by omega
      rcases hst with rfl | rfl
      · exact ⟨sh, by simp, by omega, fun i h1 h2 => by omega⟩
      · exact ⟨0, by simp, by omega, fun i h1 h2 => by omega⟩
    dsimp only
    rw [esf]
    have k03 := k12.trans (k3.trans k3')
    refine ⟨_, rfl, _, rfl, _, _, rfl, rfl, p, most + 1, rfl, P3', by omega, by omega, fun many H4 k4 P4 a4 b4 => ?_⟩
    refine ⟨_, rfl, by omega, by omega, ?_⟩
    have k34 := k3'.trans k4
    refine for_range (lo := 0) (n := many.toNat) (fun i σ H' => ∃ y8 y9 y10, ∃ (zs : List (Addr × En)), σ = [some (.ref p), some (.int most), some (.ref fk), some (.int (1 + st0)), some (.ref ld), some (.ref la), some (.ref lf), some (.int sf), y8, y9, y10] ∧ Kp p H H' ∧ PenAt H' p ∧ FolkAt H' fk n ∧
        H' ld = some (.lst ((dn (ens zs)).map V.int)) ∧ H' la = some (.lst ((an (ens zs)).map V.int)) ∧ H' lf = some (.lst (refs zs)) ∧ (∀ z ∈ zs, EntAt H' z.1 z.2) ∧ zs.length = i ∧ BkOk n (ens zs) ∧ (∀ e ∈ ens zs, e.num < (i : Int) * (1 + st0) + sf))
      ⟨none, none, none, [], rfl, k03.trans k4, P4, ((F2.kp k3 P2).kp k3' P3).kp k4 P3', k34 _ _ nld e3d, k34 _ _ nla e3a, k34 _ _ nlf e3f, (fun _ h => nomatch h), rfl, ⟨List.nodup_nil, (fun _ h => nomatch h), (fun _ h => nomatch h)⟩, (fun _ h => nomatch h)⟩ ?_ ?_
    · rintro i σ H' hi ⟨y8, y9, y10, zs, rfl, k', P', F', ed, ea, ef, hent, hlen, hok, hlt⟩
      have hel : (ens zs).length = i := by rw [List.length_map, hlen]
      have hdl := dn_len (ens zs)
      have hal := an_len (ens zs)
      obtain ⟨hn1, hn0⟩ := hsf.2 (i : Int) (by omega) (by omega)
      have hst : 0 ≤ st0 ∧ st0 ≤ 1 := ⟨a2, by omega⟩
      refine ⟨_, rfl, _, rfl, _, _, rfl, rfl, .inl ⟨by omega, by omega⟩, _, rfl, _, _, rfl, rfl, ?_⟩
      dsimp only
      rw [show (0 + (i : Int)) * (1 + st0) + sf = (i : Int) * (1 + st0) + sf by rw [Int.zero_add]]
      have hnext : (i : Int) * (1 + st0) + sf < ((i : Nat) + 1 : Int) * (1 + st0) + sf := by
        rw [Int.add_mul]
        omega
      generalize hnm : (i : Int) * (1 + st0) + sf = num at hn1 hn0 hlt hnext
      have hdn : ∀ d ∈ dn (ens zs), d < num := fun d hd => by
        obtain ⟨e, he, rfl⟩ := List.mem_map.mp (dn_sub _ _ hd)
        exact hlt e he
      have han : ∀ d ∈ an (ens zs), d < num := fun d hd => by
        obtain ⟨e, he, rfl⟩ := List.mem_map.mp (an_sub _ _ hd)
        exact hlt e he
      refine ⟨_, rfl, Nat.zero_le _, fun l5 nl5 => ?_⟩
      have s5 := same_new nl5 (.lst [])
      have el5 : (upd H' l5 (.lst [])) l5 = some (.lst (([] : List Int).map V.int)) := upd_same
      generalize upd H' l5 (.lst []) = H5 at s5 el5
      have P5 : PenAt H5 p := by
        obtain ⟨x1, x2, x3, x4, z1, z2⟩ := P'
        exact ⟨x1, x2, x3, x4, s5 _ _ z1, z2⟩
      have k5 : Kp p H' H5 := Kp.same s5
      refine ⟨.list ((dn (ens zs)).map PyData.int), .list (([] : List Int).map PyData.int), .lst (SqL.of (s5 _ _ ed)) (dp_ints _), .lst (SqL.of el5) (dp_ints _), shaped_ints _, shaped_ints _, _, rfl, ?_⟩
      rw [eqv_ints]
      -- behind an entry at a, of a deed or an act, at the heap H6
      have fin : ∀ (a : Addr) (e : En) (H6 : Hp), Kp p H' H6 → PenAt H6 p → EntAt H6 a e → e.num = num → EnOk n (dn (ens zs)) (an (ens zs)) e →
          (H6 lf = some (.lst (refs zs)) ∧ ∀ (lx : Addr) (o : List V), (lx = ld ∨ lx = la) → (e.isDeed = true → lx = ld ∧ o = (dn (ens zs)).map V.int ++ [.int num]) → (e.isDeed = false → lx = la ∧ o = (an (ens zs)).map V.int ++ [.int num]) →
            (upd H6 lf (.lst (refs zs ++ [.ref a]))) lx = some (.lst (if e.isDeed then (dn (ens zs)).map V.int else (an (ens zs)).map V.int)) ∧
            ∃ (zs' : List (Addr × En)), Kp p H (upd (upd H6 lf (.lst (refs zs ++ [.ref a]))) lx (.lst o)) ∧ PenAt (upd (upd H6 lf (.lst (refs zs ++ [.ref a]))) lx (.lst o)) p ∧ FolkAt (upd (upd H6 lf (.lst (refs zs ++ [.ref a]))) lx (.lst o)) fk n ∧
        (upd (upd H6 lf (.lst (refs zs ++ [.ref a]))) lx (.lst o)) ld = some (.lst ((dn (ens zs')).map V.int)) ∧ (upd (upd H6 lf (.lst (refs zs ++ [.ref a]))) lx (.lst o)) la = some (.lst ((an (ens zs')).map V.int)) ∧ (upd (upd H6 lf (.lst (refs zs ++ [.ref a]))) lx (.lst o)) lf = some (.lst (refs zs')) ∧ (∀ z ∈ zs', EntAt (upd (upd H6 lf (.lst (refs zs ++ [.ref a]))) lx (.lst o)) z.1 z.2) ∧ zs'.length = i + 1 ∧ BkOk n (ens zs') ∧ (∀ e ∈ ens zs', e.num < ((i : Nat) + 1 : Int) * (1 + st0) + sf)) := by
        intro a e H6 k6 P6 E6 hnum hEn
        have kT6 := k6.tup P'
        have ed6 := k6 _ _ nld ed
        have ea6 := k6 _ _ nla ea
        have ef6 := k6 _ _ nlf ef
        refine ⟨ef6, fun lx o hlx hD hA => ?_⟩
        have nlxf : lx ≠ lf := by rcases hlx with h | h <;> rw [h] <;> assumption
        have nlxp : lx ≠ p := by rcases hlx with h | h <;> rw [h] <;> assumption
        have hlxH : H lx = none := by rcases hlx with h | h <;> rw [h] <;> assumption
        have kT7 := KpT.lst ef6 (.lst (refs zs ++ [.ref a]))
        have P7 := P6.put nlf (.lst (refs zs ++ [.ref a]))
        have k7 := (k'.trans k6).over hlfH (.lst (refs zs ++ [.ref a]))
        have ed7 := (show (upd H6 lf (.lst (refs zs ++ [.ref a]))) ld = H6 ld from upd_ne ndf).trans ed6
        have ea7 := (show (upd H6 lf (.lst (refs zs ++ [.ref a]))) la = H6 la from upd_ne naf).trans ea6
        have ef7 := (show (upd H6 lf (.lst (refs zs ++ [.ref a]))) lf = some (.lst (refs zs ++ [.ref a])) from upd_same)
        have E7 := E6.kp kT7
        have F7 := (F'.kpT kT6).kpT kT7
        have hent7 : ∀ z ∈ zs, EntAt (upd H6 lf (.lst (refs zs ++ [.ref a]))) z.1 z.2 := fun z hz => ((hent z hz).kp kT6).kp kT7
        generalize (upd H6 lf (.lst (refs zs ++ [.ref a]))) = H7 at kT7 P7 k7 ed7 ea7 ef7 E7 F7 hent7
        have elx : H7 lx = some (.lst (if e.isDeed then (dn (ens zs)).map V.int else (an (ens zs)).map V.int)) := by
          cases hd : e.isDeed with
          | true => rw [(hD hd).1, ed7]; rfl
          | false => rw [(hA hd).1, ea7]; rfl
        refine ⟨elx, zs ++ [(a, e)], k7.over hlxH _, P7.put nlxp _, F7.kpT (KpT.lst elx _), ?_, ?_, ?_, fun z hz => ?_, ?_, ?_, fun e' he' => ?_⟩
        · rw [show ens (zs ++ [(a, e)]) = ens zs ++ [e] by simp [ens], dn_snoc]
          cases hd : e.isDeed with
          | true =>
            obtain ⟨h1, h2⟩ := hD hd
            rw [h1, h2, upd_same, if_pos rfl, List.map_append, hnum]
            rfl
          | false =>
            obtain ⟨h1, h2⟩ := hA hd
            rw [h1, upd_ne nda, if_neg (by decide), List.append_nil]
            exact ed7
        · rw [show ens (zs ++ [(a, e)]) = ens zs ++ [e] by simp [ens], an_snoc]
          cases hd : e.isDeed with
          | true =>
            obtain ⟨h1, h2⟩ := hD hd
            rw [h1, upd_ne nda.symm, if_pos rfl, List.append_nil]
            exact ea7
          | false =>
            obtain ⟨h1, h2⟩ := hA hd
            rw [h1, h2, upd_same, if_neg (by decide), List.map_append, hnum]
            rfl
        · rw [upd_ne nlxf.symm, ef7]
          simp [refs]
        · rcases List.mem_append.mp hz with hz | hz
          · exact (hent7 z hz).kp (KpT.lst elx _)
          · rw [List.mem_singleton.mp hz]
            exact E7.kp (KpT.lst elx _)
        · rw [List.length_append, hlen]
          rfl
        · rw [show ens (zs ++ [(a, e)]) = ens zs ++ [e] by simp [ens]]
          exact okE_snoc hok hlt hnum hn0 hn1 hEn
        · rw [show ens (zs ++ [(a, e)]) = ens zs ++ [e] by simp [ens]] at he'
          rcases List.mem_append.mp he' with he' | he'
          · have := hlt e' he'
            omega
          · rw [List.mem_singleton.mp he', hnum]
            exact hnext
      refine (Classical.em (dn (ens zs) = [])).elim (fun hd0 => ?D1) (fun hd0 => ?D2)
      case' D1 =>
        rw [decide_eq_true hd0]
        refine iteT ?_
        refine iteT ?_
        obtain ⟨H5b, k5b, P5b⟩ : ∃ H5b, Kp p H' H5b ∧ PenAt H5b p ∧ H5b = H5 := ⟨H5, k5, P5, rfl⟩
        obtain ⟨P5b, rfl⟩ := P5b
      case' D2 =>
        rw [decide_eq_false hd0]
        refine iteF ?_
        refine ⟨_, rfl, p, 5, rfl, P5, by decide, by decide, fun v5 H5b k5b0 P5b a5 b5 => ⟨_, _, rfl, rfl, _, rfl, ?_⟩⟩
        have k5b : Kp p H' H5b := k5.trans k5b0
        refine (Classical.em (v5 < 2)).elim (fun h52 => ?D3) (fun h52 => ?D4)
        case' D3 =>
          rw [decide_eq_true h52]
          refine iteT ?_
        case' D4 =>
          rw [decide_eq_false h52]
          refine iteF ?_
      case D4 =>
        have ef5 := k5b _ _ nlf ef
        refine ⟨_, rfl, .inl ⟨rfl, _, SqL.of ef5⟩, _, rfl, _, rfl, _, rfl, _, rfl, p, ld, la, num, dn (ens zs), an (ens zs), rfl, P5b, k5b _ _ nld ed, nld, k5b _ _ nla ea, nla, hd0, by omega, by omega, hdn, han, fun a e H6 k6 P6 E6 hnum hnd hEn => ?_⟩
        obtain ⟨f1, f2⟩ := fin a e H6 (k5b.trans k6) P6 E6 hnum (hEn n)
        refine ⟨lf, _, _, rfl, rfl, f1, small1000 (by rw [List.length_map]; omega), ?_⟩
        obtain ⟨f3, zs', f4⟩ := f2 la ((an (ens zs)).map V.int ++ [.int num]) (.inr rfl) (fun z => by rw [hnd] at z; cases z) (fun _ => ⟨rfl, rfl⟩)
        rw [hnd] at f3
        refine ⟨_, rfl, .inl ⟨rfl, _, SqL.of f3⟩, _, rfl, la, _, _, rfl, rfl, f3, small1000 (by show ((an (ens zs)).map V.int).length ≤ 1000; rw [List.length_map]; omega), ?_⟩
        exact ⟨_, _, _, zs', rfl, f4⟩
      all_goals
        have ef5 := k5b _ _ nlf ef
        refine ⟨_, rfl, .inl ⟨rfl, _, SqL.of ef5⟩, _, rfl, _, rfl, _, rfl, _, rfl, p, fk, ld, num, n, dn (ens zs), rfl, P5b, F'.kpT (k5b.tup P'), hn2', hn6, k5b _ _ nld ed, nld, dn_nodup hok.nd, by omega, hdn, fun a e H6 k6 P6 E6 hnum hnd hEn => ?_⟩
        obtain ⟨f1, f2⟩ := fin a e H6 (k5b.trans k6) P6 E6 hnum (hEn _)
        refine ⟨lf, _, _, rfl, rfl, f1, small1000 (by rw [List.length_map]; omega), ?_⟩
        obtain ⟨f3, zs', f4⟩ := f2 ld ((dn (ens zs)).map V.int ++ [.int num]) (.inl rfl) (fun _ => ⟨rfl, rfl⟩) (fun z => by rw [hnd] at z; cases z)
        rw [hnd] at f3
        refine ⟨_, rfl, .inl ⟨rfl, _, SqL.of f3⟩, _, rfl, ld, _, _, rfl, rfl, f3, small1000 (by show ((dn (ens zs)).map V.int).length ≤ 1000; rw [List.length_map]; omega), ?_⟩
        exact ⟨_, _, _, zs', rfl, f4⟩
    · rintro σ H' ⟨y8, y9, y10, zs, rfl, k', P', F', ed, ea, ef, hent, hlen, hok, hlt⟩
      refine ⟨_, rfl, p, 30, rfl, P', by decide, by decide, fun v1 H5 k5 P5 a5 b5 => ?_⟩
      refine ⟨_, rfl, p, 10000, rfl, P5, by decide, by decide, fun v2 H6 k6 P6 a6 b6 => ?_⟩
      refine ⟨(by show 3 ≤ sizeLine; decide), fun l6 nl6 => ?_⟩
      refine ⟨_, rfl, p, 3, rfl, P6.new nl6 _, by decide, by decide, fun v3 H7 k7 P7 a7 b7 => ?_⟩
      obtain ⟨_, g8, age, rfl, a8, b8⟩ := pick (xs := [.int 0, .int v1, .int v2]) (Within 0 9999) a7 b7 (am1 ⟨_, rfl, by omega, by omega⟩ (am1 ⟨_, rfl, by omega, by omega⟩ (am1 ⟨_, rfl, by omega, by omega⟩ am0)))
      refine ⟨l6, _, _, _, rfl, rfl, SqL.of (k7 _ _ (P6.free nl6) upd_same), g8, ?_⟩
      have k57 : Kp p H' H7 := k5.trans (k6.trans ((Kp.new nl6 _).trans k7))
      have hl16 : zs.length ≤ 16 := by omega
      refine ⟨_, rfl, _, rfl, _, rfl, _, rfl, p, lf, _, rfl, P7, .inl (SqL.of (k57 _ _ nlf ef)), by rw [List.length_map]; omega, fun lm ys H8 k8 P8 nlm elm pm => ?_⟩
      obtain ⟨zs', rfl, pm2⟩ := perm_pairs (fun z : Addr × En => V.ref z.1) pm zs rfl
      refine ⟨lm, _, rfl, .inl ⟨SqL.of elm, fun t7 nt7 => ?_⟩⟩
      have k9 : Kp p H8 _ := Kp.new nt7 (.tup (refs zs'))
      have P9 := P8.new nt7 (.tup (refs zs'))
      have e9 : (upd H8 t7 (.tup (refs zs'))) t7 = some (.tup (refs zs')) := upd_same
      refine ⟨(by show 3 ≤ sizeLine; decide), fun t8 nt8 => ?_⟩
      have k10 : Kp p _ _ := Kp.new nt8 (.tup [.ref fk, .int age, .ref t7])
      have kA := (k57.trans (k8.trans (k9.trans k10)))
      have kAT := kA.tup P'
      refine q t8 fk t7 n age zs' _ (k'.trans kA) (P9.new nt8 _) ⟨upd_same, F'.kpT kAT, hn2', hn6, a8, b8, k10.tup P9 _ _ e9, fun z hz => (hent z (pm2.mem_iff.mp hz)).kp kAT, hok.perm (pm2.map _), by rw [pm2.length_eq]; exact hl16⟩ ?_
      rw [pm2.length_eq, hlen]
      omega
end
end Deed

namespace Deed
open PySem PySem.Spec PyProof.Rows L2 LamX
section
variable {P : Program} {w : World} {K : PySem.W.Frag} {mg : Str → Option Value} {base : Heap} {fRi fDe : Addr} {dRi dDe : FuncData} {T : List (Addr × Str)}
abbrev sDeedE : Stmt := topS 29
theorem scDeedE : FnScope ["book", "entry"] ["book"] (defScope sDeedE) := ⟨rfl, rfl, rfl, by decide +kernel, rfl, by decide +kernel, by decide +kernel⟩
theorem ok_deedE {f : Addr} {fd : FuncData} {k : Nat} (F : Fun K "deed_entries" "deed_entries" sDeedE f fd) (R : RisD K mg base T fRi dRi) (mW : MgInt mg "WORD" 4) : FnOk P w K mg base CX0 (k + 3) f fd ["book"] (spPick (·.isDeed) T) := by
  have GR : FnOk P w K mg base CX0 (k + 2) fRi dRi ["book"] (spRising T) := R.ok
  refine F.ok scDeedE (fun vs H Q E h => ?_) (fun cdv A outer s H vs Q E hr h => ?_)
  · obtain ⟨b, fk, t, n, age, zs, rfl, _⟩ := h
    rfl
  · obtain ⟨b, fk, t, n, age, zs, rfl, hB, hT, q⟩ := h
    refine ⟨_, pss_one (ps_ret (pe_lc (own := [("entry", 1)]) (g := gName 1) (by rfl) scDeedE.nd (pi_list (pe_call GR hr (by rfl) R.D.g R.D.F.kp R.D.b .nil pass0 (pa_cons (pv 0) pa_nil))) (blkOk_by (own := [("entry", 1)]) (N := ["book", "entry"]) (sc := defScope sDeedE) (by decide +kernel)) (fun _ _ _ _ _ => pg_name (i := 1) scDeedE.nd rfl (Or.inl rfl))
      (fun _ _ _ _ _ => pts_one (pt_cmpR op_eq (show PE _ _ (tOp (rIxT K) (tVar 1) (tC (.int 4))) from pe_ix ix_tup (pv 1) (pe_num (by rfl) mW) (fun _ _ => rfl)) pe_str (nomark _))) (fun _ _ _ _ _ => pv 1))), ?_⟩
    refine ⟨_, rfl, b, fk, t, n, age, zs, rfl, hB, hT, fun p zs' H1 eN T1 fr ep pm so => ?_⟩
    have hent : ∀ z ∈ zs', EntAt H1 z.1 z.2 := fun z hz => (hB.ent z (pm.mem_iff.mp hz)).kp (ExtN.tup eN)
    refine ⟨p, rfl, ⟨_, SqL.of ep⟩, fun D nD => ?_⟩
    have npD : p ≠ D := ne_of_none ep nD
    refine lc_list (K := K) (a := p) (xs := refs zs') (fun i H' => H' D = some (.lst (refs ((zs'.take i).filter fun z => z.2.isDeed))) ∧ Same H1 H') ⟨upd_same, fun b o e => by rw [upd_ne (ne_of_none e nD)]; exact e⟩ (fun i H' _ h => SqL.of (h.2 _ _ ep)) ?_ ?_
    · rintro i x H' hx ⟨eD, sm⟩
      obtain ⟨z, hz, rfl⟩ := ref_at hx
      have hzm : z ∈ zs' := List.mem_of_getElem? hz
      obtain ⟨xs, ex, _, _, _, _, g4⟩ := ((hent z hzm).kp (Same.tup sm)).tup
      refine ⟨rfl, _, rfl, z.1, xs, 4, _, rfl, rfl, SqT.of ex, g4, rfl, _, rfl, ?_⟩
      have wd := (hB.ok.ok z.2 (List.mem_map.mpr ⟨z, pm.mem_iff.mp hzm, rfl⟩)).word
      have et := take_more hz
      refine ite2 (fun c => ?_) (fun c => ?_)
      · have hd : z.2.isDeed = true := wd.mp (by
          have := of_decide_eq_true c
          injection this)
        refine ⟨_, rfl, _, eD, small1000 ?_, ?_, fun b o e => ?_⟩
        · have h1 := List.length_filter_le (fun z : Addr × En => z.2.isDeed) (zs'.take i)
          have h2 := pm.length_eq
          have h3 := hB.len
          rw [List.length_map]
          rw [List.length_take] at h1
          omega
        · rw [upd_same, et, List.filter_append]
          simp [hd, refs]
        · have nb : b ≠ D := ne_of_none e nD
          rw [upd_ne nb]
          exact sm _ _ e
      · have hd : z.2.isDeed = false := by
          cases hh : z.2.isDeed with
          | false => rfl
          | true =>
            refine absurd (decide_eq_true ?_) c
            rw [wd.mpr hh]
        refine ⟨?_, sm⟩
        rw [eD, et, List.filter_append]
        simp [hd]
    · rintro H' ⟨eD, sm⟩
      have el : zs'.take (refs zs').length = zs' := List.take_of_length_le (by rw [List.length_map]; exact Nat.le_refl _)
      rw [el] at eD
      exact q D zs' H' (eN.trans (.of sm)) (T1.ext sm) (Fresh.of eN nD) eD pm so
end
end Deed

namespace Deed
open PySem PySem.Spec PyProof.Rows L2 LamX
section
variable {P : Program} {w : World} {K : PySem.W.Frag} {mg : Str → Option Value} {base : Heap} {fRi fDe : Addr} {dRi dDe : FuncData} {T : List (Addr × Str)}
abbrev sActE : Stmt := topS 30
theorem scActE : FnScope ["book", "entry"] ["book"] (defScope sActE) := ⟨rfl, rfl, rfl, by decide +kernel, rfl, by decide +kernel, by decide +kernel⟩
theorem ok_actE {f : Addr} {fd : FuncData} {k : Nat} (F : Fun K "act_entries" "act_entries" sActE f fd) (R : RisD K mg base T fRi dRi) (mW : MgInt mg "WORD" 4) : FnOk P w K mg base CX0 (k + 3) f fd ["book"] (spPick (fun e => !e.isDeed) T) := by
  have GR : FnOk P w K mg base CX0 (k + 2) fRi dRi ["book"] (spRising T) := R.ok
  refine F.ok scActE (fun vs H Q E h => ?_) (fun cdv A outer s H vs Q E hr h => ?_)
  · obtain ⟨b, fk, t, n, age, zs, rfl, _⟩ := h
    rfl
  · obtain ⟨b, fk, t, n, age, zs, rfl, hB, hT, q⟩ := h
    refine ⟨_, pss_one (ps_ret (pe_lc (own := [("entry", 1)]) (g := gName 1) (by rfl) scActE.nd (pi_list (pe_call GR hr (by rfl) R.D.g R.D.F.kp R.D.b .nil pass0 (pa_cons (pv 0) pa_nil))) (blkOk_by (own := [("entry", 1)]) (N := ["book", "entry"]) (sc := defScope sActE) (by decide +kernel)) (fun _ _ _ _ _ => pg_name (i := 1) scActE.nd rfl (Or.inl rfl))
      (fun _ _ _ _ _ => pts_one (pt_cmpR op_ne (show PE _ _ (tOp (rIxT K) (tVar 1) (tC (.int 4))) from pe_ix ix_tup (pv 1) (pe_num (by rfl) mW) (fun _ _ => rfl)) pe_str (nomark _))) (fun _ _ _ _ _ => pv 1))), ?_⟩
    refine ⟨_, rfl, b, fk, t, n, age, zs, rfl, hB, hT, fun p zs' H1 eN T1 fr ep pm so => ?_⟩
    have hent : ∀ z ∈ zs', EntAt H1 z.1 z.2 := fun z hz => (hB.ent z (pm.mem_iff.mp hz)).kp (ExtN.tup eN)
    refine ⟨p, rfl, ⟨_, SqL.of ep⟩, fun D nD => ?_⟩
    have npD : p ≠ D := ne_of_none ep nD
    refine lc_list (K := K) (a := p) (xs := refs zs') (fun i H' => H' D = some (.lst (refs ((zs'.take i).filter fun z => !z.2.isDeed))) ∧ Same H1 H') ⟨upd_same, fun b o e => by rw [upd_ne (ne_of_none e nD)]; exact e⟩ (fun i H' _ h => SqL.of (h.2 _ _ ep)) ?_ ?_
    · rintro i x H' hx ⟨eD, sm⟩
      obtain ⟨z, hz, rfl⟩ := ref_at hx
      have hzm : z ∈ zs' := List.mem_of_getElem? hz
      obtain ⟨xs, ex, _, _, _, _, g4⟩ := ((hent z hzm).kp (Same.tup sm)).tup
      refine ⟨rfl, _, rfl, z.1, xs, 4, _, rfl, rfl, SqT.of ex, g4, rfl, _, rfl, ?_⟩
      have wd := (hB.ok.ok z.2 (List.mem_map.mpr ⟨z, pm.mem_iff.mp hzm, rfl⟩)).word
      have et := take_more hz
      refine ite2 (fun c => ?_) (fun c => ?_)
      · have hd : z.2.isDeed = false := by
          cases hh : z.2.isDeed with
          | false => rfl
          | true =>
            have c' : (!decide (V.str z.2.word = V.str "deed")) = true := c
            rw [wd.mpr hh] at c'
            simp at c'
        refine ⟨_, rfl, _, eD, small1000 ?_, ?_, fun b o e => ?_⟩
        · have h1 := List.length_filter_le (fun z : Addr × En => !z.2.isDeed) (zs'.take i)
          have h2 := pm.length_eq
          have h3 := hB.len
          rw [List.length_map]
          rw [List.length_take] at h1
          omega
        · rw [upd_same, et, List.filter_append]
          simp [hd, refs]
        · have nb : b ≠ D := ne_of_none e nD
          rw [upd_ne nb]
          exact sm _ _ e
      · have hd : z.2.isDeed = true := by
          cases hh : z.2.isDeed with
          | true => rfl
          | false =>
            refine absurd ?_ c
            show (!decide (V.str z.2.word = V.str "deed")) = true
            have : ¬ (V.str z.2.word = V.str "deed") := fun q => by
              injection q with q
              rw [wd.mp q] at hh
              cases hh
            rw [decide_eq_false this]
            rfl
        refine ⟨?_, sm⟩
        rw [eD, et, List.filter_append]
        simp [hd]
    · rintro H' ⟨eD, sm⟩
      have el : zs'.take (refs zs').length = zs' := List.take_of_length_le (by rw [List.length_map]; exact Nat.le_refl _)
      rw [el] at eD
      exact q D zs' H' (eN.trans (.of sm)) (T1.ext sm) (Fresh.of eN nD) eD pm so
end
end Deed

namespace Deed
open PySem PySem.Spec PyProof.Rows L2 LamX
section
variable {P : Program} {w : World} {K : PySem.W.Frag} {mg : Str → Option Value} {base : Heap} {fRi fDe : Addr} {dRi dDe : FuncData} {T : List (Addr × Str)}
abbrev sDeedsOf : Stmt := topS 31
theorem scDeedsOf : FnScope ["book", "entry"] ["book"] (defScope sDeedsOf) := ⟨rfl, rfl, rfl, by decide +kernel, rfl, by decide +kernel, by decide +kernel⟩
theorem ok_DeedsOf {f : Addr} {fd : FuncData} {k : Nat} (F : Fun K "deeds_of" "deeds_of" sDeedsOf f fd) (DE : Df K mg "deed_entries" sDeedE ["book"] fDe dDe) (GE : FnOk P w K mg base CX0 (k + 3) fDe dDe ["book"] (spPick (·.isDeed) T)) (mN : MgInt mg "NUMBER" 0) : FnOk P w K mg base CX0 (k + 4) f fd ["book"] (spNums (·.isDeed) T) := by
  refine F.ok scDeedsOf (fun vs H Q E h => ?_) (fun cdv A outer s H vs Q E hr h => ?_)
  · obtain ⟨b, fk, t, n, age, zs, rfl, _⟩ := h
    rfl
  · obtain ⟨b, fk, t, n, age, zs, rfl, hB, hT, q⟩ := h
    refine ⟨_, pss_one (ps_ret (pe_lc (own := [("entry", 1)]) (g := gName 1) (by rfl) scDeedsOf.nd (pi_list (pe_call GE hr (by rfl) DE.g DE.F.kp DE.b .nil pass0 (pa_cons (pv 0) pa_nil))) (blkOk_by (own := [("entry", 1)]) (N := ["book", "entry"]) (sc := defScope sDeedsOf) (by decide +kernel)) (fun _ _ _ _ _ => pg_name (i := 1) scDeedsOf.nd rfl (Or.inl rfl))
      (fun _ _ _ _ _ => pts_nil) (fun _ _ _ _ _ => show PE _ _ (tOp (rIxT K) (tVar 1) (tC (.int 0))) from pe_ix ix_tup (pv 1) (pe_num (by rfl) mN) (fun _ _ => rfl)))), ?_⟩
    refine ⟨_, rfl, b, fk, t, n, age, zs, rfl, hB, hT, fun p zs' H1 eN T1 fr ep pm so => ?_⟩
    have hent : ∀ z ∈ zs', EntAt H1 z.1 z.2 := fun z hz => (hB.ent z (pm.mem_iff.mp hz)).kp (ExtN.tup eN)
    refine ⟨p, rfl, ⟨_, SqL.of ep⟩, fun D nD => ?_⟩
    refine lc_list (K := K) (a := p) (xs := refs (zs'.filter fun z => (·.isDeed) z.2)) (fun i H' => H' D = some (.lst ((((zs'.filter fun z => (·.isDeed) z.2).take i).map fun z => z.2.num).map V.int)) ∧ Same H1 H') ⟨upd_same, fun b o e => by rw [upd_ne (ne_of_none e nD)]; exact e⟩ (fun i H' _ h => SqL.of (h.2 _ _ ep)) ?_ ?_
    · rintro i x H' hx ⟨eD, sm⟩
      obtain ⟨z, hz, rfl⟩ := ref_at hx
      have hzm : z ∈ zs' := (List.mem_filter.mp (List.mem_of_getElem? hz)).1
      obtain ⟨xs, ex, g0, _⟩ := ((hent z hzm).kp (Same.tup sm)).tup
      refine ⟨rfl, ?_⟩
      unfold tYes
      dsimp only
      rw [if_pos rfl]
      refine ⟨_, rfl, z.1, xs, 0, _, rfl, rfl, SqT.of ex, g0, _, eD, small1000 ?_, ?_, fun b o e => ?_⟩
      · have h1 := List.length_filter_le (fun z : Addr × En => (·.isDeed) z.2) zs'
        have h2 := pm.length_eq
        have h3 := hB.len
        rw [List.length_map, List.length_map, List.length_take]
        omega
      · rw [upd_same, take_more hz, List.map_append, List.map_append]
        rfl
      · have nb : b ≠ D := ne_of_none e nD
        rw [upd_ne nb]
        exact sm _ _ e
    · rintro H' ⟨eD, sm⟩
      have el : (zs'.filter fun z => (·.isDeed) z.2).take (refs (zs'.filter fun z => (·.isDeed) z.2)).length = zs'.filter fun z => (·.isDeed) z.2 := List.take_of_length_le (by rw [List.length_map]; exact Nat.le_refl _)
      rw [el] at eD
      exact q D zs' H' (eN.trans (.of sm)) (T1.ext sm) (Fresh.of eN nD) eD pm so
end
end Deed

namespace Deed
open PySem PySem.Spec PyProof.Rows L2 LamX
section
variable {P : Program} {w : World} {K : PySem.W.Frag} {mg : Str → Option Value} {base : Heap} {fRi fDe : Addr} {dRi dDe : FuncData} {T : List (Addr × Str)}
abbrev sActsOf : Stmt := topS 32
theorem scActsOf : FnScope ["book", "entry"] ["book"] (defScope sActsOf) := ⟨rfl, rfl, rfl, by decide +kernel, rfl, by decide +kernel, by decide +kernel⟩
theorem ok_ActsOf {f : Addr} {fd : FuncData} {k : Nat} (F : Fun K "acts_of" "acts_of" sActsOf f fd) (DE : Df K mg "act_entries" sActE ["book"] fDe dDe) (GE : FnOk P w K mg base CX0 (k + 3) fDe dDe ["book"] (spPick (fun e => !e.isDeed) T)) (mN : MgInt mg "NUMBER" 0) : FnOk P w K mg base CX0 (k + 4) f fd ["book"] (spNums (fun e => !e.isDeed) T) := by
  refine F.ok scActsOf (fun vs H Q E h => ?_) (fun cdv A outer s H vs Q E hr h => ?_)
  · obtain ⟨b, fk, t, n, age, zs, rfl, _⟩ := h
    rfl
  · obtain ⟨b, fk, t, n, age, zs, rfl, hB, hT, q⟩ := h
    refine ⟨_, pss_one (ps_ret (pe_lc (own := [("entry", 1)]) (g := gName 1) (by rfl) scActsOf.nd (pi_list (pe_call GE hr (by rfl) DE.g DE.F.kp DE.b .nil pass0 (pa_cons (pv 0) pa_nil))) (blkOk_by (own := [("entry", 1)]) (N := ["book", "entry"]) (sc := defScope sActsOf) (by decide +kernel)) (fun _ _ _ _ _ => pg_name (i := 1) scActsOf.nd rfl (Or.inl rfl))
      (fun _ _ _ _ _ => pts_nil) (fun _ _ _ _ _ => show PE _ _ (tOp (rIxT K) (tVar 1) (tC (.int 0))) from pe_ix ix_tup (pv 1) (pe_num (by rfl) mN) (fun _ _ => rfl)))), ?_⟩
    refine ⟨_, rfl, b, fk, t, n, age, zs, rfl, hB, hT, fun p zs' H1 eN T1 fr ep pm so => ?_⟩
    have hent : ∀ z ∈ zs', EntAt H1 z.1 z.2 := fun z hz => (hB.ent z (pm.mem_iff.mp hz)).kp (ExtN.tup eN)
    refine ⟨p, rfl, ⟨_, SqL.of ep⟩, fun D nD => ?_⟩
    refine lc_list (K := K) (a := p) (xs := refs (zs'.filter fun z => (fun e => !e.isDeed) z.2)) (fun i H' => H' D = some (.lst ((((zs'.filter fun z => (fun e => !e.isDeed) z.2).take i).map fun z => z.2.num).map V.int)) ∧ Same H1 H') ⟨upd_same, fun b o e => by rw [upd_ne (ne_of_none e nD)]; exact e⟩ (fun i H' _ h => SqL.of (h.2 _ _ ep)) ?_ ?_
    · rintro i x H' hx ⟨eD, sm⟩
      obtain ⟨z, hz, rfl⟩ := ref_at hx
      have hzm : z ∈ zs' := (List.mem_filter.mp (List.mem_of_getElem? hz)).1
      obtain ⟨xs, ex, g0, _⟩ := ((hent z hzm).kp (Same.tup sm)).tup
      refine ⟨rfl, ?_⟩
      unfold tYes
      dsimp only
      rw [if_pos rfl]
      refine ⟨_, rfl, z.1, xs, 0, _, rfl, rfl, SqT.of ex, g0, _, eD, small1000 ?_, ?_, fun b o e => ?_⟩
      · have h1 := List.length_filter_le (fun z : Addr × En => (fun e => !e.isDeed) z.2) zs'
        have h2 := pm.length_eq
        have h3 := hB.len
        rw [List.length_map, List.length_map, List.length_take]
        omega
      · rw [upd_same, take_more hz, List.map_append, List.map_append]
        rfl
      · have nb : b ≠ D := ne_of_none e nD
        rw [upd_ne nb]
        exact sm _ _ e
    · rintro H' ⟨eD, sm⟩
      have el : (zs'.filter fun z => (fun e => !e.isDeed) z.2).take (refs (zs'.filter fun z => (fun e => !e.isDeed) z.2)).length = zs'.filter fun z => (fun e => !e.isDeed) z.2 := List.take_of_length_le (by rw [List.length_map]; exact Nat.le_refl _)
      rw [el] at eD
      exact q D zs' H' (eN.trans (.of sm)) (T1.ext sm) (Fresh.of eN nD) eD pm so
end
end Deed

namespace Deed
open PySem PySem.Spec PyProof.Rows L2 LamX
theorem Tabs.kp {T : List (Addr × Str)} {H H' : Hp} {p : Addr} (t : Tabs T H) (k : Kp p H H') (P : PenAt H p) : Tabs T H' := fun q hq => by
  obtain ⟨ps, h1, h2, h3⟩ := t q hq
  refine ⟨ps, k _ _ (P.ne h1 fun _ z => by cases z) h1, h2, fun pos cv hc => ?_⟩
  obtain ⟨c, e1, e2⟩ := h3 pos cv hc
  exact ⟨c, e1, k _ _ (P.ne e2 fun _ z => by unfold CodeO at z; cases z) e2⟩
theorem ExtN.sqL {K : PySem.W.Frag} {H H' : Hp} {a : Addr} {xs : List V} (e : ExtN H H') (h : SqL K H a xs) : SqL K H' a xs := by
  rcases h with (z | ⟨o, z⟩) | z
  · exact .inl (.inl (e _ _ z fun ps z' => by cases z'))
  · exact .inl (.inr ⟨o, e _ _ z fun ps z' => by cases z'⟩)
  · exact .inr z
theorem ExtN.pen {H H' : Hp} {p : Addr} (e : ExtN H H') (h : PenAt H p) : PenAt H' p := by
  obtain ⟨x1, x2, x3, x4, z1, z2⟩ := h
  exact ⟨x1, x2, x3, x4, e _ _ z1 fun ps z => (by cases z), z2⟩
/-- with a pen that is new -/
theorem ExtN.kp {H H1 H2 : Hp} {p : Addr} (e : ExtN H H1) (n : H p = none) (k : Kp p H1 H2) : ExtN H H2 := fun b o z h => k b o (ne_of_none z n) (e b o z h)
theorem ExtN.put {H H' : Hp} {p : Addr} (e : ExtN H H') (f : Fresh H p) (o : HO) : ExtN H (upd H' p o) := fun b u z h => by
  rw [upd_ne (f.ne z h)]
  exact e b u z h
theorem rising_one : ∀ {l m : List Int}, l.Pairwise (· < ·) → m.Pairwise (· < ·) → (∀ x, x ∈ l ↔ x ∈ m) → l = m
  | [], [], _, _, _ => rfl
  | [], y :: m, _, _, h => absurd ((h y).mpr List.mem_cons_self) (by simp)
  | x :: l, [], _, _, h => absurd ((h x).mp List.mem_cons_self) (by simp)
  | x :: l, y :: m, h1, h2, h => by
    have a1 := List.pairwise_cons.mp h1
    have a2 := List.pairwise_cons.mp h2
    have exy : x = y := by
      have m1 := (h x).mp List.mem_cons_self
      have m2 := (h y).mpr List.mem_cons_self
      rcases List.mem_cons.mp m1 with e | e
      · exact e
      · rcases List.mem_cons.mp m2 with e' | e'
        · exact e'.symm
        · have := a1.1 y e'
          have := a2.1 x e
          omega
    subst exy
    congr 1
    refine rising_one a1.2 a2.2 fun z => ?_
    constructor
    · intro hz
      rcases List.mem_cons.mp ((h z).mp (List.mem_cons_of_mem _ hz)) with e | e
      · have := a1.1 z hz
        omega
      · exact e
    · intro hz
      rcases List.mem_cons.mp ((h z).mpr (List.mem_cons_of_mem _ hz)) with e | e
      · have := a2.1 z hz
        omega
      · exact e
/-- the picked numbers of an arrangement by numbers -/
def picked (φ : En → Bool) (zs : List (Addr × En)) : List Int := (zs.filter fun z => φ z.2).map fun z => z.2.num
theorem picked_up {φ : En → Bool} {zs : List (Addr × En)} (h : zs.Pairwise (fun a b => a.2.num < b.2.num)) : (picked φ zs).Pairwise (· < ·) := by
  unfold picked
  exact List.pairwise_map.mpr (h.filter _)
theorem mem_picked {φ : En → Bool} {zs : List (Addr × En)} {x : Int} : x ∈ picked φ zs ↔ ∃ z ∈ zs, φ z.2 = true ∧ z.2.num = x := by
  unfold picked
  simp only [List.mem_map, List.mem_filter]
  constructor
  · rintro ⟨z, ⟨h1, h2⟩, h3⟩
    exact ⟨z, h1, h2, h3⟩
  · rintro ⟨z, h1, h2, h3⟩
    exact ⟨z, ⟨h1, h2⟩, h3⟩
theorem picked_len (φ : En → Bool) (zs : List (Addr × En)) : (picked φ zs).length ≤ zs.length := by
  unfold picked
  rw [List.length_map]
  exact List.length_filter_le _ _
/-- two arrangements of the same entries -/
theorem picked_one {φ : En → Bool} {zs zs' : List (Addr × En)} (h : zs.Pairwise (fun a b => a.2.num < b.2.num)) (h' : zs'.Pairwise (fun a b => a.2.num < b.2.num)) (e : ∀ x, x ∈ ens zs ↔ x ∈ ens zs') : picked φ zs = picked φ zs' := by
  refine rising_one (picked_up h) (picked_up h') fun x => ?_
  rw [mem_picked, mem_picked]
  constructor
  · rintro ⟨z, h1, h2, h3⟩
    obtain ⟨z', h4, h5⟩ := List.mem_map.mp ((e z.2).mp (List.mem_map.mpr ⟨z, h1, rfl⟩))
    exact ⟨z', h4, by rw [h5]; exact h2, by rw [h5]; exact h3⟩
  · rintro ⟨z, h1, h2, h3⟩
    obtain ⟨z', h4, h5⟩ := List.mem_map.mp ((e z.2).mpr (List.mem_map.mpr ⟨z, h1, rfl⟩))
    exact ⟨z', h4, by rw [h5]; exact h2, by rw [h5]; exact h3⟩
theorem ens_perm {zs zs' : List (Addr × En)} (h : zs'.Perm zs) : ∀ x, x ∈ ens zs' ↔ x ∈ ens zs := fun x => (h.map _).mem_iff
end Deed

namespace Deed
open PySem PySem.Spec PyProof.Rows L2 LamX
/-! ### acts in force: the mathematics -/
def En.of (e : En) : Int := match e.kd with
  | .deed _ _ _ _ => -1
  | .act _ o => o
def isOpen (d k : Int) (e : En) : Bool := decide (e.day ≤ d) && decide (e.wri ≤ k)
/-- an entry of the word x that is of the number n -/
def isOn (x : Str) (n : Int) (e : En) : Bool := decide (e.word = x) && decide (e.of = n)
def frcF (es : List En) (d k : Int) : Nat → En → Bool
  | 0, _ => false
  | f + 1, e => isOpen d k e && es.all fun u => !(isOn "undone" e.num u && frcF es d k f u)
def frc (es : List En) (d k : Int) (e : En) : Bool := frcF es d k (31 - e.num).toNat e
theorem EnOk.of_lt {n : Nat} {ds as : List Int} {e : En} (h : EnOk n ds as e) (hd : e.isDeed = false) : e.of < e.num ∧ ((e.word = "undone" ∧ e.of ∈ as) ∨ ((e.word = "paid" ∨ e.word = "void") ∧ e.of ∈ ds)) := by
  unfold En.isDeed at hd
  unfold En.of En.word
  cases hk : e.kd with
  | deed g t rs ws =>
    rw [hk] at hd
    cases hd
  | act x o =>
    have h4 := h.2.2.2
    rw [hk] at h4
    exact ⟨h4.2, h4.1⟩
theorem isOn_act {n : Nat} {ds as : List Int} {e : En} {x : Str} {m : Int} (h : EnOk n ds as e) (hx : x ≠ "deed") (ho : isOn x m e = true) : e.isDeed = false ∧ e.word = x ∧ e.of = m := by
  unfold isOn at ho
  rw [Bool.and_eq_true] at ho
  have h1 := of_decide_eq_true ho.1
  have h2 := of_decide_eq_true ho.2
  refine ⟨?_, h1, h2⟩
  cases hd : e.isDeed with
  | false => rfl
  | true => exact absurd ((h.word.mpr hd).symm.trans h1) (fun z => hx z.symm)
theorem frcF_one {n : Nat} {es : List En} (hB : BkOk n es) (d k : Int) : ∀ (f g : Nat) (e : En), e ∈ es → (31 - e.num).toNat ≤ f → (31 - e.num).toNat ≤ g → frcF es d k f e = frcF es d k g e := by
  intro f
  induction f with
  | zero =>
    intro g e he hf _
    have := hB.rng e he
    omega
  | succ f ih =>
    intro g e he hf hg
    have re := hB.rng e he
    cases g with
    | zero => omega
    | succ g =>
      show (isOpen d k e && es.all fun u => !(isOn "undone" e.num u && frcF es d k f u)) = (isOpen d k e && es.all fun u => !(isOn "undone" e.num u && frcF es d k g u))
      congr 1
      have key : ∀ u ∈ es, (isOn "undone" e.num u && frcF es d k f u) = (isOn "undone" e.num u && frcF es d k g u) := fun u hu => by
        cases ho : isOn "undone" e.num u with
        | false => rfl
        | true =>
          obtain ⟨h1, h2, h3⟩ := isOn_act (hB.ok u hu) (by decide) ho
          have lt := ((hB.ok u hu).of_lt h1).1
          rw [ih g u hu (by omega) (by omega)]
      rw [Bool.eq_iff_iff, List.all_eq_true, List.all_eq_true]
      constructor
      · intro h u hu
        rw [← key u hu]
        exact h u hu
      · intro h u hu
        rw [key u hu]
        exact h u hu
theorem frcF_eq {n : Nat} {es : List En} (hB : BkOk n es) (d k : Int) {f : Nat} {e : En} (he : e ∈ es) (hf : (31 - e.num).toNat ≤ f) : frcF es d k f e = frc es d k e := frcF_one hB d k _ _ e he hf (Nat.le_refl _)
/-- in force: open, and no undone of it in force -/
theorem frc_eq {n : Nat} {es : List En} (hB : BkOk n es) (d k : Int) {e : En} (he : e ∈ es) : frc es d k e = (isOpen d k e && es.all fun u => !(isOn "undone" e.num u && frc es d k u)) := by
  have re := hB.rng e he
  rw [← frcF_eq hB d k (f := 31) he (by omega)]
  show (isOpen d k e && es.all fun u => !(isOn "undone" e.num u && frcF es d k 30 u)) = _
  congr 1
  have key : ∀ u ∈ es, (isOn "undone" e.num u && frcF es d k 30 u) = (isOn "undone" e.num u && frc es d k u) := fun u hu => by
    cases ho : isOn "undone" e.num u with
    | false => rfl
    | true =>
      obtain ⟨h1, h2, h3⟩ := isOn_act (hB.ok u hu) (by decide) ho
      have lt := ((hB.ok u hu).of_lt h1).1
      rw [frcF_eq hB d k hu (by omega)]
  rw [Bool.eq_iff_iff, List.all_eq_true, List.all_eq_true]
  constructor
  · intro h u hu
    rw [← key u hu]
    exact h u hu
  · intro h u hu
    rw [key u hu]
    exact h u hu
theorem frc_open {n : Nat} {es : List En} (hB : BkOk n es) {d k : Int} {e : En} (he : e ∈ es) (h : frc es d k e = true) : isOpen d k e = true := by
  rw [frc_eq hB d k he, Bool.and_eq_true] at h
  exact h.1
theorem num_inj {n : Nat} {es : List En} (hB : BkOk n es) {e e' : En} (he : e ∈ es) (he' : e' ∈ es) (h : e.num = e'.num) : e = e' := by
  obtain ⟨i1, hi1, ei1⟩ := List.mem_iff_getElem.mp he
  obtain ⟨i2, hi2, ei2⟩ := List.mem_iff_getElem.mp he'
  have h1 : (es.map (·.num))[i1]? = some e.num := by rw [List.getElem?_map, List.getElem?_eq_getElem hi1, ei1]; rfl
  have h2 : (es.map (·.num))[i2]? = some e.num := by rw [List.getElem?_map, List.getElem?_eq_getElem hi2, ei2, h]; rfl
  have h3 := nd_ix hB.nd h1 h2
  subst h3
  rw [← ei1, ← ei2]
end Deed

namespace Deed
open PySem PySem.Spec PyProof.Rows L2 LamX
/-! ### the law's own book of entries -/
abbrev dks (zs : List (Addr × En)) : List (Key × V) := zs.map fun z => (Sum.inl z.2.num, V.ref z.1)
structure EdAt (H : Hp) (ed : Addr) (n : Nat) (zs : List (Addr × En)) : Prop where
  at_ : H ed = some (.dK (dks zs))
  ent : ∀ z ∈ zs, EntAt H z.1 z.2
  ok : BkOk n (ens zs)
  len : zs.length ≤ 16
theorem EdAt.same {H H' : Hp} {ed : Addr} {n : Nat} {zs : List (Addr × En)} (h : EdAt H ed n zs) (s : Same H H') : EdAt H' ed n zs := ⟨s _ _ h.at_, fun z hz => (h.ent z hz).kp (Same.tup s), h.ok, h.len⟩
theorem valV_dks {zs : List (Addr × En)} (nd : ((ens zs).map (·.num)).Nodup) {z : Addr × En} (hz : z ∈ zs) : valV (dks zs) (.inl z.2.num) = some (.ref z.1) := by
  induction zs with
  | nil => cases hz
  | cons y r ih =>
    have nd' : (y.2.num :: (ens r).map (·.num)).Nodup := nd
    have h2 := List.nodup_cons.mp nd'
    show Option.map (·.2) (List.find? (fun kv => decide (kv.1 = (Sum.inl z.2.num : Key))) ((Sum.inl y.2.num, V.ref y.1) :: dks r)) = _
    rw [List.find?_cons]
    rcases List.mem_cons.mp hz with rfl | hz
    · simp
    · have hne : ¬ (Sum.inl y.2.num : Key) = Sum.inl z.2.num := fun q => by
        injection q with q
        exact h2.1 (List.mem_map.mpr ⟨z.2, List.mem_map.mpr ⟨z, hz, rfl⟩, q.symm⟩)
      rw [decide_eq_false hne]
      exact ih h2.2 hz
theorem EdAt.get {H : Hp} {ed : Addr} {n : Nat} {zs : List (Addr × En)} (h : EdAt H ed n zs) {z : Addr × En} (hz : z ∈ zs) : DGet H ed (.int z.2.num) (some (.ref z.1)) := by
  have := DGet.k (k := Sum.inl z.2.num) h.at_
  rw [valV_dks h.ok.nd hz] at this
  exact this
theorem mem_inS {x : Str} {ws : List Str} : inV (.str x) (ws.map V.str) = decide (x ∈ ws) := by
  induction ws with
  | nil => simp [inV]
  | cons m r ih =>
    have e : inV (.str x) ((m :: r).map V.str) = (eqV (.str m) (.str x) || inV (.str x) (r.map V.str)) := by simp [inV]
    have e2 : eqV (.str m) (.str x) = decide (m = x) := by
      first | rfl | simp [eqV] | (unfold eqV; simp)
    rw [e, ih, e2]
    by_cases h : m = x
    · subst h
      simp
    · have h' : ¬ x = m := fun z => h z.symm
      simp [h, h']
theorem flat_strs (ws : List Str) : (ws.map V.str).all flatV = true := by
  induction ws with
  | nil => rfl
  | cons n r ih =>
    rw [List.map_cons, List.all_cons, ih]
    rfl
theorem EntAt.five {H : Hp} {a : Addr} {e : En} (h : EntAt H a e) (hd : e.isDeed = false) : ∃ xs, H a = some (.tup xs) ∧ atI xs 5 = some (.int e.of) := by
  unfold EntAt at h
  unfold En.isDeed at hd
  unfold En.of
  cases hk : e.kd with
  | deed g t rs ws =>
    rw [hk] at hd
    cases hd
  | act x o =>
    rw [hk] at h
    exact ⟨_, h, atI_nat (j := 5) rfl⟩
theorem putK_new {kvs : List (Key × V)} {k : Key} {v : V} (h : k ∉ kvs.map (·.1)) : putK kvs k v = kvs ++ [(k, v)] := by
  unfold putK
  rw [if_neg]
  intro z
  obtain ⟨kv, h1, h2⟩ := List.any_eq_true.mp z
  exact h (List.mem_map.mpr ⟨kv, h1, of_decide_eq_true h2⟩)
theorem mergeK_new : ∀ (more kvs : List (Key × V)), ((kvs ++ more).map (·.1)).Nodup → mergeK kvs more = kvs ++ more
  | [], kvs, _ => (List.append_nil kvs).symm
  | (k, v) :: r, kvs, h => by
    show mergeK (putK kvs k v) r = kvs ++ (k, v) :: r
    have hk : k ∉ kvs.map (·.1) := fun z => by
      rw [List.map_append, List.nodup_append] at h
      exact h.2.2 k z k List.mem_cons_self rfl
    rw [putK_new hk, mergeK_new r (kvs ++ [(k, v)]) (by rw [List.append_assoc]; exact h), List.append_assoc]
    rfl
theorem dks_nodup {zs : List (Addr × En)} (h : ((ens zs).map (·.num)).Nodup) : ((dks zs).map (·.1)).Nodup := by
  have e : (dks zs).map (·.1) = ((ens zs).map (·.num)).map (Sum.inl : Int → Key) := by
    simp [dks, ens, List.map_map, Function.comp_def]
  rw [e]
  exact List.pairwise_map.mpr (h.imp fun hne e => hne (Sum.inl.inj e))
theorem paired_mono {α β : Type} {F G : α → β → Prop} {l : List α} {m : List β} (h : Paired F l m) (i : ∀ a b, F a b → G a b) : Paired G l m := by
  induction h with
  | nil => exact .nil
  | cons a _ ih => exact .cons (i _ _ a) ih
/-- a lesser number stands ahead -/
theorem mem_before {ys : List (Addr × En)} {i : Nat} {z v : Addr × En} (up : ys.Pairwise (fun a b => a.2.num < b.2.num)) (hz : ys[i]? = some z) (hv : v ∈ ys) (h : v.2.num < z.2.num) : v ∈ ys.take i := by
  obtain ⟨j, hj, ej⟩ := List.mem_iff_getElem.mp hv
  obtain ⟨hi, ei⟩ := List.getElem?_eq_some_iff.mp hz
  have hji : j < i := by
    rcases Nat.lt_or_ge j i with q1 | q1
    · exact q1
    · rcases Nat.eq_or_lt_of_le q1 with q2 | q2
      · subst q2
        rw [ei] at ej
        rw [ej] at h
        omega
      · have := List.pairwise_iff_getElem.mp up i j hi hj q2
        rw [ei, ej] at this
        omega
  exact List.mem_take_iff_getElem.mpr ⟨j, by omega, ej⟩
theorem not_before {ys : List (Addr × En)} {i : Nat} {z v : Addr × En} (up : ys.Pairwise (fun a b => a.2.num < b.2.num)) (hz : ys[i]? = some z) (hv : v ∈ ys.take i) : v.2.num < z.2.num := by
  obtain ⟨hi, ei⟩ := List.getElem?_eq_some_iff.mp hz
  obtain ⟨j, hj, ej⟩ := List.mem_take_iff_getElem.mp hv
  have := List.pairwise_iff_getElem.mp up j i (by omega) hi (by omega)
  rw [ei, ej] at this
  exact this
end Deed

namespace Deed
open PySem PySem.Spec PyProof.Rows L2 LamX
section
variable {P : Program} {w : World} {K : PySem.W.Frag} {mg : Str → Option Value} {base : Heap} {T : List (Addr × Str)} {fW fI fY fA : Addr} {dW dI dY dA : FuncData}
/-! ### whole numbers, days: where they are such -/
abbrev sWhole : Stmt := topS 15
theorem scWhole : FnScope ["thing"] ["thing"] (defScope sWhole) := ⟨rfl, rfl, rfl, by decide +kernel, rfl, by decide +kernel, by decide +kernel⟩
def spWholeI : Sp := fun vs H Q _ => ∃ i : Int, vs = [.int i] ∧ Q (.bl true) H
theorem ok_wholeI {f : Addr} {fd : FuncData} {k : Nat} (F : Fun K "is_whole" "is_whole" sWhole f fd) (mi : mg "isinstance" = none) (mn : mg "int" = none) (mb : mg "bool" = none) : FnOk P w K mg base CX0 (k + 1) f fd ["thing"] spWholeI := by
  refine F.ok scWhole (fun vs H Q E h => ?_) (fun cdv A outer s H vs Q E hr h => ?_)
  · obtain ⟨i, rfl, _⟩ := h
    rfl
  · obtain ⟨i, rfl, q⟩ := h
    refine ⟨_, pss_one (ps_ret (pe_and (pe_callB call_isi (by rfl) mi (by decide +kernel) (pa_cons (pv 0) (pa_cons (pe_bltn (v := .ty "int") (by rfl) mn (by decide +kernel) rfl) pa_nil))) (pe_one (pe_not (pe_callB call_isi (by rfl) mi (by decide +kernel) (pa_cons (pv 0) (pa_cons (pe_bltn (v := .ty "bool") (by rfl) mb (by decide +kernel) rfl) pa_nil))))))), ?_⟩
    refine ⟨_, rfl, _, _, _, _, true, rfl, .ty "int", .base (.int i), kit_ty (by decide +kernel), _, rfl, ?_⟩
    refine iteT ?_
    exact ⟨_, rfl, _, _, _, _, false, rfl, .ty "bool", .base (.int i), kit_ty (by decide +kernel), _, rfl, q⟩
abbrev sWithin : Stmt := topS 16
theorem scWithin : FnScope ["thing", "low", "high"] ["thing", "low", "high"] (defScope sWithin) := ⟨rfl, rfl, rfl, by decide +kernel, rfl, by decide +kernel, by decide +kernel⟩
def spWithinI : Sp := fun vs H Q _ => ∃ i lo hi : Int, vs = [.int i, .int lo, .int hi] ∧ lo ≤ i ∧ i ≤ hi ∧ Q (.bl true) H
theorem ok_withinI {f : Addr} {fd : FuncData} {k : Nat} (F : Fun K "is_within" "is_within" sWithin f fd) (DW : Df K mg "is_whole" sWhole ["thing"] fW dW) (mi : mg "isinstance" = none) (mn : mg "int" = none) (mb : mg "bool" = none) : FnOk P w K mg base CX0 (k + 2) f fd ["thing", "low", "high"] spWithinI := by
  have GW : FnOk P w K mg base CX0 (k + 1) fW dW ["thing"] spWholeI := ok_wholeI DW.F mi mn mb
  refine F.ok scWithin (fun vs H Q E h => ?_) (fun cdv A outer s H vs Q E hr h => ?_)
  · obtain ⟨i, lo, hi, rfl, _⟩ := h
    rfl
  · obtain ⟨i, lo, hi, rfl, h1, h2, q⟩ := h
    refine ⟨_, pss_one (ps_ret (pe_and (pe_call GW hr (by rfl) DW.g DW.F.kp DW.b .nil pass0 (pa_cons (pv 0) pa_nil)) (pe_one (pe_chain op_le op_le (pv 1) (pv 0) (pv 2))))), ?_⟩
    refine ⟨_, rfl, i, rfl, true, rfl, ?_⟩
    refine iteT ?_
    refine ⟨_, rfl, _, rfl, _, _, rfl, rfl, _, rfl, ?_⟩
    rw [decide_eq_true h1]
    refine iteT ?_
    refine ⟨_, rfl, _, _, rfl, rfl, ?_⟩
    dsimp only
    rw [decide_eq_true h2]
    exact q
abbrev sIsDay : Stmt := topS 17
theorem scIsDay : FnScope ["thing"] ["thing"] (defScope sIsDay) := ⟨rfl, rfl, rfl, by decide +kernel, rfl, by decide +kernel, by decide +kernel⟩
def spDayI : Sp := fun vs H Q _ => ∃ i : Int, vs = [.int i] ∧ 0 ≤ i ∧ i ≤ 9999 ∧ Q (.bl true) H
theorem ok_dayI {f : Addr} {fd : FuncData} {k : Nat} (F : Fun K "is_day" "is_day" sIsDay f fd) (DI : Df K mg "is_within" sWithin ["thing", "low", "high"] fI dI) (DW : Df K mg "is_whole" sWhole ["thing"] fW dW) (mi : mg "isinstance" = none) (mn : mg "int" = none) (mb : mg "bool" = none) (mL : MgInt mg "LAST_DAY" 9999) : FnOk P w K mg base CX0 (k + 3) f fd ["thing"] spDayI := by
  have GI : FnOk P w K mg base CX0 (k + 2) fI dI ["thing", "low", "high"] spWithinI := ok_withinI DI.F DW mi mn mb
  refine F.ok scIsDay (fun vs H Q E h => ?_) (fun cdv A outer s H vs Q E hr h => ?_)
  · obtain ⟨i, rfl, _⟩ := h
    rfl
  · obtain ⟨i, rfl, h0, h1, q⟩ := h
    refine ⟨_, pss_one (ps_ret (pe_call GI hr (by rfl) DI.g DI.F.kp DI.b .nil pass0 (pa_cons (pv 0) (pa_cons pe_int (pa_cons (pe_num (by rfl) mL) pa_nil))))), ?_⟩
    exact ⟨_, rfl, i, 0, 9999, rfl, h0, h1, q⟩
abbrev sCheckDay : Stmt := topS 48
theorem scCheckDay : FnScope ["thing"] ["thing"] (defScope sCheckDay) := ⟨rfl, rfl, rfl, by decide +kernel, rfl, by decide +kernel, by decide +kernel⟩
def spCkDay : Sp := fun vs H Q _ => ∃ i : Int, vs = [.int i] ∧ 0 ≤ i ∧ i ≤ 9999 ∧ Q .non H
theorem ok_ckDay {f : Addr} {fd : FuncData} {k : Nat} (F : Fun K "check_day" "check_day" sCheckDay f fd) (DY : Df K mg "is_day" sIsDay ["thing"] fY dY) (DI : Df K mg "is_within" sWithin ["thing", "low", "high"] fI dI) (DW : Df K mg "is_whole" sWhole ["thing"] fW dW) (mi : mg "isinstance" = none) (mn : mg "int" = none) (mb : mg "bool" = none) (mL : MgInt mg "LAST_DAY" 9999) : FnOk P w K mg base CX0 (k + 4) f fd ["thing"] spCkDay := by
  have GY : FnOk P w K mg base CX0 (k + 3) fY dY ["thing"] spDayI := ok_dayI DY.F DI DW mi mn mb mL
  refine F.ok scCheckDay (fun vs H Q E h => ?_) (fun cdv A outer s H vs Q E hr h => ?_)
  · obtain ⟨i, rfl, _⟩ := h
    rfl
  · obtain ⟨i, rfl, h0, h1, q⟩ := h
    refine ⟨_, pss_one (ps_if (pt_not (pt_val (pe_call GY hr (by rfl) DY.g DY.F.kp DY.b .nil pass0 (pa_cons (pv 0) pa_nil)))) pss_never pss_nil), ?_⟩
    refine ⟨_, rfl, i, rfl, h0, h1, _, rfl, ?_⟩
    exact iteF q
end
end Deed

namespace Deed
open PySem PySem.Spec PyProof.Rows L2 LamX
section
variable {P : Program} {w : World} {K : PySem.W.Frag} {mg : Str → Option Value} {base : Heap} {T : List (Addr × Str)} {fAe fOn : Addr} {dAe dOn : FuncData}
/-! ### the open acts -/
abbrev sOpenA : Stmt := topS 52
abbrev nOpenA : List Str := ["book", "d", "k", "act"]
theorem scOpenA : FnScope nOpenA ["book", "d", "k"] (defScope sOpenA) := ⟨rfl, rfl, rfl, by decide +kernel, rfl, by decide +kernel, by decide +kernel⟩
/-- the open acts, by their numbers -/
structure OpenActs (n : Nat) (es : List En) (d k : Int) (ys : List (Addr × En)) : Prop where
  mem : ∀ z ∈ ys, z.2 ∈ es ∧ z.2.isDeed = false ∧ isOpen d k z.2 = true
  all : ∀ u ∈ es, u.isDeed = false → isOpen d k u = true → ∃ z ∈ ys, z.2 = u
  up : ys.Pairwise (fun a b => a.2.num < b.2.num)
  len : ys.length ≤ 16
def spOpenA (T : List (Addr × Str)) : Sp := fun vs H Q _ => ∃ (b fk t : Addr) (n : Nat) (age : Int) (zs : List (Addr × En)) (d k : Int), vs = [.ref b, .int d, .int k] ∧ BookAt H b fk t n age zs ∧ Tabs T H ∧
  ∀ (p : Addr) (ys : List (Addr × En)) (H' : Hp), ExtN H H' → Tabs T H' → Fresh H p → H' p = some (.lst (refs ys)) → (∀ z ∈ ys, EntAt H' z.1 z.2) → OpenActs n (ens zs) d k ys → Q (.ref p) H'
def t_openA (K : PySem.W.Frag) : TT := tAnd (tTest (tOp (rI0 fun i j => .bl (decide (i ≤ j))) (tOp (rIxT K) (tVar 3) (tC (.int 2))) (tVar 2))) (tTest (tOp (rI0 fun i j => .bl (decide (i ≤ j))) (tOp (rIxT K) (tVar 3) (tC (.int 1))) (tVar 1)))
theorem ok_openA {f : Addr} {fd : FuncData} {k : Nat} (F : Fun K "open_acts" "open_acts" sOpenA f fd) (DE : Df K mg "act_entries" sActE ["book"] fAe dAe) (GE : FnOk P w K mg base CX0 (k + 3) fAe dAe ["book"] (spPick (fun e => !e.isDeed) T)) (mW : MgInt mg "WRITTEN" 2) (mD : MgInt mg "DAY" 1) :
    FnOk P w K mg base CX0 (k + 4) f fd ["book", "d", "k"] (spOpenA T) := by
  refine F.ok scOpenA (fun vs H Q E h => ?_) (fun cdv A outer s H vs Q E hr h => ?_)
  · obtain ⟨b, fk, t, n, age, zs, d, k, rfl, _⟩ := h
    rfl
  · obtain ⟨b, fk, t, n, age, zs, d, kk, rfl, hB, hT, q⟩ := h
    refine ⟨_, pss_one (ps_ret (pe_lc (own := [("act", 3)]) (g := gName 3) (by rfl) scOpenA.nd (pi_list (pe_call GE hr (by rfl) DE.g DE.F.kp DE.b .nil pass0 (pa_cons (pv 0) pa_nil))) (blkOk_by (own := [("act", 3)]) (N := nOpenA) (sc := defScope sOpenA) (by decide +kernel)) (fun _ _ _ _ _ => pg_name (i := 3) scOpenA.nd rfl (Or.inl rfl))
      (fun _ _ _ _ _ => show PTs _ _ (t_openA K) from pts_one (PW.pt (pw_and (pt_cmpR op_le (pe_ix ix_tup (pv 3) (pe_num (by rfl) mW) (fun _ _ => rfl)) (pv 2) (nomark _)) (pw_and1 (pt_cmpR op_le (pe_ix ix_tup (pv 3) (pe_num (by rfl) mD) (fun _ _ => rfl)) (pv 1) (nomark _)))))) (fun _ _ _ _ _ => pv 3))), ?_⟩
    refine ⟨_, rfl, b, fk, t, n, age, zs, rfl, hB, hT, fun p zs' H1 eN T1 fr ep pm so => ?_⟩
    have hent : ∀ z ∈ zs', EntAt H1 z.1 z.2 := fun z hz => (hB.ent z (pm.mem_iff.mp hz)).kp (ExtN.tup eN)
    have hmem : ∀ z ∈ zs'.filter (fun z => !z.2.isDeed), z ∈ zs' := fun z hz => (List.mem_filter.mp hz).1
    have hlen : (zs'.filter fun z => !z.2.isDeed).length ≤ 16 := by
      have h1 := List.length_filter_le (fun z : Addr × En => !z.2.isDeed) zs'
      have h2 := pm.length_eq
      have h3 := hB.len
      omega
    have hso : (zs'.filter fun z => !z.2.isDeed).Pairwise (fun a b => a.2.num < b.2.num) := so.filter _
    have hact : ∀ z ∈ zs'.filter (fun z => !z.2.isDeed), z.2.isDeed = false := fun z hz => by
      have := (List.mem_filter.mp hz).2
      simpa using this
    have hall : ∀ u ∈ ens zs, u.isDeed = false → ∃ z ∈ zs'.filter (fun z => !z.2.isDeed), z.2 = u := fun u hu hd => by
      obtain ⟨z, hz, rfl⟩ := List.mem_map.mp ((ens_perm pm u).mpr hu)
      exact ⟨z, List.mem_filter.mpr ⟨hz, by rw [hd]; rfl⟩, rfl⟩
    generalize (zs'.filter fun z => !z.2.isDeed) = as at ep hmem hlen hso hact hall
    refine ⟨p, rfl, ⟨_, SqL.of ep⟩, fun D nD => ?_⟩
    refine lc_list (K := K) (a := p) (xs := refs as) (fun i H' => H' D = some (.lst (refs ((as.take i).filter fun z => isOpen d kk z.2))) ∧ Same H1 H') ⟨upd_same, fun b o e => by rw [upd_ne (ne_of_none e nD)]; exact e⟩ (fun i H' _ h => SqL.of (h.2 _ _ ep)) ?_ ?_
    · rintro i x H' hx ⟨eD, sm⟩
      obtain ⟨z, hz, rfl⟩ := ref_at hx
      have hzm := List.mem_of_getElem? hz
      obtain ⟨xs, ex, _, g1, g2, _⟩ := ((hent z (hmem z hzm)).kp (Same.tup sm)).tup
      have et := take_more hz
      have out : ∀ hno : isOpen d kk z.2 = false, H' D = some (.lst (refs ((as.take (i + 1)).filter fun z => isOpen d kk z.2))) ∧ Same H1 H' := fun hno => by
        refine ⟨?_, sm⟩
        rw [eD, et, List.filter_append]
        simp [hno]
      refine ⟨rfl, _, rfl, z.1, xs, 2, _, rfl, rfl, SqT.of ex, g2, _, rfl, _, _, rfl, rfl, _, rfl, ?_⟩
      refine ite2 (fun c1 => ?_) (fun c1 => ?_)
      · have c1' : z.2.wri ≤ kk := of_decide_eq_true c1
        refine ⟨_, rfl, z.1, xs, 1, _, rfl, rfl, SqT.of ex, g1, _, rfl, _, _, rfl, rfl, _, rfl, ?_⟩
        refine ite2 (fun c2 => ?_) (fun c2 => ?_)
        · have c2' : z.2.day ≤ d := of_decide_eq_true c2
          have hyes : isOpen d kk z.2 = true := by
            unfold isOpen
            rw [decide_eq_true c1', decide_eq_true c2']
            rfl
          refine ⟨_, rfl, _, eD, small1000 ?_, ?_, fun b o e => ?_⟩
          · have h1 := List.length_filter_le (fun z : Addr × En => isOpen d kk z.2) (as.take i)
            rw [List.length_map]
            rw [List.length_take] at h1
            omega
          · rw [upd_same, et, List.filter_append]
            simp [hyes, refs]
          · rw [upd_ne (ne_of_none e nD)]
            exact sm _ _ e
        · refine out ?_
          have c2' : ¬ z.2.day ≤ d := fun z0 => c2 (decide_eq_true z0)
          unfold isOpen
          rw [decide_eq_false c2', Bool.false_and]
      · refine iteF (out ?_)
        have c1' : ¬ z.2.wri ≤ kk := fun z0 => c1 (decide_eq_true z0)
        unfold isOpen
        rw [decide_eq_false c1', Bool.and_false]
    · rintro H' ⟨eD, sm⟩
      have el : as.take (refs as).length = as := List.take_of_length_le (by rw [List.length_map]; exact Nat.le_refl _)
      rw [el] at eD
      have esub : ∀ z ∈ as.filter (fun z => isOpen d kk z.2), z ∈ as := fun z hz => (List.mem_filter.mp hz).1
      refine q D _ H' (eN.trans (.of sm)) (T1.ext sm) (Fresh.of eN nD) eD (fun z hz => (hent z (hmem z (esub z hz))).kp (Same.tup sm)) ⟨fun z hz => ⟨?_, hact z (esub z hz), (List.mem_filter.mp hz).2⟩, fun u hu hd ho => ?_, hso.filter _, ?_⟩
      · exact (ens_perm pm _).mp (List.mem_map.mpr ⟨z, hmem z (esub z hz), rfl⟩)
      · obtain ⟨z, hz, rfl⟩ := hall u hu hd
        exact ⟨z, List.mem_filter.mpr ⟨hz, ho⟩, rfl⟩
      · have h1 := List.length_filter_le (fun z : Addr × En => isOpen d kk z.2) as
        omega
/-! ### acts of a word upon a number -/
abbrev sActsOn : Stmt := topS 53
abbrev nActsOn : List Str := ["acts", "word", "number", "act"]
abbrev pActsOn : List Str := ["acts", "word", "number"]
theorem scActsOn : FnScope nActsOn pActsOn (defScope sActsOn) := ⟨rfl, rfl, rfl, by decide +kernel, rfl, by decide +kernel, by decide +kernel⟩
def spActsOn : Sp := fun vs H Q _ => ∃ (la : Addr) (x : Str) (m : Int) (ys : List (Addr × En)), vs = [.ref la, .str x, .int m] ∧ H la = some (.lst (refs ys)) ∧ (∀ z ∈ ys, EntAt H z.1 z.2 ∧ z.2.isDeed = false) ∧ ys.length ≤ 1000 ∧
  ∀ p H', Same H H' → H p = none → H' p = some (.lst (((ys.filter fun z => isOn x m z.2).map fun z => z.2.num).map V.int)) → Q (.ref p) H'
def t_on (K : PySem.W.Frag) : TT := tAnd (tTest (tOp rEq (tOp (rIxT K) (tVar 3) (tC (.int 4))) (tVar 1))) (tTest (tOp rEq (tOp (rIxT K) (tVar 3) (tC (.int 5))) (tVar 2)))
theorem ok_actsOn {f : Addr} {fd : FuncData} {k : Nat} (F : Fun K "acts_on" "acts_on" sActsOn f fd) (mW : MgInt mg "WORD" 4) (mO : MgInt mg "OF" 5) (mN : MgInt mg "NUMBER" 0) : FnOk P w K mg base CX0 (k + 1) f fd pActsOn spActsOn := by
  refine F.ok scActsOn (fun vs H Q E h => ?_) (fun cdv A outer s H vs Q E hr h => ?_)
  · obtain ⟨la, x, m, ys, rfl, _⟩ := h
    rfl
  · obtain ⟨la, x, m, ys, rfl, hl, hys, hlen, q⟩ := h
    refine ⟨_, pss_one (ps_ret (pe_lc (own := [("act", 3)]) (g := gName 3) (by rfl) scActsOn.nd (pi_list (pv 0)) (blkOk_by (own := [("act", 3)]) (N := nActsOn) (sc := defScope sActsOn) (by decide +kernel)) (fun _ _ _ _ _ => pg_name (i := 3) scActsOn.nd rfl (Or.inl rfl))
      (fun _ _ _ _ _ => show PTs _ _ (t_on K) from pts_one (PW.pt (pw_and (pt_cmpR op_eq (pe_ix ix_tup (pv 3) (pe_num (by rfl) mW) (fun _ _ => rfl)) (pv 1) (nomark _)) (pw_and1 (pt_cmpR op_eq (pe_ix ix_tup (pv 3) (pe_num (by rfl) mO) (fun _ _ => rfl)) (pv 2) (nomark _))))))
      (fun _ _ _ _ _ => show PE _ _ (tOp (rIxT K) (tVar 3) (tC (.int 0))) from pe_ix ix_tup (pv 3) (pe_num (by rfl) mN) (fun _ _ => rfl)))), ?_⟩
    refine ⟨_, rfl, la, rfl, ⟨_, SqL.of hl⟩, fun D nD => ?_⟩
    refine lc_list (K := K) (a := la) (xs := refs ys) (fun i H' => H' D = some (.lst ((((ys.take i).filter fun z => isOn x m z.2).map fun z => z.2.num).map V.int)) ∧ Same H H') ⟨upd_same, fun b o e => by rw [upd_ne (ne_of_none e nD)]; exact e⟩ (fun i H' _ h => SqL.of (h.2 _ _ hl)) ?_ ?_
    · rintro i y H' hx ⟨eD, sm⟩
      obtain ⟨z, hz, rfl⟩ := ref_at hx
      have hzm := List.mem_of_getElem? hz
      have hi : i < ys.length := (List.getElem?_eq_some_iff.mp hz).1
      have hEz := (hys z hzm).1.kp (Same.tup sm)
      obtain ⟨xs, ex, g0, _, _, _, g4⟩ := hEz.tup
      obtain ⟨xs5, ex5, g5⟩ := hEz.five (hys z hzm).2
      have et := take_more hz
      have out : ∀ hno : isOn x m z.2 = false, H' D = some (.lst ((((ys.take (i + 1)).filter fun z => isOn x m z.2).map fun z => z.2.num).map V.int)) ∧ Same H H' := fun hno => by
        refine ⟨?_, sm⟩
        rw [eD, et, List.filter_append]
        simp [hno]
      refine ⟨rfl, _, rfl, z.1, xs, 4, _, rfl, rfl, SqT.of ex, g4, _, rfl, rfl, _, rfl, ?_⟩
      refine ite2 (fun c1 => ?_) (fun c1 => ?_)
      · have c1' : z.2.word = x := by
          have := of_decide_eq_true c1
          injection this
        refine ⟨_, rfl, z.1, xs5, 5, _, rfl, rfl, SqT.of ex5, g5, _, rfl, rfl, _, rfl, ?_⟩
        refine ite2 (fun c2 => ?_) (fun c2 => ?_)
        · have c2' : z.2.of = m := by
            have := of_decide_eq_true c2
            injection this
          have hyes : isOn x m z.2 = true := by
            unfold isOn
            rw [decide_eq_true c1', decide_eq_true c2']
            rfl
          refine ⟨_, rfl, z.1, xs, 0, _, rfl, rfl, SqT.of ex, g0, _, eD, small1000 ?_, ?_, fun b o e => ?_⟩
          · have h1 := List.length_filter_le (fun z : Addr × En => isOn x m z.2) (ys.take i)
            rw [List.length_map, List.length_map]
            rw [List.length_take] at h1
            omega
          · rw [upd_same, et, List.filter_append]
            simp [hyes]
          · rw [upd_ne (ne_of_none e nD)]
            exact sm _ _ e
        · refine out ?_
          have c2' : ¬ z.2.of = m := fun z0 => c2 (decide_eq_true (by rw [z0]))
          unfold isOn
          rw [decide_eq_false c2', Bool.and_false]
      · refine iteF (out ?_)
        have c1' : ¬ z.2.word = x := fun z0 => c1 (decide_eq_true (by rw [z0]))
        unfold isOn
        rw [decide_eq_false c1', Bool.false_and]
    · rintro H' ⟨eD, sm⟩
      have el : ys.take (refs ys).length = ys := List.take_of_length_le (by rw [List.length_map]; exact Nat.le_refl _)
      rw [el] at eD
      exact q D H' sm nD eD
/-! ### those in force -/
abbrev sForced : Stmt := topS 54
abbrev nForced : List Str := ["acts", "forced", "act"]
theorem scForced : FnScope nForced ["acts"] (defScope sForced) := ⟨rfl, rfl, rfl, by decide +kernel, rfl, by decide +kernel, by decide +kernel⟩
def spForced : Sp := fun vs H Q _ => ∃ (la : Addr) (n : Nat) (es : List En) (d k : Int) (ys : List (Addr × En)), vs = [.ref la] ∧ H la = some (.lst (refs ys)) ∧ (∀ z ∈ ys, EntAt H z.1 z.2) ∧ BkOk n es ∧ OpenActs n es d k ys ∧
  ∀ p H', Same H H' → H p = none → H' p = some (.lst (refs (ys.reverse.filter fun z => frc es d k z.2))) → Q (.ref p) H'
theorem ok_forced {f : Addr} {fd : FuncData} {k : Nat} (F : Fun K "acts_in_force" "acts_in_force" sForced f fd) (DO : Df K mg "acts_on" sActsOn pActsOn fOn dOn) (mW : MgInt mg "WORD" 4) (mO : MgInt mg "OF" 5) (mN : MgInt mg "NUMBER" 0) : FnOk P w K mg base CX0 (k + 2) f fd ["acts"] spForced := by
  have GO : FnOk P w K mg base CX0 (k + 1) fOn dOn pActsOn spActsOn := ok_actsOn DO.F mW mO mN
  refine F.ok scForced (fun vs H Q E h => ?_) (fun cdv A outer s H vs Q E hr h => ?_)
  · obtain ⟨la, n, es, d, k, ys, rfl, _⟩ := h
    rfl
  · obtain ⟨la, n, es, d, kk, ys, rfl, hl, hys, hB, hO, q⟩ := h
    refine ⟨_, pss_cons (ps_set (i := 1) scForced.nd rfl (.inl rfl) (pe_lst pa_nil))
      (pss_cons (ps_for PassesOwn.never rfl (pi_list (pe_revL (pv 0))) (pg_name (i := 2) scForced.nd rfl (.inl rfl))
        (pss_one (ps_if (pt_not (pt_truth (pe_call GO hr (by rfl) DO.g DO.F.kp DO.b .nil pass0 (pa_cons (pv 1) (pa_cons pe_str (pa_cons (pe_ix ix_tup (pv 2) (pe_num (by rfl) mN) (fun _ _ => rfl)) pa_nil)))) (by intro _; rfl)))
          (pss_one (ps_expr (pe_bm PySem.F.plainAttrs_list PySem.F.slot_list_append PySem.F.type_list_append mt_append (pv 1) (pa_cons (pv 2) pa_nil)))) pss_nil)))
      (pss_one (ps_ret (pv 1)))), ?_⟩
    refine ⟨Nat.zero_le _, fun fo nfo => ?_⟩
    have s1 : Same H (upd H fo (.lst [])) := fun b o e => by rw [upd_ne (ne_of_none e nfo)]; exact e
    have e1 : (upd H fo (.lst [])) fo = some (.lst []) := upd_same
    generalize (upd H fo (.lst [])) = H1 at s1 e1
    refine ⟨_, rfl, la, _, rfl, SqL.of (s1 _ _ hl), fun rv nrv => ?_⟩
    have s2 : Same H1 (upd H1 rv (.lst (refs ys).reverse)) := fun b o e => by rw [upd_ne (ne_of_none e nrv)]; exact e
    have erv : (upd H1 rv (.lst (refs ys).reverse)) rv = some (.lst (refs ys.reverse)) := by rw [upd_same, ← List.map_reverse]
    have e2 := s2 _ _ e1
    have nfr : fo ≠ rv := ne_of_none e1 nrv
    generalize (upd H1 rv (.lst (refs ys).reverse)) = H2 at s2 erv e2
    have s12 := s1.trans s2
    refine ⟨rv, rfl, ⟨_, SqL.of erv⟩, ?_⟩
    refine for_list (K := K) (a := rv) (xs := refs ys.reverse) (fun i σ H' => ∃ y2, σ = [some (.ref la), some (.ref fo), y2] ∧ Same H H' ∧ H' rv = some (.lst (refs ys.reverse)) ∧ H' fo = some (.lst (refs ((ys.reverse.take i).filter fun z => frc es d kk z.2)))) ⟨none, rfl, s12, erv, e2⟩ (fun i σ H' _ h => ?_) ?_ ?_
    · obtain ⟨_, _, _, e, _⟩ := h
      exact SqL.of e
    · rintro i x σ H' hx ⟨y2, rfl, sm, ev, ef⟩
      obtain ⟨z, hz, rfl⟩ := ref_at hx
      have hzr := List.mem_of_getElem? hz
      have hzm : z ∈ ys := List.mem_reverse.mp hzr
      have hi : i < ys.reverse.length := (List.getElem?_eq_some_iff.mp hz).1
      have hlr : ys.reverse.length = ys.length := List.length_reverse
      have hyl := hO.len
      obtain ⟨xs, ex, g0, _⟩ := ((hys z hzm).kp (Same.tup sm)).tup
      obtain ⟨m1, m2, m3⟩ := hO.mem z hzm
      have et := take_more hz
      have hsub : ∀ u ∈ (ys.reverse.take i).filter (fun z => frc es d kk z.2), u ∈ ys ∧ frc es d kk u.2 = true := fun u hu =>
        ⟨List.mem_reverse.mp (List.mem_of_mem_take (List.mem_filter.mp hu).1), (List.mem_filter.mp hu).2⟩
      have hfl : ((ys.reverse.take i).filter (fun z => frc es d kk z.2)).length ≤ 16 := by
        have h1 := List.length_filter_le (fun z : Addr × En => frc es d kk z.2) (ys.reverse.take i)
        rw [List.length_take] at h1
        omega
      refine ⟨_, rfl, _, rfl, z.1, xs, 0, _, rfl, rfl, SqT.of ex, g0, fo, "undone", z.2.num, _, rfl, ef, fun u hu => ⟨(hys u (hsub u hu).1).kp (Same.tup sm), (hO.mem u (hsub u hu).1).2.1⟩, by omega, fun p H3 s3 np ep => ⟨_, .inl ⟨_, SqL.of ep, rfl⟩, ?_⟩⟩
      -- none of the forced undoes it: just where it is in force
      have key : (((((ys.reverse.take i).filter fun z => frc es d kk z.2).filter fun u => isOn "undone" z.2.num u.2).map fun z => z.2.num).map V.int).isEmpty = frc es d kk z.2 := by
        rw [frc_eq hB d kk m1, m3, Bool.true_and, Bool.eq_iff_iff, List.all_eq_true]
        constructor
        · intro h u hu
          cases ho : isOn "undone" z.2.num u with
          | false => rfl
          | true =>
            cases hf : frc es d kk u with
            | false => rfl
            | true =>
              exfalso
              obtain ⟨h1, h2, h3⟩ := isOn_act (hB.ok u hu) (by decide) ho
              have lt := ((hB.ok u hu).of_lt h1).1
              obtain ⟨v, hv, rfl⟩ := hO.all u hu h1 (frc_open hB hu hf)
              -- it stands ahead in the turned list
              have hpre : v ∈ ys.reverse.take i := by
                have hv' : v ∈ ys.reverse := List.mem_reverse.mpr hv
                obtain ⟨j, hj, ej⟩ := List.mem_iff_getElem.mp hv'
                have hup : ys.reverse.Pairwise (fun a b => b.2.num < a.2.num) := List.pairwise_reverse.mpr hO.up
                have hji : j < i := by
                  rcases Nat.lt_trichotomy j i with q1 | q1 | q1
                  · exact q1
                  · subst q1
                    rw [List.getElem?_eq_getElem hj, ej] at hz
                    injection hz with hz
                    rw [hz] at lt h3
                    omega
                  · have := List.pairwise_iff_getElem.mp hup i j hi hj q1
                    have ei : ys.reverse[i] = z := by
                      rw [List.getElem?_eq_getElem hi] at hz
                      exact Option.some.inj hz
                    rw [ei, ej] at this
                    omega
                exact List.mem_take_iff_getElem.mpr ⟨j, by omega, ej⟩
              have hmem : v.2.num ∈ (((ys.reverse.take i).filter fun z => frc es d kk z.2).filter fun u => isOn "undone" z.2.num u.2).map fun z => z.2.num :=
                List.mem_map.mpr ⟨v, List.mem_filter.mpr ⟨List.mem_filter.mpr ⟨hpre, hf⟩, ho⟩, rfl⟩
              rw [List.isEmpty_iff] at h
              have h' := List.map_eq_nil_iff.mp h
              rw [h'] at hmem
              cases hmem
        · intro h
          rw [List.isEmpty_iff, List.map_eq_nil_iff, List.map_eq_nil_iff, List.filter_eq_nil_iff]
          intro u hu ho
          obtain ⟨hu1, hu2⟩ := hsub u hu
          have := h u.2 (hO.mem u hu1).1
          rw [ho, hu2] at this
          cases this
      rw [key]
      have ef3 := s3 _ _ ef
      cases hf : frc es d kk z.2 with
      | true =>
        refine iteT ?_
        refine ⟨_, rfl, .inl ⟨rfl, _, SqL.of ef3⟩, _, rfl, fo, _, _, rfl, rfl, ef3, small1000 (by rw [List.length_map]; omega), ?_⟩
        refine ⟨_, rfl, fun b o e => ?_, ?_, ?_⟩
        · rw [upd_ne (ne_of_none e nfo)]
          exact s3 _ _ (sm _ _ e)
        · rw [upd_ne nfr.symm]
          exact s3 _ _ ev
        · rw [upd_same, et, List.filter_append]
          simp [hf, refs]
      | false =>
        refine iteF ?_
        refine ⟨_, rfl, sm.trans s3, s3 _ _ ev, ?_⟩
        rw [ef3, et, List.filter_append]
        simp [hf]
    · rintro σ H' ⟨y2, rfl, sm, ev, ef⟩
      have el : ys.reverse.take (refs ys.reverse).length = ys.reverse := List.take_of_length_le (by rw [List.length_map]; exact Nat.le_refl _)
      rw [el] at ef
      exact ⟨_, rfl, q fo H' sm nfo ef⟩
end
end Deed

namespace Deed
open PySem PySem.Spec PyProof.Rows L2 LamX
/-! ### what a deed is: the mathematics -/
def En.rests (e : En) : List Int := match e.kd with
  | .deed _ _ rs _ => rs
  | .act _ _ => []
/-- some act of the word upon the number is in force -/
def anyF (es : List En) (d k : Int) (x : Str) (m : Int) : Bool := es.any fun u => isOn x m u && frc es d k u
def carries (x : Str) : Bool := decide (x ∈ ([("stands" : Str), "paid"] : List Str))
/-- by what its rests are -/
def wordBy (es : List En) (d k : Int) (e : En) (lost : Bool) : Str :=
  if k < e.wri then "unknown" else if d < e.day then "ahead" else if anyF es d k "void" e.num = true then "void" else if lost = true then "fallen" else if anyF es d k "paid" e.num = true then "paid" else "stands"
def isD (m : Int) (e : En) : Bool := e.isDeed && decide (e.num = m)
def stF (es : List En) (d k : Int) : Nat → En → Str
  | 0, _ => "unknown"
  | f + 1, e => wordBy es d k e (e.rests.any fun r => es.any fun u => isD r u && !carries (stF es d k f u))
def st (es : List En) (d k : Int) (e : En) : Str := stF es d k (e.num.toNat + 1) e
theorem EnOk.rest {n : Nat} {ds as : List Int} {e : En} (h : EnOk n ds as e) : ∀ r ∈ e.rests, r ∈ ds ∧ r < e.num := by
  intro r hr
  unfold En.rests at hr
  cases hk : e.kd with
  | deed g t rs ws =>
    rw [hk] at hr
    have h4 := h.2.2.2
    rw [hk] at h4
    exact h4.2.2.2.2.2.1 r hr
  | act x o =>
    rw [hk] at hr
    cases hr
theorem any_congr {α : Type} {l : List α} {p q : α → Bool} (h : ∀ x ∈ l, p x = q x) : l.any p = l.any q := by
  induction l with
  | nil => rfl
  | cons a r ih =>
    rw [List.any_cons, List.any_cons, h a List.mem_cons_self, ih fun x hx => h x (List.mem_cons_of_mem _ hx)]
theorem stF_one {n : Nat} {es : List En} (hB : BkOk n es) (d k : Int) : ∀ (f g : Nat) (e : En), e ∈ es → e.num.toNat + 1 ≤ f → e.num.toNat + 1 ≤ g → stF es d k f e = stF es d k g e := by
  intro f
  induction f with
  | zero =>
    intro g e he hf _
    omega
  | succ f ih =>
    intro g e he hf hg
    cases g with
    | zero => omega
    | succ g =>
      show wordBy es d k e _ = wordBy es d k e _
      congr 1
      refine any_congr fun r hr => any_congr fun u hu => ?_
      cases hd : isD r u with
      | false => rfl
      | true =>
        unfold isD at hd
        rw [Bool.and_eq_true] at hd
        have hn := of_decide_eq_true hd.2
        have lt := ((hB.ok e he).rest r hr).2
        have r1 := hB.rng e he
        have r2 := hB.rng u hu
        rw [ih g u hu (by omega) (by omega)]
theorem st_eq {n : Nat} {es : List En} (hB : BkOk n es) (d k : Int) {e : En} (he : e ∈ es) : st es d k e = wordBy es d k e (e.rests.any fun r => es.any fun u => isD r u && !carries (st es d k u)) := by
  show wordBy es d k e _ = wordBy es d k e _
  congr 1
  refine any_congr fun r hr => any_congr fun u hu => ?_
  cases hd : isD r u with
  | false => rfl
  | true =>
    unfold isD at hd
    rw [Bool.and_eq_true] at hd
    have hn := of_decide_eq_true hd.2
    have lt := ((hB.ok e he).rest r hr).2
    have r1 := hB.rng e he
    have r2 := hB.rng u hu
    rw [stF_one hB d k e.num.toNat (u.num.toNat + 1) u hu (by omega) (by omega)]
    rfl
/-- a rest is lost just where that very deed carries nothing -/
theorem lost_one {n : Nat} {es : List En} (hB : BkOk n es) (d k : Int) {r : Int} {u : En} (hu : u ∈ es) (hd : u.isDeed = true) (hn : u.num = r) : (es.any fun u => isD r u && !carries (st es d k u)) = !carries (st es d k u) := by
  rw [Bool.eq_iff_iff, List.any_eq_true]
  constructor
  · rintro ⟨u', hu', h⟩
    rw [Bool.and_eq_true] at h
    unfold isD at h
    rw [Bool.and_eq_true] at h
    have := num_inj hB hu' hu ((of_decide_eq_true h.1.2).trans hn.symm)
    rw [← this]
    exact h.2
  · intro h
    refine ⟨u, hu, ?_⟩
    unfold isD
    rw [hd, decide_eq_true hn, h]
    rfl
theorem dn_at {es : List En} {r : Int} (h : r ∈ dn es) : ∃ u ∈ es, u.isDeed = true ∧ u.num = r := mem_dn.mp h
/-- the words of deeds, as a dict's pairs -/
abbrev wds (es : List En) (d k : Int) (ys : List (Addr × En)) : List (Key × V) := ys.map fun z => (Sum.inl z.2.num, V.str (st es d k z.2))
theorem valV_map {α : Type} {f : α → Int} {g : α → V} {l : List α} (nd : (l.map f).Nodup) {z : α} (hz : z ∈ l) : valV (l.map fun z => ((Sum.inl (f z) : Key), g z)) (.inl (f z)) = some (g z) := by
  induction l with
  | nil => cases hz
  | cons y r ih =>
    have h2 := List.nodup_cons.mp (show (f y :: r.map f).Nodup from nd)
    show Option.map (·.2) (List.find? (fun kv => decide (kv.1 = (Sum.inl (f z) : Key))) ((Sum.inl (f y), g y) :: r.map fun z => ((Sum.inl (f z) : Key), g z))) = _
    rw [List.find?_cons]
    rcases List.mem_cons.mp hz with rfl | hz
    · simp
    · have hne : ¬ (Sum.inl (f y) : Key) = Sum.inl (f z) := fun q => by
        injection q with q
        exact h2.1 (List.mem_map.mpr ⟨z, hz, q.symm⟩)
      rw [decide_eq_false hne]
      exact ih h2.2 hz
theorem EntAt.seven {H : Hp} {a : Addr} {e : En} (h : EntAt H a e) (hd : e.isDeed = true) : ∃ xs r, H a = some (.tup xs) ∧ atI xs 7 = some (.ref r) ∧ H r = some (.tup (e.rests.map V.int)) := by
  unfold EntAt at h
  unfold En.isDeed at hd
  unfold En.rests
  cases hk : e.kd with
  | deed g t rs ws =>
    rw [hk] at h
    obtain ⟨r, w, h1, h2, _⟩ := h
    exact ⟨_, r, h1, atI_nat (j := 7) rfl, h2⟩
  | act x o =>
    rw [hk] at hd
    cases hd
end Deed

namespace Deed
open PySem PySem.Spec PyProof.Rows L2 LamX
/-- the acts in force, in whatever order -/
structure ForcedAt (es : List En) (d k : Int) (fs : List (Addr × En)) : Prop where
  mem : ∀ z ∈ fs, z.2 ∈ es ∧ z.2.isDeed = false ∧ frc es d k z.2 = true
  all : ∀ u ∈ es, u.isDeed = false → frc es d k u = true → ∃ z ∈ fs, z.2 = u
  len : fs.length ≤ 16
theorem ForcedAt.any {n : Nat} {es : List En} {d k : Int} {fs : List (Addr × En)} (h : ForcedAt es d k fs) (hB : BkOk n es) (x : Str) (hx : x ≠ "deed") (m : Int) : (!((((fs.filter fun z => isOn x m z.2).map fun z => z.2.num).map V.int).isEmpty)) = anyF es d k x m := by
  unfold anyF
  rw [Bool.eq_iff_iff, List.any_eq_true]
  constructor
  · intro hh
    have hne : ¬ (((fs.filter fun z => isOn x m z.2).map fun z => z.2.num).map V.int) = [] := fun z => by
      rw [z] at hh
      cases hh
    have hne2 : fs.filter (fun z => isOn x m z.2) ≠ [] := fun z => hne (by rw [z]; rfl)
    obtain ⟨z, hz⟩ := List.exists_mem_of_ne_nil _ hne2
    obtain ⟨h1, h2⟩ := List.mem_filter.mp hz
    exact ⟨z.2, (h.mem z h1).1, by rw [h2, (h.mem z h1).2.2]; rfl⟩
  · rintro ⟨u, hu, hh⟩
    rw [Bool.and_eq_true] at hh
    obtain ⟨hd, _, _⟩ := isOn_act (hB.ok u hu) hx hh.1
    obtain ⟨z, hz, rfl⟩ := h.all u hu hd hh.2
    have hm : z ∈ fs.filter fun z => isOn x m z.2 := List.mem_filter.mpr ⟨hz, hh.1⟩
    cases hl : fs.filter (fun z => isOn x m z.2) with
    | nil => rw [hl] at hm; cases hm
    | cons a r => rfl
section
variable {P : Program} {w : World} {K : PySem.W.Frag} {mg : Str → Option Value} {base : Heap} {T : List (Addr × Str)} {fOn : Addr} {dOn : FuncData}
/-- the words that carry, of the module's top -/
def CarryAt (K : PySem.W.Frag) (mg : Str → Option Value) : Prop := ∃ a : Addr, mg "CARRYING" = some (.ref a) ∧ ∀ H : Hp, SqT K H a [.str "stands", .str "paid"]
abbrev sWordOf : Stmt := topS 55
abbrev nWordOf : List Str := ["deed", "forced", "words", "d", "k", "rest"]
abbrev pWordOf : List Str := ["deed", "forced", "words", "d", "k"]
theorem scWordOf : FnScope nWordOf pWordOf (defScope sWordOf) := ⟨rfl, rfl, rfl, by decide +kernel, rfl, by decide +kernel, by decide +kernel⟩
def spWordOf : Sp := fun vs H Q _ => ∃ (a fo wd : Addr) (e : En) (n : Nat) (es : List En) (d k : Int) (fs : List (Addr × En)) (kvs : List (Key × V)), vs = [.ref a, .ref fo, .ref wd, .int d, .int k] ∧ EntAt H a e ∧ e ∈ es ∧ e.isDeed = true ∧ BkOk n es ∧ H fo = some (.lst (refs fs)) ∧ (∀ z ∈ fs, EntAt H z.1 z.2) ∧ ForcedAt es d k fs ∧
  H wd = some (.dK kvs) ∧ (∀ r ∈ e.rests, ∃ u ∈ es, u.isDeed = true ∧ u.num = r ∧ valV kvs (.inl r) = some (.str (st es d k u))) ∧ ∀ H', Same H H' → Q (.str (st es d k e)) H'
theorem ok_wordOf {f : Addr} {fd : FuncData} {k : Nat} (F : Fun K "word_of_deed" "word_of_deed" sWordOf f fd) (DO : Df K mg "acts_on" sActsOn pActsOn fOn dOn) (mW : MgInt mg "WORD" 4) (mO : MgInt mg "OF" 5) (mN : MgInt mg "NUMBER" 0) (mWr : MgInt mg "WRITTEN" 2) (mD : MgInt mg "DAY" 1) (mR : MgInt mg "RESTS" 7) (mA : mg "any" = none) (mC : CarryAt K mg) : FnOk P w K mg base CX0 (k + 2) f fd pWordOf spWordOf := by
  have GO : FnOk P w K mg base CX0 (k + 1) fOn dOn pActsOn spActsOn := ok_actsOn DO.F mW mO mN
  obtain ⟨aC, gC, sC⟩ := mC
  refine F.ok scWordOf (fun vs H Q E h => ?_) (fun cdv A outer s H vs Q E hr h => ?_)
  · obtain ⟨a, fo, wd, e, n, es, d, k, fs, kvs, rfl, _⟩ := h
    rfl
  · obtain ⟨a, fo, wd, e, n, es, d, kk, fs, kvs, rfl, hE, he, hd, hB, hfo, hfs, hF, hwd, hrs, q⟩ := h
    have hu := hu_of hr
    refine ⟨_, pss_cons (ps_if (pt_cmpR op_gt (pe_ix ix_tup (pv 0) (pe_num (by rfl) mWr) (fun _ _ => rfl)) (pv 4) (nomark _)) (pss_one (ps_ret pe_str)) pss_nil)
      (pss_cons (ps_if (pt_cmpR op_gt (pe_ix ix_tup (pv 0) (pe_num (by rfl) mD) (fun _ _ => rfl)) (pv 3) (nomark _)) (pss_one (ps_ret pe_str)) pss_nil)
      (pss_cons (ps_if (pt_truth (pe_call GO hr (by rfl) DO.g DO.F.kp DO.b .nil pass0 (pa_cons (pv 1) (pa_cons pe_str (pa_cons (pe_ix ix_tup (pv 0) (pe_num (by rfl) mN) (fun _ _ => rfl)) pa_nil)))) (by intro _; rfl)) (pss_one (ps_ret pe_str)) pss_nil)
      (pss_cons (ps_if (pt_val (pe_callB (cr_any rfl) (by rfl) mA (by decide +kernel) (pa_cons (pe_lc (own := [("rest", 5)]) (g := gName 5) (by rfl) scWordOf.nd (pi_tup (pe_ix ix_tup (pv 0) (pe_num (by rfl) mR) (fun _ _ => rfl))) (blkOk_by (own := [("rest", 5)]) (N := nWordOf) (sc := defScope sWordOf) (by decide +kernel)) (fun _ _ _ _ _ => pg_name (i := 5) scWordOf.nd rfl (Or.inl rfl)) (fun _ _ _ _ _ => pts_nil)
          (fun _ _ _ _ _ => show PE _ _ (tOp (rIn K true) (tDGet (tVar 2) (tVar 5)) (tC (.ref aC))) from pe_cmpR op_notIn_seq (pe_dget hu (pv 2) (pv 5) (fun _ _ => rfl)) (pe_glob (by rfl) gC rfl) (by rfl))) pa_nil))) (pss_one (ps_ret pe_str)) pss_nil)
      (pss_cons (ps_if (pt_truth (pe_call GO hr (by rfl) DO.g DO.F.kp DO.b .nil pass0 (pa_cons (pv 1) (pa_cons pe_str (pa_cons (pe_ix ix_tup (pv 0) (pe_num (by rfl) mN) (fun _ _ => rfl)) pa_nil)))) (by intro _; rfl)) (pss_one (ps_ret pe_str)) pss_nil)
      (pss_one (ps_ret pe_str)))))), ?_⟩
    have sq := st_eq hB d kk he
    unfold wordBy at sq
    obtain ⟨xs, ex, g0, g1, g2, _⟩ := hE.tup
    have hlen := hF.len
    refine ⟨_, rfl, a, xs, 2, _, rfl, rfl, SqT.of ex, g2, _, rfl, _, _, rfl, rfl, _, rfl, ?_⟩
    refine ite2 (fun c => ?_) (fun c => ?_)
    · have c' : kk < e.wri := of_decide_eq_true c
      rw [if_pos c'] at sq
      rw [sq] at q
      exact q H (Same.refl H)
    have c' : ¬ kk < e.wri := fun z => c (decide_eq_true z)
    rw [if_neg c'] at sq
    refine ⟨_, rfl, a, xs, 1, _, rfl, rfl, SqT.of ex, g1, _, rfl, _, _, rfl, rfl, _, rfl, ?_⟩
    refine ite2 (fun c2 => ?_) (fun c2 => ?_)
    · have c2' : d < e.day := of_decide_eq_true c2
      rw [if_pos c2'] at sq
      rw [sq] at q
      exact q H (Same.refl H)
    have c2' : ¬ d < e.day := fun z => c2 (decide_eq_true z)
    rw [if_neg c2'] at sq
    refine ⟨_, rfl, _, rfl, a, xs, 0, _, rfl, rfl, SqT.of ex, g0, fo, "void", e.num, fs, rfl, hfo, fun z hz => ⟨hfs z hz, (hF.mem z hz).2.1⟩, by omega, fun p1 H1 s1 np1 ep1 => ⟨_, .inl ⟨_, SqL.of ep1, rfl⟩, ?_⟩⟩
    rw [hF.any hB "void" (by decide) e.num]
    refine ite2 (fun c3 => ?_) (fun c3 => ?_)
    · rw [if_pos c3] at sq
      rw [sq] at q
      exact q H1 s1
    rw [if_neg c3] at sq
    -- the rests
    obtain ⟨xs7, r, ex7, g7, er⟩ := (hE.kp (Same.tup s1)).seven hd
    refine ⟨_, rfl, a, xs7, 7, _, rfl, rfl, SqT.of ex7, g7, r, rfl, ⟨_, SqT.of er⟩, fun D nD => ?_⟩
    refine lc_tup (K := K) (a := r) (xs := e.rests.map V.int) (fun i H' => H' D = some (.lst (((e.rests.take i).map fun r => es.any fun u => isD r u && !carries (st es d kk u)).map V.bl)) ∧ Same H1 H') ⟨upd_same, fun b o e => by rw [upd_ne (ne_of_none e nD)]; exact e⟩ (fun i H' _ h => SqT.of (h.2 _ _ er)) ?_ ?_
    · rintro i x H' hx ⟨eD, sm⟩
      rw [List.getElem?_map] at hx
      cases hn : e.rests[i]? with
      | none => rw [hn] at hx; cases hx
      | some m =>
        rw [hn] at hx
        injection hx with hx
        subst hx
        obtain ⟨u, hu1, hu2, hu3, hu4⟩ := hrs m (List.mem_of_getElem? hn)
        have hi : i < e.rests.length := (List.getElem?_eq_some_iff.mp hn).1
        have hrl : e.rests.length ≤ 2 := by
          have h4 := (hB.ok e he).2.2.2
          unfold En.rests
          cases hk : e.kd with
          | deed g t rs ws =>
            rw [hk] at h4
            exact h4.2.2.2.1
          | act x o => exact Nat.zero_le _
        refine ⟨rfl, ?_⟩
        unfold tYes
        dsimp only
        rw [if_pos rfl]
        have dg : DGet H' wd (.int m) (some (.str (st es d kk u))) := by
          have h1 := DGet.k (k := Sum.inl m) (sm _ _ (s1 _ _ hwd))
          rw [hu4] at h1
          exact h1
        refine ⟨_, rfl, _, rfl, wd, _, rfl, dg, aC, _, rfl, .inr (sC H'), rfl, rfl, _, eD, small1000 (by rw [List.length_map, List.length_map, List.length_take]; omega), ?_, fun b o e => ?_⟩
        · rw [upd_same, take_more hn, List.map_append, List.map_append]
          have e1 : inV (.str (st es d kk u)) [.str "stands", .str "paid"] = carries (st es d kk u) := mem_inS (ws := ["stands", "paid"])
          have e2 := lost_one hB d kk hu1 hu2 hu3
          simp [e1, e2]
        · rw [upd_ne (ne_of_none e nD)]
          exact sm _ _ e
    rintro H2 ⟨eD, sm⟩
    have el : e.rests.take (e.rests.map V.int).length = e.rests := List.take_of_length_le (by rw [List.length_map]; exact Nat.le_refl _)
    rw [el] at eD
    have s2 := s1.trans sm
    refine ⟨D, _, rfl, SqL.of eD, _, rfl, ?_⟩
    have ea : ((e.rests.map fun r => es.any fun u => isD r u && !carries (st es d kk u)).any id) = e.rests.any fun r => es.any fun u => isD r u && !carries (st es d kk u) := by
      rw [List.any_map]
      rfl
    rw [ea]
    refine ite2 (fun c4 => ?_) (fun c4 => ?_)
    · rw [if_pos c4] at sq
      rw [sq] at q
      exact q H2 s2
    rw [if_neg c4] at sq
    obtain ⟨xs2, ex2, h0, _⟩ := (hE.kp (Same.tup s2)).tup
    refine ⟨_, rfl, _, rfl, a, xs2, 0, _, rfl, rfl, SqT.of ex2, h0, fo, "paid", e.num, fs, rfl, s2 _ _ hfo, fun z hz => ⟨(hfs z hz).kp (Same.tup s2), (hF.mem z hz).2.1⟩, by omega, fun p3 H3 s3 np3 ep3 => ⟨_, .inl ⟨_, SqL.of ep3, rfl⟩, ?_⟩⟩
    rw [hF.any hB "paid" (by decide) e.num]
    refine ite2 (fun c5 => ?_) (fun c5 => ?_)
    · rw [if_pos c5] at sq
      rw [sq] at q
      exact q H3 (s2.trans s3)
    · rw [if_neg c5] at sq
      rw [sq] at q
      exact q H3 (s2.trans s3)
end
end Deed

namespace Deed
open PySem PySem.Spec PyProof.Rows L2 LamX
/-- the deeds of zs by their numbers -/
def DeedsUp (zs ys : List (Addr × En)) : Prop := ys.Pairwise (fun a b => a.2.num < b.2.num) ∧ (∀ x, x ∈ ens ys ↔ x ∈ ens zs ∧ x.isDeed = true) ∧ ys.length ≤ 16
theorem DeedsUp.nodup {zs ys : List (Addr × En)} (h : DeedsUp zs ys) : ((ens ys).map (·.num)).Nodup := by
  have h1 := h.1
  refine List.pairwise_map.mpr (List.pairwise_map.mpr (h1.imp fun hh => ?_))
  omega
theorem wds_one {zs ys ys' : List (Addr × En)} (h : DeedsUp zs ys) (h' : DeedsUp zs ys') : ens ys = ens ys' := by
  have key : ∀ (l m : List En), l.Pairwise (fun a b => a.num < b.num) → m.Pairwise (fun a b => a.num < b.num) → (∀ x, x ∈ l ↔ x ∈ m) → l = m := by
    intro l
    induction l with
    | nil =>
      intro m _ _ hh
      cases m with
      | nil => rfl
      | cons y r => exact absurd ((hh y).mpr List.mem_cons_self) (by simp)
    | cons x l ih =>
      intro m h1 h2 hh
      cases m with
      | nil => exact absurd ((hh x).mp List.mem_cons_self) (by simp)
      | cons y m =>
        have a1 := List.pairwise_cons.mp h1
        have a2 := List.pairwise_cons.mp h2
        have exy : x = y := by
          rcases List.mem_cons.mp ((hh x).mp List.mem_cons_self) with e | e
          · exact e
          · rcases List.mem_cons.mp ((hh y).mpr List.mem_cons_self) with e' | e'
            · exact e'.symm
            · have := a1.1 y e'
              have := a2.1 x e
              omega
        subst exy
        congr 1
        refine ih m a1.2 a2.2 fun z => ?_
        constructor
        · intro hz
          rcases List.mem_cons.mp ((hh z).mp (List.mem_cons_of_mem _ hz)) with e | e
          · have := a1.1 z hz
            rw [e] at this
            omega
          · exact e
        · intro hz
          rcases List.mem_cons.mp ((hh z).mpr (List.mem_cons_of_mem _ hz)) with e | e
          · have := a2.1 z hz
            rw [e] at this
            omega
          · exact e
  refine key _ _ (List.pairwise_map.mpr h.1) (List.pairwise_map.mpr h'.1) fun x => ?_
  rw [h.2.1 x, h'.2.1 x]
/-- the words of deeds, by entries alone -/
abbrev wdE (es : List En) (d k : Int) (ys : List En) : List (Key × V) := ys.map fun e => (Sum.inl e.num, V.str (st es d k e))
section
variable {P : Program} {w : World} {K : PySem.W.Frag} {mg : Str → Option Value} {base : Heap} {T : List (Addr × Str)} {fCD fOA fFo fDE fWo fCk fAl : Addr} {dCD dOA dFo dDE dWo dCk dAl : FuncData}
abbrev sAllSt : Stmt := topS 57
abbrev nAllSt : List Str := ["book", "d", "k", "forced", "words", "entry"]
abbrev pAllSt : List Str := ["book", "d", "k"]
theorem scAllSt : FnScope nAllSt pAllSt (defScope sAllSt) := ⟨rfl, rfl, rfl, by decide +kernel, rfl, by decide +kernel, by decide +kernel⟩
def spAllSt (T : List (Addr × Str)) : Sp := fun vs H Q _ => ∃ (b fk t : Addr) (n : Nat) (age : Int) (zs : List (Addr × En)) (d k : Int), vs = [.ref b, .int d, .int k] ∧ BookAt H b fk t n age zs ∧ Tabs T H ∧ (0 ≤ d ∧ d ≤ 9999) ∧ (0 ≤ k ∧ k ≤ 9999) ∧
  ∀ (p : Addr) (ys : List (Addr × En)) (H' : Hp), ExtN H H' → Tabs T H' → Fresh H p → H' p = some (.dK (wdE (ens zs) d k (ens ys))) → DeedsUp zs ys → Q (.ref p) H'
theorem ok_allSt {f : Addr} {fd : FuncData} {k : Nat} {dv : List V} (F : FunD K "all_standing" "all_standing" (defArgs sAllSt) (defBody sAllSt) (defScope sAllSt) dv [] f fd) (mN : MgInt mg "NUMBER" 0)
    (DCD : Df K mg "check_day" sCheckDay ["thing"] fCD dCD) (GCD : FnOk P w K mg base CX0 k fCD dCD ["thing"] spCkDay)
    (DOA : Df K mg "open_acts" sOpenA ["book", "d", "k"] fOA dOA) (GOA : FnOk P w K mg base CX0 k fOA dOA ["book", "d", "k"] (spOpenA T)) (DFo : Df K mg "acts_in_force" sForced ["acts"] fFo dFo) (GFo : FnOk P w K mg base CX0 k fFo dFo ["acts"] spForced)
    (DDE : Df K mg "deed_entries" sDeedE ["book"] fDE dDE) (GDE : FnOk P w K mg base CX0 k fDE dDE ["book"] (spPick (·.isDeed) T)) (DWo : Df K mg "word_of_deed" sWordOf pWordOf fWo dWo) (GWo : FnOk P w K mg base CX0 k fWo dWo pWordOf spWordOf) : FnOk P w K mg base CX0 (k + 1) f fd pAllSt (spAllSt T) := by
  refine F.ok scAllSt (fun vs H Q E h => ?_) (fun cdv A outer s H vs Q E hr h => ?_)
  · obtain ⟨b, fk, t, n, age, zs, d, k, rfl, _⟩ := h
    rfl
  · obtain ⟨b, fk, t, n, age, zs, d, kk, rfl, hB, hT, hd0, hk0, q⟩ := h
    have hu := hu_of hr
    refine ⟨_, PSs.nox (pss_cons (ps_expr (pe_call GCD hr (by rfl) DCD.g DCD.F.kp DCD.b .nil pass0 (pa_cons (pv 1) pa_nil)))
      (pss_cons (ps_expr (pe_call GCD hr (by rfl) DCD.g DCD.F.kp DCD.b .nil pass0 (pa_cons (pv 2) pa_nil)))
      (pss_cons (ps_set (i := 3) scAllSt.nd rfl (.inl rfl) (pe_call GFo hr (by rfl) DFo.g DFo.F.kp DFo.b .nil pass0 (pa_cons (pe_call GOA hr (by rfl) DOA.g DOA.F.kp DOA.b .nil pass0 (pa_cons (pv 0) (pa_cons (pv 1) (pa_cons (pv 2) pa_nil)))) pa_nil)))
      (pss_cons (ps_set (i := 4) scAllSt.nd rfl (.inl rfl) pe_dnewK)
      (pss_cons (ps_for PassesOwn.never rfl (pi_list (pe_call GDE hr (by rfl) DDE.g DDE.F.kp DDE.b .nil pass0 (pa_cons (pv 0) pa_nil))) (pg_name (i := 5) scAllSt.nd rfl (.inl rfl))
        (pss_one (ps_dput hu (pv 4) (pe_ix ix_tup (pv 5) (pe_num (by rfl) mN) (fun _ _ => rfl)) (pe_call GWo hr (by rfl) DWo.g DWo.F.kp DWo.b .nil pass0 (pa_cons (pv 5) (pa_cons (pv 3) (pa_cons (pv 4) (pa_cons (pv 1) (pa_cons (pv 2) pa_nil)))))) rfl)))
      (pss_one (ps_ret (pv 4)))))))), ?_⟩
    refine ⟨_, rfl, d, rfl, hd0.1, hd0.2, ?_⟩
    refine ⟨_, rfl, kk, rfl, hk0.1, hk0.2, ?_⟩
    refine ⟨_, rfl, _, rfl, _, rfl, b, fk, t, n, age, zs, d, kk, rfl, hB, hT, fun p ys H2 e2 T2 fr2 ep2 hy2 hO => ?_⟩
    refine ⟨p, n, ens zs, d, kk, ys, rfl, ep2, hy2, hB.ok, hO, fun r H3 s3 nr er => ?_⟩
    have hF : ForcedAt (ens zs) d kk (ys.reverse.filter fun z => frc (ens zs) d kk z.2) := by
      refine ⟨fun z hz => ?_, fun u hu hd ho => ?_, ?_⟩
      · have h1 := (List.mem_filter.mp hz)
        have h2 := hO.mem z (List.mem_reverse.mp h1.1)
        exact ⟨h2.1, h2.2.1, h1.2⟩
      · obtain ⟨z, hz, rfl⟩ := hO.all u hu hd (frc_open hB.ok hu ho)
        exact ⟨z, List.mem_filter.mpr ⟨List.mem_reverse.mpr hz, ho⟩, rfl⟩
      · have h1 := List.length_filter_le (fun z : Addr × En => frc (ens zs) d kk z.2) ys.reverse
        have h2 := hO.len
        rw [List.length_reverse] at h1
        omega
    have hfE : ∀ z ∈ ys.reverse.filter (fun z => frc (ens zs) d kk z.2), EntAt H3 z.1 z.2 := fun z hz => (hy2 z (List.mem_reverse.mp (List.mem_filter.mp hz).1)).kp (Same.tup s3)
    generalize (ys.reverse.filter fun z => frc (ens zs) d kk z.2) = fs at er hF hfE
    have e3 : ExtN H H3 := e2.trans (.of s3)
    have T3 : Tabs T H3 := T2.ext s3
    refine fun wd nwd => ?_
    have e4 : ExtN H3 (upd H3 wd (.dK [])) := ExtN.new nwd _
    have T4 : Tabs T (upd H3 wd (.dK [])) := Tabs.new T3 nwd _
    have ew : (upd H3 wd (.dK [])) wd = some (.dK []) := upd_same
    have frw : Fresh H wd := Fresh.of e3 nwd
    generalize (upd H3 wd (.dK [])) = H4 at e4 T4 ew
    have e04 := e3.trans e4
    have hB4 := hB.kp (ExtN.tup e04)
    have nl : ∀ xs : List V, ∀ ps, HO.lst xs ≠ .tbl ps := fun xs ps z => by cases z
    have nk : ∀ kv : List (Key × V), ∀ ps, HO.dK kv ≠ .tbl ps := fun xs ps z => by cases z
    refine ⟨_, rfl, b, fk, t, n, age, zs, rfl, hB4, T4, fun p5 zs' H5 e5 T5 fr5 ep5 pm so => ?_⟩
    have hsub : ∀ z ∈ zs'.filter (fun z => z.2.isDeed), z ∈ zs ∧ z.2.isDeed = true := fun z hz => ⟨pm.mem_iff.mp (List.mem_filter.mp hz).1, (List.mem_filter.mp hz).2⟩
    have hDU : DeedsUp zs (zs'.filter fun z => z.2.isDeed) := by
      refine ⟨so.filter _, fun x => ?_, ?_⟩
      · constructor
        · intro hx
          obtain ⟨z, hz, rfl⟩ := List.mem_map.mp hx
          exact ⟨List.mem_map.mpr ⟨z, (hsub z hz).1, rfl⟩, (hsub z hz).2⟩
        · rintro ⟨hx, hd⟩
          obtain ⟨z, hz, rfl⟩ := List.mem_map.mp hx
          exact List.mem_map.mpr ⟨z, List.mem_filter.mpr ⟨pm.mem_iff.mpr hz, hd⟩, rfl⟩
      · have h1 := List.length_filter_le (fun z : Addr × En => z.2.isDeed) zs'
        have h2 := pm.length_eq
        have h3 := hB.len
        omega
    generalize (zs'.filter fun z => z.2.isDeed) = ds at ep5 hsub hDU
    have nwp : wd ≠ p5 := fr5.ne ew (nk _)
    have nwr : wd ≠ r := fun z => by
      rw [z, er] at nwd
      cases nwd
    refine ⟨p5, rfl, ⟨_, SqL.of ep5⟩, ?_⟩
    refine for_list (K := K) (a := p5) (xs := refs ds) (fun i σ H' => ∃ y5, σ = [some (.ref b), some (.int d), some (.int kk), some (.ref r), some (.ref wd), y5] ∧ (∀ b o, b ≠ wd → H5 b = some o → H' b = some o) ∧ H' wd = some (.dK (wdE (ens zs) d kk (ens (ds.take i)))) ∧ Tabs T H') ⟨none, rfl, fun _ _ _ h => h, e5 _ _ ew (nk _), T5⟩ (fun i σ H' _ h => ?_) ?_ ?_
    · obtain ⟨_, _, kp, _⟩ := h
      exact SqL.of (kp _ _ nwp.symm ep5)
    · rintro i x σ H' hx ⟨y5, rfl, kp, ewd, T'⟩
      obtain ⟨z, hz, rfl⟩ := ref_at hx
      have hzm := List.mem_of_getElem? hz
      have hi : i < ds.length := (List.getElem?_eq_some_iff.mp hz).1
      have hdl := hDU.2.2
      obtain ⟨hz1, hz2⟩ := hsub z hzm
      have hez : z.2 ∈ ens zs := List.mem_map.mpr ⟨z, hz1, rfl⟩
      have kT : KpT H H' := fun b0 xs0 h0 => kp _ _ (frw.ne h0 fun ps z => by cases z).symm.symm (ExtN.tup (e04.trans e5) _ _ h0)
      have er' : H' r = some (.lst (refs fs)) := kp _ _ nwr.symm (e5 _ _ (e4 _ _ er (nl _)) (nl _))
      have kT3 : KpT H3 H' := fun b0 xs0 h0 => kp _ _ (ne_of_none h0 nwd) (ExtN.tup (e4.trans e5) _ _ h0)
      have hEz := (hB.ent z hz1).kp kT
      obtain ⟨xs, ex, g0, _⟩ := hEz.tup
      have hnd : ((ens ds).map (·.num)).Nodup := hDU.nodup
      have hnt : ((ds.take i).map (fun z => z.2.num)).Nodup := by
        have e1 : (ens ds).map (·.num) = ds.map (fun z => z.2.num) := by simp [ens, List.map_map, Function.comp_def]
        rw [e1] at hnd
        exact ((List.take_sublist i ds).map _).nodup hnd
      refine ⟨_, rfl, _, rfl, _, rfl, _, rfl, _, rfl, z.1, r, wd, z.2, n, ens zs, d, kk, fs, _, rfl, hEz, hez, hz2, hB.ok, er', fun u hu => (hfE u hu).kp kT3, hF, ewd, fun m hm => ?_, fun H6 s6 => ?_⟩
      · obtain ⟨h1, h2⟩ := (hB.ok.ok z.2 hez).rest m hm
        obtain ⟨u, hu1, hu2, hu3⟩ := dn_at h1
        refine ⟨u, hu1, hu2, hu3, ?_⟩
        obtain ⟨v, hv, rfl⟩ := List.mem_map.mp ((hDU.2.1 u).mpr ⟨hu1, hu2⟩)
        have hvt : v ∈ ds.take i := by
          obtain ⟨j, hj, ej⟩ := List.mem_iff_getElem.mp hv
          have hji : j < i := by
            rcases Nat.lt_or_ge j i with q1 | q1
            · exact q1
            · have ei : ds[i] = z := by
                rw [List.getElem?_eq_getElem hi] at hz
                exact Option.some.inj hz
              rcases Nat.eq_or_lt_of_le q1 with q2 | q2
              · subst q2
                rw [ei] at ej
                rw [← ej] at hu3
                omega
              · have := List.pairwise_iff_getElem.mp hDU.1 i j hi hj q2
                rw [ei, ej] at this
                omega
          exact List.mem_take_iff_getElem.mpr ⟨j, by omega, ej⟩
        have hv1 := valV_map (f := fun z : Addr × En => z.2.num) (g := fun z : Addr × En => V.str (st (ens zs) d kk z.2)) hnt hvt
        rw [← hu3, show wdE (ens zs) d kk (ens (ds.take i)) = (ds.take i).map (fun z : Addr × En => ((Sum.inl z.2.num : Key), V.str (st (ens zs) d kk z.2))) by simp [wdE, ens, List.map_map, Function.comp_def]]
        exact hv1
      · obtain ⟨xs6, ex6, g06, _⟩ := (hEz.kp (Same.tup s6)).tup
        have ewd6 := s6 _ _ ewd
        have hnew : (Sum.inl z.2.num : Key) ∉ (wdE (ens zs) d kk (ens (ds.take i))).map (·.1) := fun hm => by
          obtain ⟨kv, hkv, ekv⟩ := List.mem_map.mp hm
          obtain ⟨e', he', rfl⟩ := List.mem_map.mp hkv
          injection ekv with ekv
          obtain ⟨v, hv, rfl⟩ := List.mem_map.mp he'
          obtain ⟨j, hj, ej⟩ := List.mem_take_iff_getElem.mp hv
          have ei : ds[i] = z := by
            rw [List.getElem?_eq_getElem hi] at hz
            exact Option.some.inj hz
          have := List.pairwise_iff_getElem.mp hDU.1 j i (by omega) hi (by omega)
          rw [ei, ej] at this
          omega
        refine ⟨_, rfl, _, rfl, z.1, xs6, 0, _, rfl, rfl, SqT.of ex6, g06, wd, _, rfl, DPut.k (k := Sum.inl z.2.num) ewd6 (small1000 ?_), ?_⟩
        · rw [List.length_map, List.length_map, List.length_take]
          omega
        refine ⟨_, rfl, fun b0 o0 nb0 h0 => ?_, ?_, ?_⟩
        · rw [upd_ne nb0]
          exact s6 _ _ (kp _ _ nb0 h0)
        · rw [upd_same, putK_new hnew, take_more hz]
          simp [wdE, ens]
        · intro q0 hq0
          obtain ⟨ps, h1, h2, h3⟩ := (T'.ext s6) q0 hq0
          have n1 : q0.1 ≠ wd := fun z0 => by
            rw [z0, ewd6] at h1
            cases h1
          refine ⟨ps, by rw [upd_ne n1]; exact h1, h2, fun pos cv hcv => ?_⟩
          obtain ⟨c0, e1, e2'⟩ := h3 pos cv hcv
          refine ⟨c0, e1, ?_⟩
          have n2 : c0 ≠ wd := fun z0 => by
            rw [z0, ewd6] at e2'
            unfold CodeO at e2'
            cases e2'
          rw [upd_ne n2]
          exact e2'
    · rintro σ H' ⟨y5, rfl, kp, ewd, T'⟩
      have el : ds.take (refs ds).length = ds := List.take_of_length_le (by rw [List.length_map]; exact Nat.le_refl _)
      rw [el] at ewd
      refine ⟨_, rfl, q wd ds H' (fun b0 o0 h0 ht => ?_) T' frw ewd hDU⟩
      exact kp _ _ (frw.ne h0 ht) ((e04.trans e5) _ _ h0 ht)
end
end Deed

namespace Deed
open PySem PySem.Spec PyProof.Rows L2 LamX
/-! ### list(d.values()) -/
def tListVals (te : TE) : TE := fun σ H Q => te σ H fun x H1 => ∃ (d : Addr) (kvs : List (Key × V)), x = .ref d ∧ H1 d = some (.dK kvs) ∧ ∀ p, H1 p = none → Q (.ref p) (upd H1 p (.lst (kvs.map (·.2))))
theorem vals_snd {kvs : List (Key × V)} {vs : List (Key × Value)} (kv : KV kvs vs) : Vals (kvs.map (·.2)) (vs.map (·.2)) := by
  have kv' : Paired (fun (p : Key × V) (q : Key × Value) => p.1 = q.1 ∧ RelV p.2 q.2) kvs vs := kv
  induction kv' with
  | nil => exact .nil
  | cons h _ ih => exact .cons h.2 (ih (by assumption))
section
variable {X : Cx} {e : Expr} {te : TE} {p apos cpos pos : Pos}
theorem pe_listVals (hc : X.calm = true) (he : PE X e te) (hg : Gl X "list") (hm : X.mg "list" = none) (hbase : attributeBase e "values" X.env (eval e X.env) = eval e X.env := by rfl) (hline : (apos.endLine == cpos.line) = true := by rfl)
    (hs : starEach [.Call (.Attribute e "values" apos) [] [] cpos] X.env = (false, eval (.Call (.Attribute e "values" apos) [] [] cpos) X.env) :: starEach [] X.env := by rfl) :
    PE X (.Call (.Name "list" p) [.Call (.Attribute e "values" apos) [] [] cpos] [] pos) (tListVals te) := by
  refine ⟨fun pins s σ H Q I hq => ?_⟩
  refine wpAny_Call_Name_kw (ld_blt I hg hm (show bootBuiltins "list" = some (.type "list") by decide +kernel) ?_)
  refine PyProof.Rows.callWith_type1 (?_) hs rfl
  rw [hs]
  show wpAny _ _ (spliced ((false, eval (.Call (.Attribute e "values" apos) [] [] cpos) X.env) :: backTo pos (starEach [] X.env))) _ _ s
  refine Calls.spliced_cons (?_)
  refine wpAny_Call_method (T := "dict") (id := "dict.values") hbase rfl hline F.plainAttrs_dict F.slot_dict_values F.type_dict_values (thn (he.run pins s σ H _ I hq) fun u s1 ⟨x, H1, I1, rx, d, kvs, ex, hd, q⟩ => ?_)
  subst ex
  obtain rfl : u = Value.ref d := rx
  obtain ⟨hz, hs0, vs, kv, hdo⟩ := I1.hok d _ hd
  obtain ⟨ep, hat⟩ := hdo.dictAt
  have lk : kvs.length = vs.length := Paired.length kv
  have I2 : Inv X pins σ H1 { s1 with heap := s1.heap.push { cls := .type "dict_values", data := .fields #[.ref d] } } := I1.kept (t' := s1.toks) fun b ob q => Heap.get?_push_of_some _ q
  refine ⟨hdo.typeIs, hdo.mapOf.noDict, ?_⟩
  show wpAny _ _ (callWith cpos (.builtin "dict.values") [.ref d] [] []) _ X.xe s1
  refine method_meetsIn F.slot_dict_values F.entry_dict_values rfl (PySem.evalArgs_none ⟨rfl, hdo.typeIs, F.args_dict_values_1 _, _, meets_dict_values (mixKind X.prog X.w) d hs0, ⟨vs, hdo⟩, ?_⟩)
  refine Calls.spliced_nil (?_)
  refine PySem.W.kdl_call (PySem.W.kdl_values (knd := mixKind X.prog X.w) (kvs := vs) (ep := ep)) (I1.ok.hd hc) ⟨⟨_, Heap.get?_push_size _ rfl, rfl, rfl⟩, hat.push _⟩ (by omega) fun h' tk acc c hk hS hit => ?_
  have ea : acc.toList = vs.map (·.2) := by
    apply List.ext_getElem?
    intro i
    rw [List.getElem?_map]
    by_cases hi : i < vs.length
    · have h1 : i < acc.size := by rw [hit.1]; exact hi
      obtain ⟨k, hk'⟩ := hit.2 i acc[i] (Array.getElem?_eq_getElem h1)
      rw [hk', Array.getElem?_toList, Array.getElem?_eq_getElem h1]
      rfl
    · have h1 : acc.size ≤ i := by rw [hit.1]; omega
      have h2 : vs[i]? = none := List.getElem?_eq_none (by omega)
      rw [h2, Array.getElem?_toList, Array.getElem?_eq_none h1]
      rfl
  have hv := vals_snd kv
  rw [← ea] at hv
  exact ⟨.ref _, _, I2.laid (t' := tk) hk (Nat.le_refl _) (show ObjOk X.prog X.w _ h' _ (.lst (kvs.map (·.2))) from ⟨by rw [List.length_map]; exact hz, acc.toList, c, hv, by rw [Array.toArray_toList]; exact hS⟩), rfl, q _ (I2.hok.fresh (Nat.le_refl _))⟩
end
end Deed

namespace Deed
open PySem PySem.Spec PyProof.Rows L2
/-! ### set(xs), xs a list of ints -/
abbrev eSet (w : World) : Obj := { cls := .type "set", dict := none, data := .set #[] 0 (.fresh 0 0 (!w.params.followText "set-order")) }
section
variable {P : Program} {w : World} {A : Around} {E : Value → Shared → Prop} {s : Shared}
set_option maxHeartbeats 8000000 in
theorem call_setL {l : Addr} {items : Array Value} (ns : List Int) {Q : Value → Shared → Prop} (nh : A.handled = none) (il : s.heap.IsList l items) (ia : IntsAre items.toList ns) (bd : ns.length + 1 < scanBound)
    (fin : ∀ (h' : Heap) (tk c : Nat), SetR w h' s.heap.objs.size (fun j => decide (j ∈ ns)) c → c ≤ ns.length → (∀ b o, s.heap.get? b = some o → h'.get? b = some o) → Q (.ref s.heap.objs.size) { s with heap := h', toks := tk }) :
    wpAny (model P w) A (call (.type "set") [Value.ref l]) Q E s := by
  have zl : items.size = ns.length := by
    rw [← Array.length_toList]
    exact IntsAre.length ia
  obtain ⟨mc, mt, f1⟩ := F.called_set.mro
  have f2 := F.called_set.made
  have f3 := F.called_set.sub
  refine wpAny_call (codeAny_of_tree (?_))
  show wpAny _ _ (callAny (Value.type "set") _) _ _ _
  refine wpAny_pure ⟨Code.quiet_builtin _ (by decide +kernel), (codeAny_builtin F.entry_type_call ?_)⟩
  rw [Around.under_plain (weight_type_call_type "set" [Value.ref l] []) rfl]
  have f4 := F.called_set.notType
  have f5 := F.called_set.canCreate
  have f6 := F.typeCall_set_1 (.ref l)
  repeat (any_goals (first | assumption | wp_step))
  refine codeAny_mono (code_set_led1 (Value.ref l) (E := E) (Q₁ := fun o s₁ => o = .ref s.heap.objs.size ∧ s₁ = { s with heap := s.heap.push (eSet w) }) ⟨rfl, rfl⟩) fun r s₁ hr => ?_
  match r, hr with
  | .error e, hr => exact hr
  | .ok .next, hr => exact hr.elim
  | .ok .brk, hr => exact hr.elim
  | .ok .cont, hr => exact hr.elim
  | .ok (.ret o), hr =>
    obtain ⟨rfl, rfl⟩ := hr
    have atS : (s.heap.push (eSet w)).get? s.heap.objs.size = some (eSet w) := Heap.get?_push_size _ rfl
    have tyS : Shared.TypeIs { s with heap := s.heap.push (eSet w) } (.ref s.heap.objs.size) "set" := ⟨_, atS, rfl⟩
    have f7 := F.called_set.init.lookup
    have f8 := F.called_set.init.bind (.ref s.heap.objs.size)
    repeat (any_goals (first | assumption | wp_step))
    refine codeAny_mono (codeAny_call_builtin (R := wants (fun r s₂ => r = .none ∧ ∃ h' tk c, s₂ = { s with heap := h', toks := tk } ∧ SetR w h' s.heap.objs.size (fun j => decide (j ∈ ns)) c ∧ c ≤ ns.length ∧ (∀ b o, s.heap.get? b = some o → h'.get? b = some o)) E) F.called_set.init.plain F.entry_set_init (check_set_init_1 tyS ?_)) fun r₂ s₂ hr₂ => ?_
    · obtain ⟨⟨oc, od, dt, sl⟩, gl, gc, en, gd⟩ := il
      simp only at gc gd
      subst gc
      subst gd
      have gl' : (s.heap.push (eSet w)).get? l = some { cls := .type "list", dict := od, data := .seq items en, slots := sl } := Heap.get?_push_of_some _ gl
      have f9 := F.sub_list_set
      have f10 := F.sub_list_frozenset
      have f11 : (Value.type "list" == Value.type "dict") = false := by decide
      have il' : (s.heap.push (eSet w)).IsList l items := ⟨_, gl', rfl, en, rfl⟩
      unfold Builtin.«set.__init__» noKeywords Builtin.Frozenset.updateFrom
      generalize ePI : pyIter = IT
      wp_walk
      subst ePI
      refine wpAny_pyIter_list il' ?_
      refine wpAny_bind (wpAny_runValue (?_))
      have lt0 : l < s.heap.objs.size := Heap.lt_size gl
      have nh3 : A.in1.in1.in1.handled = none := by simp [nh]
      have nI : l ≠ (s.heap.push (eSet w)).objs.size := by rw [Heap.size_push]; exact Nat.ne_of_lt (Nat.lt_succ_of_lt lt0)
      have nS : s.heap.objs.size ∉ [(s.heap.push (eSet w)).objs.size, l] := by
        rw [Heap.size_push]
        simp only [List.mem_cons, List.not_mem_nil, or_false, not_or]
        exact ⟨Nat.ne_of_lt (Nat.lt_succ_self _), Nat.ne_of_gt lt0⟩
      have vals : ∀ (i : Nat) (v : Value), items[i]? = some v → ∃ k t, ns[i]? = some k ∧ v = .int k t := fun i v hv => by
        have hi : i < ns.length := zl ▸ (Array.getElem?_eq_some_iff.mp hv).1
        obtain ⟨t, e⟩ := PyProof.Rows.IntsAre.int_at ia i v (by rw [Array.getElem?_toList]; exact hv)
        refine ⟨ns[i], t, List.getElem?_eq_getElem hi, e.trans ?_⟩
        rw [List.getD_eq_getElem?_getD, List.getElem?_eq_getElem hi]
        rfl
      refine set_update_ints ((Walks.list nh3 _ l nI items).toS) s.heap.objs.size nS ns zl bd vals (items.size - 0) 0 _ (by omega) (Nat.zero_le _) ⟨⟨_, Heap.get?_push_size _ rfl, rfl, rfl⟩, il'.push _⟩ ⟨0, Nat.le_refl 0, setR_new_at (Heap.get?_push_of_some _ atS)⟩ fun s' c' mv lc R' => ?_
      obtain ⟨h', g', d', tk', os'⟩ := s'
      obtain rfl : g' = s.gens := mv.gens
      obtain rfl : d' = s.drawn := mv.drawn
      obtain rfl : os' = s.os := mv.os
      show wpAny _ _ _ _ _ _
      refine wpAny_pure (?_)
      show wpAny _ _ (ret Value.none) _ _ _
      refine wpAny_pure ⟨rfl, h', tk', c', rfl, R', zl ▸ lc, fun b o e => ?_⟩
      have ltb : b < s.heap.objs.size := Heap.lt_size e
      refine mv.heap b o (fun z => ?_) (Heap.get?_push_of_some _ (Heap.get?_push_of_some _ e))
      rw [Heap.size_push] at z
      simp only [List.mem_cons, List.not_mem_nil, or_false] at z
      rcases z with z | z
      · exact absurd z (Nat.ne_of_lt ltb)
      · exact absurd z (Nat.ne_of_lt (Nat.lt_succ_of_lt ltb))
    · match r₂, hr₂ with
      | .error e, hr₂ => exact hr₂
      | .ok .next, hr₂ => exact hr₂.elim
      | .ok .brk, hr₂ => exact hr₂.elim
      | .ok .cont, hr₂ => exact hr₂.elim
      | .ok (.ret r), hr₂ =>
        obtain ⟨rfl, h', tk, c', rfl, R', lc, kp⟩ := hr₂
        repeat (any_goals (first | assumption | wp_step))
        exact fin _ _ _ R' lc kp
end
section
variable {X : Cx}
/-- set(xs) -/
def rSetL (K : PySem.W.Frag) (w : World) : List V → Hp → VK → Prop := fun xs H Q => ∃ (a : Addr) (ns : List Int), xs = [V.ref a] ∧ SqL K H a (ns.map V.int) ∧ ns.length + 1 < scanBound ∧ ∀ (p : Addr) (c : Nat), H p = none → c ≤ ns.length → Q (.ref p) (upd H p (SetO w p (fun j => decide (j ∈ ns)) c))
theorem cr_setL (hc : X.calm = true) : CallR X (.type "set") (rSetL X.K X.w) := by
  intro pins s σ H vs us Q I r h
  obtain ⟨a, ns, rfl, hs, hb, q⟩ := h
  obtain ⟨its, rv, hl, hz⟩ := I.list hs
  rw [Vals.ref1 r]
  refine call_setL ns (I.ok.hd hc) hl.isList (by simpa using rv.ints) hb fun h' tk c R lc kp => ?_
  exact ⟨.ref _, _, I.laid (t' := tk) kp (Nat.le_refl _) (setO_new R), rfl, q _ c (I.hok.fresh (Nat.le_refl _)) lc⟩
end
end Deed

/-! turns among days -/
namespace Deed
abbrev DW (S : Type) := Int × S
section
variable {S : Type} [DecidableEq S]
def lastW (acc : List (Int × S)) : Option S := acc.getLast?.map (·.2)
def stepT (acc : List (Int × S)) (p : Int × S) : List (Int × S) := if lastW acc = some p.2 then acc else acc ++ [p]
def tns (l : List (Int × S)) : List (Int × S) := l.foldl stepT []
theorem lastW_step (acc : List (Int × S)) (p : Int × S) : lastW (stepT acc p) = some p.2 := by
  unfold stepT
  split
  · assumption
  · simp [lastW]
theorem stepT_len (acc : List (Int × S)) (p : Int × S) : (stepT acc p).length ≤ acc.length + 1 := by
  unfold stepT
  split
  · omega
  · simp
theorem foldT_len : ∀ (l acc : List (Int × S)), (l.foldl stepT acc).length ≤ acc.length + l.length
  | [], acc => by simp
  | p :: l, acc => by
    rw [List.foldl_cons]
    have h1 := foldT_len l (stepT acc p)
    have h2 := stepT_len acc p
    simp only [List.length_cons]
    omega
theorem tns_len (l : List (Int × S)) : (tns l).length ≤ l.length := by
  have := foldT_len l []
  simpa [tns] using this
theorem tns_snoc (l : List (Int × S)) (p : Int × S) : tns (l ++ [p]) = stepT (tns l) p := by
  unfold tns
  rw [List.foldl_append]
  rfl
theorem mem_stepT {acc : List (Int × S)} {p q : Int × S} (h : q ∈ stepT acc p) : q ∈ acc ∨ q = p := by
  unfold stepT at h
  split at h
  · exact .inl h
  · rcases List.mem_append.mp h with h | h
    · exact .inl h
    · exact .inr (List.mem_singleton.mp h)
theorem mem_foldT : ∀ {l acc : List (Int × S)} {q : Int × S}, q ∈ l.foldl stepT acc → q ∈ acc ∨ q ∈ l
  | [], _, _, h => .inl h
  | p :: l, acc, q, h => by
    rw [List.foldl_cons] at h
    rcases mem_foldT h with h | h
    · rcases mem_stepT h with h | h
      · exact .inl h
      · exact .inr (by rw [h]; exact List.mem_cons_self)
    · exact .inr (List.mem_cons_of_mem _ h)
theorem mem_tns {l : List (Int × S)} {q : Int × S} (h : q ∈ tns l) : q ∈ l := by
  rcases mem_foldT h with h | h
  · cases h
  · exact h
/-- what turns nothing may be left out -/
theorem fold_skip (W : Int → S) (D : Int → Bool) : ∀ (l : List Int) (x : Int) (acc : List (Int × S)), lastW acc = some (W x) → List.Pairwise (· < ·) (x :: l) → (∀ y ∈ l, D y = false → ∀ z ∈ x :: l, z < y → (∀ u ∈ x :: l, ¬ (z < u ∧ u < y)) → W y = W z) →
    (l.map fun m => (m, W m)).foldl stepT acc = ((l.filter D).map fun m => (m, W m)).foldl stepT acc
  | [], _, _, _, _, _ => rfl
  | y :: l, x, acc, ha, hp, hR => by
    have hp2 := (List.pairwise_cons.mp hp).2
    have hxy : x < y := (List.pairwise_cons.mp hp).1 y List.mem_cons_self
    have hR' : ∀ y' ∈ l, D y' = false → ∀ z ∈ y :: l, z < y' → (∀ u ∈ y :: l, ¬ (z < u ∧ u < y')) → W y' = W z := fun y' hy' hD z hz hzy hn => by
      refine hR y' (List.mem_cons_of_mem _ hy') hD z (List.mem_cons_of_mem _ hz) hzy fun u hu => ?_
      rcases List.mem_cons.mp hu with rfl | hu
      · have : u < z := (List.pairwise_cons.mp hp).1 z hz
        omega
      · exact hn u hu
    cases hD : D y with
    | true =>
      rw [List.map_cons, List.foldl_cons, List.filter_cons, if_pos hD, List.map_cons, List.foldl_cons]
      exact fold_skip W D l y _ (lastW_step _ _) hp2 hR'
    | false =>
      have hW : W y = W x := hR y List.mem_cons_self hD x List.mem_cons_self hxy fun u hu => by
        rcases List.mem_cons.mp hu with rfl | hu
        · omega
        · rcases List.mem_cons.mp hu with rfl | hu
          · omega
          · have := (List.pairwise_cons.mp hp2).1 u hu
            omega
      rw [List.map_cons, List.foldl_cons, List.filter_cons, if_neg (by rw [hD]; decide)]
      have e1 : stepT acc (y, W y) = acc := by
        unfold stepT
        rw [if_pos (by rw [ha, hW])]
      rw [e1]
      exact fold_skip W D l y acc (by rw [ha, hW]) hp2 hR'
theorem up_one : ∀ {l m : List Int}, l.Pairwise (· < ·) → m.Pairwise (· < ·) → (∀ x, x ∈ l ↔ x ∈ m) → l = m
  | [], [], _, _, _ => rfl
  | [], y :: m, _, _, h => absurd ((h y).mpr List.mem_cons_self) (by simp)
  | x :: l, [], _, _, h => absurd ((h x).mp List.mem_cons_self) (by simp)
  | x :: l, y :: m, hl, hm, h => by
    have h1 := List.pairwise_cons.mp hl
    have h2 := List.pairwise_cons.mp hm
    have e : x = y := by
      rcases List.mem_cons.mp ((h x).mp List.mem_cons_self) with e | e
      · exact e
      · rcases List.mem_cons.mp ((h y).mpr List.mem_cons_self) with e' | e'
        · exact e'.symm
        · have := h2.1 x e
          have := h1.1 y e'
          omega
    subst e
    rw [up_one h1.2 h2.2 fun z => ?_]
    constructor
    · intro hz
      rcases List.mem_cons.mp ((h z).mp (List.mem_cons_of_mem _ hz)) with e | e
      · have := h1.1 z hz
        omega
      · exact e
    · intro hz
      rcases List.mem_cons.mp ((h z).mpr (List.mem_cons_of_mem _ hz)) with e | e
      · have := h2.1 z hz
        omega
      · exact e
/-- by more days, none of which is ahead of the first: the same turns -/
theorem tns_marks (W : Int → S) {M D : List Int} (hM : M.Pairwise (· < ·)) (hD : D.Pairwise (· < ·)) (h0 : (0 : Int) ∈ D) (hsub : ∀ x ∈ D, x ∈ M) (hpos : ∀ x ∈ M, 0 ≤ x) (hW : ∀ z y, 0 ≤ z → z < y → (∀ u ∈ D, ¬ (z < u ∧ u ≤ y)) → W y = W z) :
    tns (M.map fun m => (m, W m)) = tns (D.map fun m => (m, W m)) := by
  have eD : M.filter (fun m => decide (m ∈ D)) = D := up_one (hM.filter _) hD fun x => by
    rw [List.mem_filter]
    constructor
    · rintro ⟨_, h⟩
      exact of_decide_eq_true h
    · intro h
      exact ⟨hsub x h, decide_eq_true h⟩
  cases M with
  | nil => exact absurd (hsub 0 h0) (by simp)
  | cons m l =>
    have hm0 : m = 0 := by
      rcases List.mem_cons.mp (hsub 0 h0) with e | e
      · exact e.symm
      · have := (List.pairwise_cons.mp hM).1 0 e
        have := hpos m List.mem_cons_self
        omega
    have hmD : decide (m ∈ D) = true := decide_eq_true (by rw [hm0]; exact h0)
    rw [List.filter_cons, if_pos hmD] at eD
    rw [← eD]
    unfold tns
    rw [List.map_cons, List.map_cons, List.foldl_cons, List.foldl_cons]
    refine fold_skip W _ l m _ (lastW_step _ _) hM fun y hy hDy z hz hzy hn => ?_
    refine hW z y (hpos z hz) hzy fun u hu ⟨h1, h2⟩ => ?_
    have hyD : y ∉ D := of_decide_eq_false hDy
    rcases Int.lt_or_eq_of_le h2 with h3 | h3
    · exact hn u (hsub u hu) ⟨h1, h3⟩
    · rw [h3] at hu
      exact hyD hu
end
end Deed
namespace Deed
open PySem PySem.Spec PyProof.Rows L2 LamX
theorem all_congr' {α : Type} {l : List α} {p q : α → Bool} (h : ∀ x ∈ l, p x = q x) : l.all p = l.all q := by
  rw [Bool.eq_iff_iff, List.all_eq_true, List.all_eq_true]
  exact ⟨fun z x hx => by rw [← h x hx]; exact z x hx, fun z x hx => by rw [h x hx]; exact z x hx⟩
/-- what matters of days -/
def Alike (es : List En) (d k d' k' : Int) : Prop := ∀ u ∈ es, (u.day ≤ d ↔ u.day ≤ d') ∧ (u.wri ≤ k ↔ u.wri ≤ k')
theorem Alike.open {es : List En} {d k d' k' : Int} (h : Alike es d k d' k') {u : En} (hu : u ∈ es) : isOpen d k u = isOpen d' k' u := by
  unfold isOpen
  rw [decide_eq_decide.mpr (h u hu).1, decide_eq_decide.mpr (h u hu).2]
theorem frcF_at {es : List En} {d k d' k' : Int} (h : Alike es d k d' k') : ∀ (f : Nat) (e : En), e ∈ es → frcF es d k f e = frcF es d' k' f e := by
  intro f
  induction f with
  | zero => intro e _; rfl
  | succ f ih =>
    intro e he
    show (isOpen d k e && es.all fun u => !(isOn "undone" e.num u && frcF es d k f u)) = (isOpen d' k' e && es.all fun u => !(isOn "undone" e.num u && frcF es d' k' f u))
    rw [h.open he, all_congr' fun u hu => by rw [ih u hu]]
theorem anyF_at {es : List En} {d k d' k' : Int} (h : Alike es d k d' k') (x : Str) (m : Int) : anyF es d k x m = anyF es d' k' x m := by
  unfold anyF frc
  exact any_congr fun u hu => by rw [frcF_at h _ u hu]
theorem stF_at {es : List En} {d k d' k' : Int} (h : Alike es d k d' k') : ∀ (f : Nat) (e : En), e ∈ es → stF es d k f e = stF es d' k' f e := by
  intro f
  induction f with
  | zero => intro e _; rfl
  | succ f ih =>
    intro e he
    show wordBy es d k e (e.rests.any fun r => es.any fun u => isD r u && !carries (stF es d k f u)) = wordBy es d' k' e (e.rests.any fun r => es.any fun u => isD r u && !carries (stF es d' k' f u))
    have e1 : (e.rests.any fun r => es.any fun u => isD r u && !carries (stF es d k f u)) = (e.rests.any fun r => es.any fun u => isD r u && !carries (stF es d' k' f u)) := any_congr fun r _ => any_congr fun u hu => by rw [ih u hu]
    rw [e1]
    unfold wordBy
    rw [anyF_at h, anyF_at h]
    have h1 := (h e he).1
    have h2 := (h e he).2
    have e2 : (k < e.wri) = (k' < e.wri) := propext ⟨fun z => by omega, fun z => by omega⟩
    have e3 : (d < e.day) = (d' < e.day) := propext ⟨fun z => by omega, fun z => by omega⟩
    simp only [e2, e3]
theorem st_at {es : List En} {d k d' k' : Int} (h : Alike es d k d' k') {e : En} (he : e ∈ es) : st es d k e = st es d' k' e := stF_at h _ e he
/-- the days at a place of the entries -/
def dayAt (pl : Bool) (e : En) : Int := if pl then e.day else e.wri
/-- what a deed is, by a day of that place -/
def stAt (es : List En) (pl : Bool) (o : Int) (e : En) (x : Int) : Str := if pl then st es x o e else st es o x e
def DaysAt (es : List En) (pl : Bool) (D : List Int) : Prop := D.Pairwise (· < ·) ∧ ∀ x, x ∈ D ↔ x = 0 ∨ ∃ e ∈ es, dayAt pl e = x
theorem stAt_same {es : List En} {pl : Bool} {D : List Int} (hD : DaysAt es pl D) (o : Int) {e : En} (he : e ∈ es) : ∀ z y, 0 ≤ z → z < y → (∀ u ∈ D, ¬ (z < u ∧ u ≤ y)) → stAt es pl o e y = stAt es pl o e z := by
  intro z y h0 hzy hn
  have key : ∀ u ∈ es, dayAt pl u ≤ y ↔ dayAt pl u ≤ z := fun u hu => by
    have h1 := hn _ ((hD.2 _).mpr (.inr ⟨u, hu, rfl⟩))
    constructor
    · intro h2
      omega
    · intro h2
      omega
  unfold stAt
  cases pl with
  | true => exact st_at (fun u hu => ⟨key u hu, Iff.rfl⟩) he
  | false => exact st_at (fun u hu => ⟨Iff.rfl, key u hu⟩) he
/-- the course, by whatever more days -/
theorem course_one {es : List En} {pl : Bool} {D M : List Int} (hD : DaysAt es pl D) (hM : M.Pairwise (· < ·)) (hsub : ∀ x ∈ D, x ∈ M) (hpos : ∀ x ∈ M, 0 ≤ x) (o : Int) {e : En} (he : e ∈ es) :
    tns (M.map fun m => (m, stAt es pl o e m)) = tns (D.map fun m => (m, stAt es pl o e m)) :=
  tns_marks _ hM hD.1 ((hD.2 0).mpr (.inl rfl)) hsub hpos (stAt_same hD o he)
end Deed

namespace Deed
open PySem PySem.Spec PyProof.Rows L2 LamX
theorem sNew {H : Hp} {p : Addr} (n : H p = none) (o : HO) : Same H (upd H p o) := fun b u e => by rw [upd_ne (ne_of_none e n)]; exact e
/-- a list of turns -/
def TurnsAt (H : Hp) (p : Addr) (l : List (Int × Str)) : Prop := ∃ zs : List (Addr × (Int × Str)), H p = some (.lst (zs.map fun z => V.ref z.1)) ∧ zs.map (·.2) = l ∧ ∀ z ∈ zs, H z.1 = some (.tup [.int z.2.1, .str z.2.2])
theorem TurnsAt.extN {H H' : Hp} {p : Addr} {l : List (Int × Str)} (h : TurnsAt H p l) (e : ExtN H H') : TurnsAt H' p l := by
  obtain ⟨zs, h1, h2, h3⟩ := h
  exact ⟨zs, e _ _ h1 (fun ps z => by cases z), h2, fun z hz => e _ _ (h3 z hz) (fun ps z => by cases z)⟩
theorem TurnsAt.snoc {H : Hp} {p tp : Addr} {zs : List (Addr × (Int × Str))} {q : Int × Str} (e : H p = some (.lst ((zs.map fun z => V.ref z.1) ++ [.ref tp]))) (et : H tp = some (.tup [.int q.1, .str q.2])) (h : ∀ z ∈ zs, H z.1 = some (.tup [.int z.2.1, .str z.2.2])) : TurnsAt H p (zs.map (·.2) ++ [q]) := by
  refine ⟨zs ++ [(tp, q)], ?_, ?_, fun z hz => ?_⟩
  · rw [e, List.map_append]
    rfl
  · rw [List.map_append]
    rfl
  · rcases List.mem_append.mp hz with hz | hz
    · exact h z hz
    · rw [List.mem_singleton.mp hz]
      exact et
section
variable {P : Program} {w : World} {K : PySem.W.Frag} {mg : Str → Option Value} {base : Heap} {T : List (Addr × Str)}
/-! ### the days of entries -/
abbrev nDaysAt : List Str := ["book", "place", "entry"]
abbrev pDaysAt : List Str := ["book", "place"]
def plI (pl : Bool) : Int := if pl then 1 else 2
def spDaysAt : Sp := fun vs H Q _ => ∃ (b fk t : Addr) (n : Nat) (age : Int) (zs : List (Addr × En)) (pl : Bool), vs = [.ref b, .int (plI pl)] ∧ BookAt H b fk t n age zs ∧ ∀ (D : List Int) (p : Addr) (H' : Hp), Same H H' → H p = none → H' p = some (.lst (D.map V.int)) → DaysAt (ens zs) pl D → D.length ≤ 17 → Q (.ref p) H'
/-! ### turns among days -/
end
end Deed

namespace Deed
open PySem PySem.Spec PyProof.Rows L2 LamX
/-- all but the pen and the tables is as it was -/
def XP (p : Addr) (H H' : Hp) : Prop := ∀ b o, b ≠ p → H b = some o → (∀ ps, o ≠ .tbl ps) → H' b = some o
theorem XP.refl (p : Addr) (H : Hp) : XP p H H := fun _ _ _ h _ => h
theorem XP.trans {p : Addr} {H H1 H2 : Hp} (a : XP p H H1) (b : XP p H1 H2) : XP p H H2 := fun c o n h t => b c o n (a c o n h t) t
theorem XP.ofN {p : Addr} {H H' : Hp} (e : ExtN H H') : XP p H H' := fun b o _ h t => e b o h t
theorem XP.ofK {p : Addr} {H H' : Hp} (k : Kp p H H') : XP p H H' := fun b o n h _ => k b o n h
theorem XP.ofS {p : Addr} {H H' : Hp} (s : Same H H') : XP p H H' := fun b o _ h _ => s b o h
theorem XP.tup {p : Addr} {H H' : Hp} (x : XP p H H') (P : PenAt H p) : KpT H H' := fun b xs e => x _ _ (P.ne e fun _ z => by cases z) e fun ps z => by cases z
theorem XP.toN {p : Addr} {H0 H H' : Hp} (e : ExtN H0 H) (n : H0 p = none) (x : XP p H H') : ExtN H0 H' := fun b o h t => x b o (ne_of_none h n) (e b o h t) t
theorem EdAt.xp {p : Addr} {H H' : Hp} {ed : Addr} {n : Nat} {zs : List (Addr × En)} (h : EdAt H ed n zs) (x : XP p H H') (P : PenAt H p) : EdAt H' ed n zs :=
  ⟨x _ _ (P.ne h.at_ fun _ z => by cases z) h.at_ fun ps z => (by cases z), fun z hz => (h.ent z hz).kp (x.tup P), h.ok, h.len⟩
theorem EdAt.extN {H H' : Hp} {ed : Addr} {n : Nat} {zs : List (Addr × En)} (h : EdAt H ed n zs) (e : ExtN H H') : EdAt H' ed n zs :=
  ⟨e _ _ h.at_ fun ps z => (by cases z), fun z hz => (h.ent z hz).kp (ExtN.tup e), h.ok, h.len⟩
section
variable (K : PySem.W.Frag) (mg : Str → Option Value)
abbrev CellD := Df K mg "_law_cell_at" sCell ["_law_script", "_law_k"]
abbrev PenD := Df K mg "_law_pen" sPen ["_law_cell"]
abbrev BookD := Df K mg "_law_book" sBook ["_law_pen_here", "_law_most"]
end
/-- how many cells are looked at -/
theorem turns3 (m : Nat) : ∃ tn : Int, (if (if 3 < (m : Int) then 3 else (m : Int)) > 1 then (if 3 < (m : Int) then 3 else (m : Int)) else 1) = tn ∧ 0 ≤ tn ∧ tn ≤ 3 := ⟨_, rfl, by split <;> split <;> omega, by split <;> split <;> omega⟩
end Deed

namespace Deed
open PySem PySem.Spec PyProof.Rows L2 LamX
theorem dp_strs {K : PySem.W.Frag} {H : Hp} : ∀ ns : List Str, DpAll K H (ns.map V.str) (ns.map PyData.str)
  | [] => .nil
  | n :: r => .cons (.str n) (dp_strs r)
theorem lay_strs : ∀ ns : List Str, (∀ x ∈ ns, PyData.strOk x = true) → PyData.canLayAll0 (ns.map PyData.str) = true
  | [], _ => by simp [PyData.canLayAll0]
  | n :: r, h => by simp [PyData.canLayAll0, PyData.canLay0, h n List.mem_cons_self, lay_strs r fun x hx => h x (List.mem_cons_of_mem _ hx)]
theorem depth_strs : ∀ ns : List Str, PyData.depthAll (ns.map PyData.str) ≤ 1
  | [] => by simp [PyData.depthAll]
  | n :: r => by
    have h := depth_strs r
    simp only [List.map_cons, PyData.depthAll, PyData.depth]
    omega
theorem shaped_strs (ns : List Str) (hok : ∀ x ∈ ns, PyData.strOk x = true) : SeqAt.shaped (.list (ns.map PyData.str)) = true := by
  have h1 := depth_strs ns
  have h2 : PyData.depth (.list (ns.map PyData.str)) ≤ 64 := by
    simp only [PyData.depth]
    omega
  show (PyData.canLay0 (.list (ns.map PyData.str)) && decide (PyData.depth (.list (ns.map PyData.str)) ≤ 64)) = true
  rw [Bool.and_eq_true]
  exact ⟨by simp only [PyData.canLay0]; exact lay_strs ns hok, decide_eq_true h2⟩
theorem eqvAll_strs : ∀ ns : List Str, PyData.eqvAll (ns.map PyData.str) (ns.map PyData.str) = true
  | [] => by simp [PyData.eqvAll]
  | n :: r => by simp [PyData.eqvAll, PyData.eqv, eqvAll_strs r]
theorem eqv_strs (ns : List Str) : PyData.eqv (.list (ns.map PyData.str)) (.list (ns.map PyData.str)) = true := by
  simp only [PyData.eqv]
  exact eqvAll_strs ns
theorem st_ok (es : List En) (d k : Int) (e : En) : PyData.strOk (st es d k e) = true := by
  unfold st stF wordBy
  split
  · decide +kernel
  · split
    · decide +kernel
    · split
      · decide +kernel
      · split
        · decide +kernel
        · split
          · decide +kernel
          · decide +kernel
theorem Tabs.lock {T : List (Addr × Str)} {H : Hp} (t : Tabs T H) {d : Addr} {kvs : List (Key × V)} (e : H d = some (.dK kvs)) (o : HO) : Tabs T (upd H d o) := fun q0 hq0 => by
  obtain ⟨ps, h1, h2, h3⟩ := t q0 hq0
  have n1 : q0.1 ≠ d := fun z0 => by
    rw [z0, e] at h1
    cases h1
  refine ⟨ps, by rw [upd_ne n1]; exact h1, h2, fun pos cv hcv => ?_⟩
  obtain ⟨c0, e1, e2⟩ := h3 pos cv hcv
  refine ⟨c0, e1, ?_⟩
  have n2 : c0 ≠ d := fun z0 => by
    rw [z0, e] at e2
    unfold CodeO at e2
    cases e2
  rw [upd_ne n2]
  exact e2
theorem Tabs.unlock {T : List (Addr × Str)} {H : Hp} (t : Tabs T H) {d : Addr} {ob : Obj} {kvs : List (Key × V)} (e : H d = some (.frz ob (.dK kvs))) (o : HO) : Tabs T (upd H d o) := fun q0 hq0 => by
  obtain ⟨ps, h1, h2, h3⟩ := t q0 hq0
  have n1 : q0.1 ≠ d := fun z0 => by
    rw [z0, e] at h1
    cases h1
  refine ⟨ps, by rw [upd_ne n1]; exact h1, h2, fun pos cv hcv => ?_⟩
  obtain ⟨c0, e1, e2⟩ := h3 pos cv hcv
  refine ⟨c0, e1, ?_⟩
  have n2 : c0 ≠ d := fun z0 => by
    rw [z0, e] at e2
    unfold CodeO at e2
    cases e2
  rw [upd_ne n2]
  exact e2
end Deed

namespace Deed
open PySem PySem.Spec PyProof.Rows L2
/-! ### zip of lists and tuples in whatever mix: true is a list -/
def Sq2 (K : PySem.W.Frag) : Bool → Hp → Addr → List V → Prop
  | true, H, a, xs => SqL K H a xs
  | false, H, a, xs => SqT K H a xs
def IsB : Bool → Heap → Addr → Array Value → Prop
  | true, h, a, its => h.IsList a its
  | false, h, a, its => h.IsTuple a its
def IterB : Bool → Heap → Addr → Addr → Nat → Prop
  | true, h, it, a, i => h.IsListIter it a i
  | false, h, it, a, i => h.IsTupleIter it a i
theorem IterB.at {c : Bool} {h h' : Heap} {it a : Addr} {i : Nat} (x : IterB c h it a i) (k : ∀ o, h.get? it = some o → h'.get? it = some o) : IterB c h' it a i := by
  cases c with
  | true => exact Heap.IsListIter.at x k
  | false => exact Heap.IsTupleIter.at x k
theorem IterB.obj {c : Bool} {h : Heap} {it a : Addr} {i : Nat} (x : IterB c h it a i) : ∃ o, h.get? it = some o ∧ ∀ v, o.data ≠ .cell v := by
  cases c with
  | true =>
    obtain ⟨o, e, _, dt⟩ := x
    exact ⟨o, e, fun v q => by rw [dt] at q; cases q⟩
  | false =>
    obtain ⟨o, e, _, dt⟩ := x
    exact ⟨o, e, fun v q => by rw [dt] at q; cases q⟩
theorem drawsB {prog : Program} {w : World} {A : Around} (hh : A.handled = none) (c : Bool) (it l : Addr) (hne : l ≠ it) (items : Array Value) : Draws prog w A it [it, l] items.size (fun i v => items[i]? = some v) (fun i h => IterB c h it l i ∧ IsB c h l items) := by
  cases c with
  | true => exact Draws.list hh it l hne items
  | false => exact Draws.tuple hh it l hne items
section
variable {X : Cx} {pins : List (Addr × Obj)} {σ : L2.St} {H : Hp} {s : Shared}
theorem sq2_is {c : Bool} {a : Addr} {xs : List V} (I : Inv X pins σ H s) (q : Sq2 X.K c H a xs) : ∃ its, Vals xs its ∧ IsB c s.heap a its.toArray ∧ a < s.heap.objs.size := by
  cases c with
  | true =>
    obtain ⟨its, rv, pp, _⟩ := I.list q
    exact ⟨its, rv, pp.isList, pp.lt⟩
  | false =>
    obtain ⟨its, rv, pp, _⟩ := I.tuple q
    obtain ⟨oo, ho, _⟩ := id pp
    exact ⟨its, rv, pp, Heap.lt_size ho⟩
theorem sq2_inj {c : Bool} {a : Addr} {xs ys : List V} (I : Inv X pins σ H s) (q : Sq2 X.K c H a xs) (q' : Sq2 X.K c H a ys) : xs = ys := by
  cases c with
  | true => exact I.list_inj q q'
  | false => exact I.tuple_inj q q'
end
def ItzB (K : PySem.W.Frag) (c1 c2 : Bool) (a b : Addr) : It :=
  ⟨fun i H => ∃ (xs ys : List V) (x y : V), Sq2 K c1 H a xs ∧ Sq2 K c2 H b ys ∧ xs[i]? = some x ∧ ys[i]? = some y,
    fun i H v H' => ∃ T x y, v = .ref T ∧ H T = none ∧ H' = upd H T (.tup [x, y]) ∧ (∀ xs, Sq2 K c1 H a xs → xs[i]? = some x) ∧ ∀ ys, Sq2 K c2 H b ys → ys[i]? = some y,
    fun i H => ∃ xs ys : List V, Sq2 K c1 H a xs ∧ Sq2 K c2 H b ys ∧ i ≤ xs.length ∧ i ≤ ys.length ∧ (xs.length = i ∨ ys.length = i)⟩
theorem turn_zipB {P : Program} {w : World} {K : PySem.W.Frag} {elts : List Expr} {kk : Nat} {tpos : Pos} {c1 c2 : Bool} {a b z TI TO i1 i2 : Addr} (S : ZipSep2 z TI TO i1 i2 [i1, a] [i2, b]) (na : a ≠ i1) (nb : b ≠ i2) :
    Turn P w K (.Tuple elts kk tpos) (ItzB K c1 c2 a b) [z, TI, TO, i1, i2] z (fun i h => IsZip h z TI TO .none ∧ IsTupOf2 h TI (.ref i1) (.ref i2) ∧ (∃ x y, IsTupOf2 h TO x y) ∧ IterB c1 h i1 a i ∧ IterB c2 h i2 b i) where
  mem := List.mem_cons_self
  obj := fun i h st c hc => by
    obtain ⟨hz, hTI, ⟨x, y, hTO⟩, k1, k2⟩ := st
    rcases (show c = z ∨ c = TI ∨ c = TO ∨ c = i1 ∨ c = i2 by simpa using hc) with rfl | rfl | rfl | rfl | rfl
    · exact ⟨_, hz, fun v q => by cases q⟩
    · exact ⟨_, hTI, fun v q => by cases q⟩
    · exact ⟨_, hTO, fun v q => by cases q⟩
    · exact k1.obj
    · exact k2.obj
  keep := fun i h h' st k => by
    obtain ⟨hz, hTI, ⟨x, y, hTO⟩, k1, k2⟩ := st
    refine ⟨k z (by simp) _ hz, k TI (by simp) _ hTI, ⟨x, y, k TO (by simp) _ hTO⟩, ?_, ?_⟩
    · exact k1.at (k i1 (by simp))
    · exact k2.at (k i2 (by simp))
  item := by
    intro X eP ew eK cal i pins s σ H E I hf st hg
    subst eP ew eK
    obtain ⟨hz, hTI, ⟨x0, y0, hTO⟩, k1, k2⟩ := st
    obtain ⟨xs, ys, x, y, qa, qb, gx, gy⟩ := hg
    obtain ⟨va, ra, pa, _⟩ := sq2_is I qa
    obtain ⟨vb, rb, pb, _⟩ := sq2_is I qb
    obtain ⟨u, hu, ru⟩ := ra.get gx
    obtain ⟨t, ht, rt⟩ := rb.get gy
    have hh : X.A.in1.handled = none := I.ok.hd cal
    have zl : z < s.heap.objs.size := Heap.lt_size hz
    have li : i < va.toArray.size := by simpa using (List.getElem?_eq_some_iff.mp hu).1
    have lj : i < vb.toArray.size := by simpa using (List.getElem?_eq_some_iff.mp ht).1
    refine wpAny_pyNext_zipD2_item S (drawsB hh c1 i1 a na va.toArray) (drawsB hh c2 i2 b nb vb.toArray) hz hTI hTO ⟨k1, pa⟩ ⟨k2, pb⟩ li lj fun x1 x2 h1 tk p1 p2 z1 TO1 st1 st2 hT hsz hk => ?_
    obtain rfl : u = x1 := by simpa [hu] using p1
    obtain rfl : t = x2 := by simpa [ht] using p2
    refine ⟨_, rfl, wpAny_letOwnedTupleGo_zip (s := { s with heap := h1, toks := tk }) z1 fun h2 z2 sb => ?_⟩
    have hT2 : h2.get? s.heap.objs.size = some { cls := .type "tuple", data := .seq #[u, t] } := (sb.2 _ (Nat.ne_of_gt zl)).trans hT
    have ok : ObjOk X.prog X.w (upd H s.heap.objs.size (.tup [x, y])) h2 s.heap.objs.size (.tup [x, y]) := ⟨by show 2 ≤ sizeLine; decide, [u, t], .cons ru (.cons rt .nil), ⟨_, hT2, rfl, _, rfl⟩⟩
    have I2 : Inv X pins σ (upd H s.heap.objs.size (.tup [x, y])) { s with heap := h2, toks := tk } := by
      refine I.turnedNew (ch := [z, TI, TO, i1, i2]) (fun c o hc q => ?_) hf (Nat.le_refl _) ok
      simp only [List.mem_cons, List.not_mem_nil, or_false, not_or] at hc
      exact (sb.2 c hc.1).trans (hk c o hc.1 hc.2.2.1 hc.2.2.2.1 hc.2.2.2.2 q)
    refine ⟨.ref s.heap.objs.size, _, I2, rfl, ⟨_, x, y, rfl, I.hok.fresh (Nat.le_refl _), rfl, fun l hl => ?_, fun l hl => ?_⟩, ⟨z2, ?_, ⟨u, t, ?_⟩, ?_, ?_⟩, fun c hc => ?_⟩
    · rw [sq2_inj I hl qa]
      exact gx
    · rw [sq2_inj I hl qb]
      exact gy
    · exact (sb.2 _ S.TIz).trans (hk _ _ S.TIz S.TITO S.TIi1 S.TIi2 hTI)
    · exact (sb.2 _ S.TOz).trans TO1
    · exact st1.1.at fun o q => (sb.2 _ S.zi1.symm).trans q
    · exact st2.1.at fun o q => (sb.2 _ S.zi2.symm).trans q
    · have hlt : c < s.heap.objs.size := by
        obtain ⟨o1, e1, _⟩ := k1.obj
        obtain ⟨o2, e2, _⟩ := k2.obj
        rcases (show c = z ∨ c = TI ∨ c = TO ∨ c = i1 ∨ c = i2 by simpa using hc) with rfl | rfl | rfl | rfl | rfl
        · exact zl
        · exact Heap.lt_size hTI
        · exact Heap.lt_size hTO
        · exact Heap.lt_size e1
        · exact Heap.lt_size e2
      rw [upd_ne (Nat.ne_of_lt hlt)]
      exact (hf c hc).1
  done := by
    intro X eP ew eK cal i pins s σ H E I hf st hg
    subst eP ew eK
    obtain ⟨hz, hTI, ⟨x0, y0, hTO⟩, k1, k2⟩ := st
    obtain ⟨xs, ys, qa, qb, l1, l2, hend⟩ := hg
    obtain ⟨va, ra, pa, _⟩ := sq2_is I qa
    obtain ⟨vb, rb, pb, _⟩ := sq2_is I qb
    have hh : X.A.in1.handled = none := I.ok.hd cal
    have la := ra.length
    have lb := rb.length
    refine wpAny_pyNext_zipD2_end S (drawsB hh c1 i1 a na va.toArray) (drawsB hh c2 i2 b nb vb.toArray) hz hTI hTO ⟨k1, pa⟩ ⟨k2, pb⟩ (by simp; omega) (by simp; omega) (by simp; omega) fun h1 tk hk => ⟨rfl, ?_⟩
    refine I.turnedL (ch := [z, TI, TO, i1, i2]) (fun c o hc q => ?_) hf
    simp only [List.mem_cons, List.not_mem_nil, or_false, not_or] at hc
    exact hk c o hc.1 hc.2.2.1 hc.2.2.2.1 hc.2.2.2.2 q
  self := fun A i s Q E st q => wpAny_pyIter_zip st.1 q
theorem begB (c : Bool) (l : Addr) (its : Array Value) : ∃ o, Begins (.ref l) o (fun h => IsB c h l its) ∧ ∀ h it, h.get? it = some o → IterB c h it l 0 := by
  cases c with
  | true => exact ⟨_, begins_list l its, fun h it e => ⟨_, e, rfl, rfl⟩⟩
  | false => exact ⟨_, begins_tuple l its, fun h it e => ⟨_, e, rfl, rfl⟩⟩
theorem sep_new {m a b : Nat} (la : a < m) (lb : b < m) : ZipSep2 (m + 4) (m + 2) (m + 3) m (m + 1) [m, a] [m + 1, b] := by
  constructor <;> simp <;> (try constructor) <;> (try (first | (refine Nat.ne_of_gt ?_; omega) | (refine Nat.ne_of_lt ?_; omega)))
def iZipB (K : PySem.W.Frag) (c1 c2 : Bool) (ta : TA) : TI := fun σ H R => ta σ H fun vs H1 => ∃ a b xs ys, vs = [.ref a, .ref b] ∧ Sq2 K c1 H1 a xs ∧ Sq2 K c2 H1 b ys ∧ R (ItzB K c1 c2 a b) H1
theorem pi_zipB (c1 c2 : Bool) {X : Cx} {e e2 : Expr} {ta : TA} {p pos tpos : Pos} {elts : List Expr} {kk : Nat} (hg : Gl X "zip") (hm : X.mg "zip" = none) (ha : PA X [e, e2] ta)
    (hs : starEach [e, e2] X.env = (false, eval e X.env) :: starEach [e2] X.env := by rfl) (hp : (backTo pos (starEach [e2] X.env)).any (·.1) = false := by rfl) : PI X (.Tuple elts kk tpos) (.Call (.Name "zip" p) [e, e2] [] pos) (iZipB X.K c1 c2 ta) := by
  refine ⟨fun pins s σ H R I h => Call_ (ld_blt I hg hm PyProof.Rows.boot_zip (PyProof.Rows.callWith_type1 (thn (ha.run pos pins s σ H _ I h) fun us s1 ⟨vs, H1, I1, r1, q1⟩ => ?_) hs hp))⟩
  obtain ⟨a, b, xs, ys, ex, qa, qb, q⟩ := q1
  subst ex
  obtain ⟨va, ra, pa, la⟩ := sq2_is I1 qa
  obtain ⟨vb, rb, pb, lb⟩ := sq2_is I1 qb
  obtain ⟨o1, B1, it1⟩ := begB c1 a va.toArray
  obtain ⟨o2, B2, it2⟩ := begB c2 b vb.toArray
  cases r1 with
  | cons r rr =>
    cases rr with
    | cons r' rr =>
      cases rr
      cases r
      cases r'
      refine zip_begins2 B1 B2 pa pb fun h1 hz hTI hTO g1 g2 hsz hk => wpAny_pyIter_zip hz ?_
      have I2 : Inv X pins σ H1 { s1 with heap := h1 } := I1.kept (t' := s1.toks) hk
      have S := sep_new la lb
      refine ⟨s1.heap.objs.size + 4, [s1.heap.objs.size + 4, s1.heap.objs.size + 2, s1.heap.objs.size + 3, s1.heap.objs.size, s1.heap.objs.size + 1], _, _, H1, rfl, I2, turn_zipB S (Nat.ne_of_lt la) (Nat.ne_of_lt (Nat.lt_succ_of_lt lb)), ⟨hz, hTI, ⟨_, _, hTO⟩, it1 _ _ g1, it2 _ _ g2⟩, fun c hc => ?_, q⟩
      have hle : s1.heap.objs.size ≤ c := by
        simp only [List.mem_cons, List.not_mem_nil, or_false] at hc
        rcases hc with rfl | rfl | rfl | rfl | rfl
        · exact Nat.le_add_right _ 4
        · exact Nat.le_add_right _ 2
        · exact Nat.le_add_right _ 3
        · exact Nat.le_refl _
        · exact Nat.le_add_right _ 1
      exact I1.fpOk hle (I1.hok.fresh hle)
theorem walk_zipB {K : PySem.W.Frag} {c1 c2 : Bool} {a b : Addr} {xs ys : List V} {n : Nat} (hx : xs.length = n) (hy : ys.length = n) : Walk (ItzB K c1 c2 a b) n (fun H => Sq2 K c1 H a xs ∧ Sq2 K c2 H b ys) (YPair (fun i => xs[i]?) (fun i => ys[i]?)) := by
  refine ⟨fun i H hi q => ⟨xs, ys, xs[i], ys[i], q.1, q.2, ?_, ?_⟩, fun H q => ⟨xs, ys, q.1, q.2, by omega, by omega, .inl hx⟩, fun i H v H' _ q y => ?_⟩
  · exact List.getElem?_eq_getElem (by omega)
  · exact List.getElem?_eq_getElem (by omega)
  · obtain ⟨T, x, z, t1, t2, t3, t4, t5⟩ := y
    exact ⟨T, x, z, t1, t2, t3, t4 xs q.1, t5 ys q.2⟩
end Deed

namespace Deed
open PySem PySem.Spec PyProof.Rows L2
/-! ### zip of three -/
def ItzB3 (K : PySem.W.Frag) (c1 c2 c3 : Bool) (a b d : Addr) : It :=
  ⟨fun i H => ∃ (xs ys ws : List V) (x y u : V), Sq2 K c1 H a xs ∧ Sq2 K c2 H b ys ∧ Sq2 K c3 H d ws ∧ xs[i]? = some x ∧ ys[i]? = some y ∧ ws[i]? = some u,
    fun i H v H' => ∃ T x y u, v = .ref T ∧ H T = none ∧ H' = upd H T (.tup [x, y, u]) ∧ (∀ xs, Sq2 K c1 H a xs → xs[i]? = some x) ∧ (∀ ys, Sq2 K c2 H b ys → ys[i]? = some y) ∧ ∀ ws, Sq2 K c3 H d ws → ws[i]? = some u,
    fun i H => ∃ xs ys ws : List V, Sq2 K c1 H a xs ∧ Sq2 K c2 H b ys ∧ Sq2 K c3 H d ws ∧ i ≤ xs.length ∧ i ≤ ys.length ∧ i ≤ ws.length ∧ (xs.length = i ∨ ys.length = i ∨ ws.length = i)⟩
theorem turn_zipB3 {P : Program} {w : World} {K : PySem.W.Frag} {elts : List Expr} {kk : Nat} {tpos : Pos} {c1 c2 c3 : Bool} {a b d z TI TO i1 i2 i3 : Addr} (S : ZipSep3 z TI TO i1 i2 i3 [i1, a] [i2, b] [i3, d]) (na : a ≠ i1) (nb : b ≠ i2) (nc : d ≠ i3) :
    Turn P w K (.Tuple elts kk tpos) (ItzB3 K c1 c2 c3 a b d) [z, TI, TO, i1, i2, i3] z (fun i h => IsZip h z TI TO .none ∧ IsTupOf3 h TI (.ref i1) (.ref i2) (.ref i3) ∧ (∃ x y u, IsTupOf3 h TO x y u) ∧ IterB c1 h i1 a i ∧ IterB c2 h i2 b i ∧ IterB c3 h i3 d i) where
  mem := List.mem_cons_self
  obj := fun i h st c hc => by
    obtain ⟨hz, hTI, ⟨x, y, u, hTO⟩, k1, k2, k3⟩ := st
    rcases (show c = z ∨ c = TI ∨ c = TO ∨ c = i1 ∨ c = i2 ∨ c = i3 by simpa using hc) with rfl | rfl | rfl | rfl | rfl | rfl
    · exact ⟨_, hz, fun v q => by cases q⟩
    · exact ⟨_, hTI, fun v q => by cases q⟩
    · exact ⟨_, hTO, fun v q => by cases q⟩
    · exact k1.obj
    · exact k2.obj
    · exact k3.obj
  keep := fun i h h' st k => by
    obtain ⟨hz, hTI, ⟨x, y, u, hTO⟩, k1, k2, k3⟩ := st
    refine ⟨k z (by simp) _ hz, k TI (by simp) _ hTI, ⟨x, y, u, k TO (by simp) _ hTO⟩, ?_, ?_, ?_⟩
    · exact k1.at (k i1 (by simp))
    · exact k2.at (k i2 (by simp))
    · exact k3.at (k i3 (by simp))
  item := by
    intro X eP ew eK cal i pins s σ H E I hf st hg
    subst eP ew eK
    obtain ⟨hz, hTI, ⟨x0, y0, u0, hTO⟩, k1, k2, k3⟩ := st
    obtain ⟨xs, ys, ws, x, y, q, qa, qb, qc, gx, gy, gq⟩ := hg
    obtain ⟨va, ra, pa, _⟩ := sq2_is I qa
    obtain ⟨vb, rb, pb, _⟩ := sq2_is I qb
    obtain ⟨vc, rc, pc, _⟩ := sq2_is I qc
    obtain ⟨u, hu, ru⟩ := ra.get gx
    obtain ⟨t, ht, rt⟩ := rb.get gy
    obtain ⟨r, hr, rr⟩ := rc.get gq
    have hh : X.A.in1.handled = none := I.ok.hd cal
    have zl : z < s.heap.objs.size := Heap.lt_size hz
    have li : i < va.toArray.size := by simpa using (List.getElem?_eq_some_iff.mp hu).1
    have lj : i < vb.toArray.size := by simpa using (List.getElem?_eq_some_iff.mp ht).1
    have lk : i < vc.toArray.size := by simpa using (List.getElem?_eq_some_iff.mp hr).1
    refine wpAny_pyNext_zipD3_item S (drawsB hh c1 i1 a na va.toArray) (drawsB hh c2 i2 b nb vb.toArray) (drawsB hh c3 i3 d nc vc.toArray) hz hTI hTO ⟨k1, pa⟩ ⟨k2, pb⟩ ⟨k3, pc⟩ li lj lk fun x1 x2 x3 h1 tk p1 p2 p3 z1 TO1 st1 st2 st3 hT hsz hk => ?_
    obtain rfl : u = x1 := by simpa [hu] using p1
    obtain rfl : t = x2 := by simpa [ht] using p2
    obtain rfl : r = x3 := by simpa [hr] using p3
    refine ⟨_, rfl, wpAny_letOwnedTupleGo_zip (s := { s with heap := h1, toks := tk }) z1 fun h2 z2 sb => ?_⟩
    have hT2 : h2.get? s.heap.objs.size = some { cls := .type "tuple", data := .seq #[u, t, r] } := (sb.2 _ (Nat.ne_of_gt zl)).trans hT
    have ok : ObjOk X.prog X.w (upd H s.heap.objs.size (.tup [x, y, q])) h2 s.heap.objs.size (.tup [x, y, q]) := ⟨by show 3 ≤ sizeLine; decide, [u, t, r], .cons ru (.cons rt (.cons rr .nil)), ⟨_, hT2, rfl, _, rfl⟩⟩
    have I2 : Inv X pins σ (upd H s.heap.objs.size (.tup [x, y, q])) { s with heap := h2, toks := tk } := by
      refine I.turnedNew (ch := [z, TI, TO, i1, i2, i3]) (fun c o hc q => ?_) hf (Nat.le_refl _) ok
      simp only [List.mem_cons, List.not_mem_nil, or_false, not_or] at hc
      exact (sb.2 c hc.1).trans (hk c o hc.1 hc.2.2.1 hc.2.2.2.1 hc.2.2.2.2.1 hc.2.2.2.2.2 q)
    refine ⟨.ref s.heap.objs.size, _, I2, rfl, ⟨_, x, y, q, rfl, I.hok.fresh (Nat.le_refl _), rfl, fun l hl => ?_, fun l hl => ?_, fun l hl => ?_⟩, ⟨z2, ?_, ⟨u, t, r, ?_⟩, ?_, ?_, ?_⟩, fun c hc => ?_⟩
    · rw [sq2_inj I hl qa]
      exact gx
    · rw [sq2_inj I hl qb]
      exact gy
    · rw [sq2_inj I hl qc]
      exact gq
    · exact (sb.2 _ S.TIz).trans (hk _ _ S.TIz S.TITO S.TIi1 S.TIi2 S.TIi3 hTI)
    · exact (sb.2 _ S.TOz).trans TO1
    · exact st1.1.at fun o q => (sb.2 _ S.zi1.symm).trans q
    · exact st2.1.at fun o q => (sb.2 _ S.zi2.symm).trans q
    · exact st3.1.at fun o q => (sb.2 _ S.zi3.symm).trans q
    · have hlt : c < s.heap.objs.size := by
        obtain ⟨o1, e1, _⟩ := k1.obj
        obtain ⟨o2, e2, _⟩ := k2.obj
        obtain ⟨o3, e3, _⟩ := k3.obj
        rcases (show c = z ∨ c = TI ∨ c = TO ∨ c = i1 ∨ c = i2 ∨ c = i3 by simpa using hc) with rfl | rfl | rfl | rfl | rfl | rfl
        · exact zl
        · exact Heap.lt_size hTI
        · exact Heap.lt_size hTO
        · exact Heap.lt_size e1
        · exact Heap.lt_size e2
        · exact Heap.lt_size e3
      rw [upd_ne (Nat.ne_of_lt hlt)]
      exact (hf c hc).1
  done := by
    intro X eP ew eK cal i pins s σ H E I hf st hg
    subst eP ew eK
    obtain ⟨hz, hTI, ⟨x0, y0, u0, hTO⟩, k1, k2, k3⟩ := st
    obtain ⟨xs, ys, ws, qa, qb, qc, l1, l2, l3, hend⟩ := hg
    obtain ⟨va, ra, pa, _⟩ := sq2_is I qa
    obtain ⟨vb, rb, pb, _⟩ := sq2_is I qb
    obtain ⟨vc, rc, pc, _⟩ := sq2_is I qc
    have hh : X.A.in1.handled = none := I.ok.hd cal
    have la := ra.length
    have lb := rb.length
    have lc := rc.length
    refine wpAny_pyNext_zipD3_end S (drawsB hh c1 i1 a na va.toArray) (drawsB hh c2 i2 b nb vb.toArray) (drawsB hh c3 i3 d nc vc.toArray) hz hTI hTO ⟨k1, pa⟩ ⟨k2, pb⟩ ⟨k3, pc⟩ (by simp; omega) (by simp; omega) (by simp; omega) (by simp; omega) fun h1 tk hk => ⟨rfl, ?_⟩
    refine I.turnedL (ch := [z, TI, TO, i1, i2, i3]) (fun c o hc q => ?_) hf
    simp only [List.mem_cons, List.not_mem_nil, or_false, not_or] at hc
    exact hk c o hc.1 hc.2.2.1 hc.2.2.2.1 hc.2.2.2.2.1 hc.2.2.2.2.2 q
  self := fun A i s Q E st q => wpAny_pyIter_zip st.1 q
theorem sep_new3 {m a b d : Nat} (la : a < m) (lb : b < m) (ld : d < m) : ZipSep3 (m + 5) (m + 3) (m + 4) m (m + 1) (m + 2) [m, a] [m + 1, b] [m + 2, d] := by
  constructor <;> simp <;> (try constructor) <;> (try (first | (refine Nat.ne_of_gt ?_; omega) | (refine Nat.ne_of_lt ?_; omega)))
def iZipB3 (K : PySem.W.Frag) (c1 c2 c3 : Bool) (ta : TA) : TI := fun σ H R => ta σ H fun vs H1 => ∃ a b d xs ys ws, vs = [.ref a, .ref b, .ref d] ∧ Sq2 K c1 H1 a xs ∧ Sq2 K c2 H1 b ys ∧ Sq2 K c3 H1 d ws ∧ R (ItzB3 K c1 c2 c3 a b d) H1
theorem pi_zipB3 (c1 c2 c3 : Bool) {X : Cx} {e e2 e3 : Expr} {ta : TA} {p pos tpos : Pos} {elts : List Expr} {kk : Nat} (hg : Gl X "zip") (hm : X.mg "zip" = none) (ha : PA X [e, e2, e3] ta)
    (hs : starEach [e, e2, e3] X.env = (false, eval e X.env) :: starEach [e2, e3] X.env := by rfl) (hp : (backTo pos (starEach [e2, e3] X.env)).any (·.1) = false := by rfl) : PI X (.Tuple elts kk tpos) (.Call (.Name "zip" p) [e, e2, e3] [] pos) (iZipB3 X.K c1 c2 c3 ta) := by
  refine ⟨fun pins s σ H R I h => Call_ (ld_blt I hg hm PyProof.Rows.boot_zip (PyProof.Rows.callWith_type1 (thn (ha.run pos pins s σ H _ I h) fun us s1 ⟨vs, H1, I1, r1, q1⟩ => ?_) hs hp))⟩
  obtain ⟨a, b, d, xs, ys, ws, ex, qa, qb, qc, q⟩ := q1
  subst ex
  obtain ⟨va, ra, pa, la⟩ := sq2_is I1 qa
  obtain ⟨vb, rb, pb, lb⟩ := sq2_is I1 qb
  obtain ⟨vc, rc, pc, lc⟩ := sq2_is I1 qc
  obtain ⟨o1, B1, it1⟩ := begB c1 a va.toArray
  obtain ⟨o2, B2, it2⟩ := begB c2 b vb.toArray
  obtain ⟨o3, B3, it3⟩ := begB c3 d vc.toArray
  cases r1 with
  | cons r rr =>
    cases rr with
    | cons r' rr =>
      cases rr with
      | cons r'' rr =>
        cases rr
        cases r
        cases r'
        cases r''
        refine zip_begins3 B1 B2 B3 pa pb pc fun h1 hz hTI hTO g1 g2 g3 hsz hk => wpAny_pyIter_zip hz ?_
        have I2 : Inv X pins σ H1 { s1 with heap := h1 } := I1.kept (t' := s1.toks) hk
        have S := sep_new3 la lb lc
        refine ⟨s1.heap.objs.size + 5, [s1.heap.objs.size + 5, s1.heap.objs.size + 3, s1.heap.objs.size + 4, s1.heap.objs.size, s1.heap.objs.size + 1, s1.heap.objs.size + 2], _, _, H1, rfl, I2, turn_zipB3 S (Nat.ne_of_lt la) (Nat.ne_of_lt (Nat.lt_succ_of_lt lb)) (Nat.ne_of_lt (Nat.lt_succ_of_lt (Nat.lt_succ_of_lt lc))), ⟨hz, hTI, ⟨_, _, _, hTO⟩, it1 _ _ g1, it2 _ _ g2, it3 _ _ g3⟩, fun c hc => ?_, q⟩
        have hle : s1.heap.objs.size ≤ c := by
          simp only [List.mem_cons, List.not_mem_nil, or_false] at hc
          rcases hc with rfl | rfl | rfl | rfl | rfl | rfl
          · exact Nat.le_add_right _ 5
          · exact Nat.le_add_right _ 3
          · exact Nat.le_add_right _ 4
          · exact Nat.le_refl _
          · exact Nat.le_add_right _ 1
          · exact Nat.le_add_right _ 2
        exact I1.fpOk hle (I1.hok.fresh hle)
/-- what the i-th triple is -/
def YTrip (f g h : Nat → Option V) (i : Nat) (H : Hp) (v : V) (H' : Hp) : Prop := ∃ T x y u, v = .ref T ∧ H T = none ∧ H' = upd H T (.tup [x, y, u]) ∧ f i = some x ∧ g i = some y ∧ h i = some u
theorem walk_zipB3 {K : PySem.W.Frag} {c1 c2 c3 : Bool} {a b d : Addr} {xs ys ws : List V} {n : Nat} (hx : xs.length = n) (hy : ys.length = n) (hw : ws.length = n) : Walk (ItzB3 K c1 c2 c3 a b d) n (fun H => Sq2 K c1 H a xs ∧ Sq2 K c2 H b ys ∧ Sq2 K c3 H d ws) (YTrip (fun i => xs[i]?) (fun i => ys[i]?) (fun i => ws[i]?)) := by
  refine ⟨fun i H hi q => ⟨xs, ys, ws, xs[i], ys[i], ws[i], q.1, q.2.1, q.2.2, ?_, ?_, ?_⟩, fun H q => ⟨xs, ys, ws, q.1, q.2.1, q.2.2, by omega, by omega, by omega, .inl hx⟩, fun i H v H' _ q y => ?_⟩
  · exact List.getElem?_eq_getElem (by omega)
  · exact List.getElem?_eq_getElem (by omega)
  · exact List.getElem?_eq_getElem (by omega)
  · obtain ⟨T, x, z, u, t1, t2, t3, t4, t5, t6⟩ := y
    exact ⟨T, x, z, u, t1, t2, t3, t4 xs q.1, t5 ys q.2.1, t6 ws q.2.2⟩
end Deed

namespace Deed
open PySem PySem.Spec PyProof.Rows L2 LamX
/-! tuples put together and cut, whatever they are: what follows is shown once -/
theorem catA_same {K : PySem.W.Frag} {H : Hp} {a b : Addr} {xs ys : List V} {Q : VK} (ha : H a = some (.tup xs)) (hb : H b = some (.tup ys)) (hl : xs.length + ys.length ≤ 1000) (q : ∀ t H', Same H H' → H' t = some (.tup (xs ++ ys)) → Q (.ref t) H') : rCatA K (.ref a) (.ref b) H Q := by
  refine ⟨a, b, xs, ys, rfl, rfl, SqT.of ha, SqT.of hb, Nat.le_of_lt (small1000 hl), fun e => ?_, fun _ e => ?_, fun _ _ p np => q p _ (same_new np _) upd_same⟩
  · subst e
    exact q b H (same_refl _) hb
  · subst e
    exact q a H (same_refl _) (by rw [List.append_nil]; exact ha)
theorem slA_same {K : PySem.W.Frag} {H : Hp} {a : Addr} {xs : List V} {lo hi : Option Int} {Q : VK} (ha : H a = some (.tup xs)) (q : ∀ t H', Same H H' → H' t = some (.tup (cutV xs lo hi)) → Q (.ref t) H') : rSlA K (.ref a) lo hi H Q := by
  refine ⟨a, xs, rfl, SqT.of ha, fun e => ?_, fun _ p np => q p _ (same_new np _) upd_same⟩
  refine q a H (same_refl _) ?_
  rw [ha]
  unfold cutV
  rw [e.1, e.2, List.drop_zero, Nat.sub_zero, List.take_length]
end Deed

namespace Deed
open PySem PySem.Spec PyProof.Rows L2 LamX
/-! entries as data -/
def entD (e : En) : PyData := match e.kd with
  | .deed g t rs ws => .tuple [.int e.num, .int e.day, .int e.wri, .int e.hand, .str "deed", .int g, .int t, .tuple (rs.map PyData.int), .tuple (ws.map PyData.int)]
  | .act x o => .tuple [.int e.num, .int e.day, .int e.wri, .int e.hand, .str x, .int o]
theorem EntAt.dp {K : PySem.W.Frag} {H : Hp} {a : Addr} {e : En} (h : EntAt H a e) : Dp K H (.ref a) (entD e) := by
  unfold EntAt at h
  unfold entD
  cases hk : e.kd with
  | deed g t rs ws =>
    rw [hk] at h
    obtain ⟨r, w, h1, h2, h3⟩ := h
    exact .tup (SqT.of h1) (.cons (.int _) (.cons (.int _) (.cons (.int _) (.cons (.int _) (.cons (.str _) (.cons (.int _) (.cons (.int _) (.cons (.tup (SqT.of h2) (dp_ints rs)) (.cons (.tup (SqT.of h3) (dp_ints ws)) .nil)))))))))
  | act x o =>
    rw [hk] at h
    exact .tup (SqT.of h) (.cons (.int _) (.cons (.int _) (.cons (.int _) (.cons (.int _) (.cons (.str _) (.cons (.int _) .nil))))))
theorem dp_ents {K : PySem.W.Frag} {H : Hp} : ∀ zs : List (Addr × En), (∀ z ∈ zs, EntAt H z.1 z.2) → DpAll K H (refs zs) ((ens zs).map entD)
  | [], _ => .nil
  | z :: r, h => .cons (h z List.mem_cons_self).dp (dp_ents r fun x hx => h x (List.mem_cons_of_mem _ hx))
theorem EnOk.lay {n : Nat} {ds as : List Int} {e : En} (h : EnOk n ds as e) : PyData.canLay0 (entD e) = true := by
  unfold entD
  cases hk : e.kd with
  | deed g t rs ws =>
    have h1 := lay_ints rs
    have h2 := lay_ints ws
    simp only [PyData.canLay0, PyData.canLayAll0, h1, h2, Bool.and_true, Bool.true_and]
    decide +kernel
  | act x o =>
    have h4 := h.2.2.2
    rw [hk] at h4
    have hx : PyData.strOk x = true := by rcases h4.1 with ⟨z, _⟩ | ⟨z | z, _⟩ <;> rw [z] <;> decide +kernel
    simp [PyData.canLay0, PyData.canLayAll0, hx]
theorem lay_ents {n : Nat} {ds as : List Int} : ∀ es : List En, (∀ e ∈ es, EnOk n ds as e) → PyData.canLayAll0 (es.map entD) = true
  | [], _ => by simp [PyData.canLayAll0]
  | e :: r, h => by
    simp [PyData.canLayAll0, (h e List.mem_cons_self).lay, lay_ents r fun x hx => h x (List.mem_cons_of_mem _ hx)]
theorem depth_ent (e : En) : PyData.depth (entD e) ≤ 4 := by
  unfold entD
  cases e.kd with
  | deed g t rs ws =>
    have h1 := depth_ints rs
    have h2 := depth_ints ws
    simp only [PyData.depth, PyData.depthAll]
    omega
  | act x o =>
    simp only [PyData.depth, PyData.depthAll]
    omega
theorem depth_ents : ∀ es : List En, PyData.depthAll (es.map entD) ≤ 5
  | [] => by simp [PyData.depthAll]
  | e :: r => by
    have h1 := depth_ent e
    have h2 := depth_ents r
    simp only [List.map_cons, PyData.depthAll]
    omega
theorem shaped_entsT {n : Nat} {ds as : List Int} (es : List En) (h : ∀ e ∈ es, EnOk n ds as e) : SeqAt.shaped (.tuple (es.map entD)) = true := by
  have h1 := depth_ents es
  have h2 : PyData.depth (.tuple (es.map entD)) ≤ 64 := by
    simp only [PyData.depth]
    omega
  show (PyData.canLay0 (.tuple (es.map entD)) && decide (PyData.depth (.tuple (es.map entD)) ≤ 64)) = true
  rw [Bool.and_eq_true]
  exact ⟨by simp only [PyData.canLay0]; exact lay_ents es h, decide_eq_true h2⟩
theorem shaped_entsL {n : Nat} {ds as : List Int} (es : List En) (h : ∀ e ∈ es, EnOk n ds as e) : SeqAt.shaped (.list (es.map entD)) = true := by
  have h1 := depth_ents es
  have h2 : PyData.depth (.list (es.map entD)) ≤ 64 := by
    simp only [PyData.depth]
    omega
  show (PyData.canLay0 (.list (es.map entD)) && decide (PyData.depth (.list (es.map entD)) ≤ 64)) = true
  rw [Bool.and_eq_true]
  exact ⟨by simp only [PyData.canLay0]; exact lay_ents es h, decide_eq_true h2⟩
theorem eqvT_nil (l : List PyData) : PyData.eqv (.tuple l) (.tuple []) = decide (l = []) := by
  cases l <;> simp [PyData.eqv, PyData.eqvAll]
theorem eqvL_nil (l : List PyData) : PyData.eqv (.list l) (.list []) = decide (l = []) := by
  cases l <;> simp [PyData.eqv, PyData.eqvAll]
/-! cuts -/
theorem cut_to (xs : List V) (k : Nat) : cutV xs none (some (k : Int)) = xs.take k := by
  unfold cutV
  rw [HT.sIx_none, HT.sIx_nat, List.drop_zero, Nat.sub_zero, List.take_eq_take_iff]
  omega
theorem cut_from (xs : List V) (k : Nat) : cutV xs (some (k : Int)) none = xs.drop k := by
  unfold cutV
  rw [HT.sIx_none, HT.sIx_nat]
  rw [List.take_of_length_le (by rw [List.length_drop]; omega)]
  rcases Nat.le_total k xs.length with h | h
  · rw [Nat.min_eq_left h]
  · rw [Nat.min_eq_right h, List.drop_length, List.drop_eq_nil_of_le h]
/-! a book with one entry otherwise, and with one gone -/
theorem dn_swap {A B : List En} {e e' : En} (hn : e'.num = e.num) (hd : e'.isDeed = e.isDeed) : dn (A ++ e' :: B) = dn (A ++ e :: B) := by
  unfold dn
  rw [List.filter_append, List.filter_append, List.filter_cons, List.filter_cons, hd]
  cases e.isDeed <;> simp [hn]
theorem an_swap {A B : List En} {e e' : En} (hn : e'.num = e.num) (hd : e'.isDeed = e.isDeed) : an (A ++ e' :: B) = an (A ++ e :: B) := by
  unfold an
  rw [List.filter_append, List.filter_append, List.filter_cons, List.filter_cons, hd]
  cases e.isDeed <;> simp [hn]
theorem BkOk.swap {n : Nat} {A B : List En} {e e' : En} (h : BkOk n (A ++ e :: B)) (hn : e'.num = e.num) (hd : e'.isDeed = e.isDeed) (ho : EnOk n (dn (A ++ e :: B)) (an (A ++ e :: B)) e') : BkOk n (A ++ e' :: B) := by
  refine ⟨?_, fun x hx => ?_, fun x hx => ?_⟩
  · have := h.nd
    rw [List.map_append, List.map_cons] at this ⊢
    rw [hn]
    exact this
  · rcases List.mem_append.mp hx with hx | hx
    · exact h.rng x (List.mem_append.mpr (.inl hx))
    · rcases List.mem_cons.mp hx with rfl | hx
      · rw [hn]
        exact h.rng e (by simp)
      · exact h.rng x (by simp [hx])
  · rw [dn_swap hn hd, an_swap hn hd]
    rcases List.mem_append.mp hx with hx | hx
    · exact h.ok x (List.mem_append.mpr (.inl hx))
    · rcases List.mem_cons.mp hx with rfl | hx
      · exact ho
      · exact h.ok x (by simp [hx])
/-- the numbers that an entry names -/
def En.names (e : En) : List Int := match e.kd with
  | .deed _ _ rs _ => rs
  | .act _ o => [o]
theorem EnOk.names_len {n : Nat} {ds as : List Int} {e : En} (h : EnOk n ds as e) : e.names.length ≤ 2 := by
  unfold En.names
  cases hk : e.kd with
  | deed g t rs ws =>
    have h4 := h.2.2.2
    rw [hk] at h4
    exact h4.2.2.2.1
  | act x o =>
    show 1 ≤ 2
    omega
theorem EnOk.less {n : Nat} {ds as ds' as' : List Int} {e : En} (h : EnOk n ds as e) (h1 : ∀ x ∈ e.names, x ∈ ds → x ∈ ds') (h2 : ∀ x ∈ e.names, x ∈ as → x ∈ as') : EnOk n ds' as' e := by
  unfold EnOk at h ⊢
  obtain ⟨a, b, c, d⟩ := h
  refine ⟨a, b, c, ?_⟩
  unfold En.names at h1 h2
  cases hk : e.kd with
  | deed g t rs ws =>
    rw [hk] at d h1
    obtain ⟨d1, d2, d3, d4, d5, d6, d7⟩ := d
    exact ⟨d1, d2, d3, d4, d5, fun r hr => ⟨h1 r hr (d6 r hr).1, (d6 r hr).2⟩, d7⟩
  | act x o =>
    rw [hk] at d h1 h2
    refine ⟨?_, d.2⟩
    rcases d.1 with ⟨z, ho⟩ | ⟨z, ho⟩
    · exact .inl ⟨z, h2 o (by simp) ho⟩
    · exact .inr ⟨z, h1 o (by simp) ho⟩
theorem BkOk.gone {n : Nat} {A B : List En} {e : En} (h : BkOk n (A ++ e :: B)) (hno : ∀ u ∈ A ++ e :: B, e.num ∉ u.names) : BkOk n (A ++ B) := by
  have sub : (A ++ B).Sublist (A ++ e :: B) := (List.Sublist.refl A).append (List.sublist_cons_self e B)
  have mem : ∀ x ∈ A ++ B, x ∈ A ++ e :: B := fun x hx => sub.subset hx
  have back : ∀ u ∈ A ++ e :: B, u.num ≠ e.num → u ∈ A ++ B := fun u hu hne => by
    rcases List.mem_append.mp hu with hu | hu
    · exact List.mem_append.mpr (.inl hu)
    · rcases List.mem_cons.mp hu with rfl | hu
      · exact absurd rfl hne
      · exact List.mem_append.mpr (.inr hu)
  refine ⟨(sub.map _).nodup h.nd, fun x hx => h.rng x (mem x hx), fun x hx => (h.ok x (mem x hx)).less (fun y hy hd => ?_) (fun y hy hd => ?_)⟩
  · obtain ⟨u, hu, h1, rfl⟩ := mem_dn.mp hd
    exact mem_dn.mpr ⟨u, back u hu (fun q => hno x (mem x hx) (q ▸ hy)), h1, rfl⟩
  · obtain ⟨u, hu, h1, rfl⟩ := mem_an.mp hd
    exact mem_an.mpr ⟨u, back u hu (fun q => hno x (mem x hx) (q ▸ hy)), h1, rfl⟩
/-- an entry by its first four places -/
theorem EntAt.four {H : Hp} {a : Addr} {e : En} (h : EntAt H a e) : ∃ r : List V, r.length ≤ 5 ∧ H a = some (.tup (.int e.num :: .int e.day :: .int e.wri :: .int e.hand :: r)) ∧ ∀ (H' : Hp) (a' : Addr) (d w : Int), KpT H H' → H' a' = some (.tup (.int e.num :: .int d :: .int w :: .int e.hand :: r)) → EntAt H' a' { e with day := d, wri := w } := by
  unfold EntAt at h ⊢
  cases hk : e.kd with
  | deed g t rs ws =>
    rw [hk] at h
    obtain ⟨r, w, h1, h2, h3⟩ := h
    exact ⟨_, by simp, h1, fun H' a' d w' k e' => ⟨r, w, e', k _ _ h2, k _ _ h3⟩⟩
  | act x o =>
    rw [hk] at h
    exact ⟨_, by simp, h, fun H' a' d w' k e' => e'⟩
end Deed

namespace Deed
open PySem PySem.Spec PySem.W PyProof.Rows L2 LamX
/-! ### sorted(xs) of tuples of one kind -/
def rSortedDp {β : Type} (K : PySem.W.Frag) (enc : β → PyData) : List V → Hp → VK → Prop := fun vs H Q => ∃ (a : Addr) (zs : List (V × β)), vs = [V.ref a] ∧ SqL K H a (zs.map (·.1)) ∧ (∀ z ∈ zs, Dp K H z.1 (enc z.2)) ∧ (∀ b b', alike (enc b) (enc b') = true) ∧ (∀ b, ∃ x r, enc b = .tuple (x :: r)) ∧ (∀ b, (enc b).depth ≤ 8) ∧
  ∀ (ys : List (V × β)) (p : Addr), ys.Perm zs → ys.Pairwise (fun u v => dataLt (enc v.2) (enc u.2) = false) → H p = none → Q (.ref p) (upd H p (.lst (ys.map (·.1))))
theorem each_zip {β : Type} : ∀ {zs : List (V × β)} {us : List Value}, Vals (zs.map (·.1)) us → EachIs (fun u (z : V × β) => RelV z.1 u) us zs
  | [], _, h => by
    cases h
    exact .nil
  | z :: r, _, h => by
    cases h with
    | cons h1 h2 => exact .cons h1 (each_zip h2)
theorem zip_each {β : Type} : ∀ {zs : List (V × β)} {us : List Value}, EachIs (fun u (z : V × β) => RelV z.1 u) us zs → Vals (zs.map (·.1)) us
  | _, _, .nil => .nil
  | _, _, .cons h t => .cons h (zip_each t)
theorem each_and {α β : Type} {R S : α → β → Prop} {as : List α} {bs : List β} (h : EachIs R as bs) (hS : ∀ b ∈ bs, ∀ a, R a b → S a b) : EachIs S as bs := by
  induction h with
  | nil => exact .nil
  | cons h1 _ ih => exact .cons (hS _ List.mem_cons_self _ h1) (ih fun b hb a => hS b (List.mem_cons_of_mem _ hb) a)
theorem cr_sortedDp {β : Type} (enc : β → PyData) {X : Cx} (hu : X.A.units + 64 < cLine) : CallR X (.builtin "sorted") (rSortedDp X.K enc) := by
  intro pins s σ H vs us Q I r h
  obtain ⟨a, zs, rfl, hs, hD, hal, hsr, hdp, q⟩ := h
  obtain ⟨its, rv, hl, hz⟩ := I.list hs
  rw [Vals.ref1 r]
  have e := each_zip rv
  have hz' : zs.length ≤ sizeLine := by rw [List.length_map] at hz; exact hz
  refine sorted_data (bs := zs) (R := fun u (z : V × β) => RelV z.1 u) (enc := fun z => enc z.2) hl.isList e (each_and e fun z hzz u hR => Dp.reads I _ _ _ (hD z hzz) hR) (AllAlike.of fun z z' => hal _ _) (Sortable.tuples fun z => hsr _) hz' (fun z _ => ?_) fun out ho eo => ?_
  · have := hdp z.2
    show X.A.units + 2 + _ < _
    omega
  · have hp : (zs.mergeSort (dataLe false fun z => enc z.2)).Perm zs := List.mergeSort_perm _ _
    have hpw : (zs.mergeSort (dataLe false fun z => enc z.2)).Pairwise (fun a b => dataLe false (fun z : V × β => enc z.2) a b = true) := sort_pairwise (sortLe_total _ _ _) zs
    obtain ⟨ep, he'⟩ := PyProof.Rows.sortedAll_at s.heap its out.toArray
    have hlen : ((zs.mergeSort (dataLe false fun z => enc z.2)).map (·.1)).length ≤ sizeLine := by
      rw [List.length_map, hp.length_eq]
      exact hz'
    refine ⟨.ref _, upd H (s.heap.objs.size + 1) (.lst ((zs.mergeSort (dataLe false fun z => enc z.2)).map (·.1))), I.laid (t' := s.toks) (fun _ _ => PyProof.Rows.sortedAll_old) (Nat.le_succ _) ⟨hlen, out, ep, zip_each eo, he'⟩, rfl, q _ _ hp (hpw.imp fun h => ?_) (I.hok.fresh (Nat.le_succ _))⟩
    rw [dataLe_eq] at h
    simpa using h
theorem sort_one {α : Type} {le lt : α → α → Prop} (h : ∀ a b, lt a b → ¬ le b a) : ∀ {l m : List α}, l.Perm m → l.Pairwise le → m.Pairwise lt → l = m
  | [], m, p, _, _ => (List.Perm.eq_nil p.symm).symm
  | x :: l, [], p, _, _ => absurd p.length_eq (by simp)
  | y :: l, x :: m, p, h1, h2 => by
    have a1 := List.pairwise_cons.mp h1
    have a2 := List.pairwise_cons.mp h2
    have e : y = x := by
      rcases List.mem_cons.mp (p.mem_iff.mp List.mem_cons_self) with e | hy
      · exact e
      · rcases List.mem_cons.mp (p.mem_iff.mpr List.mem_cons_self) with e | hx
        · exact e.symm
        · exact absurd (a1.1 x hx) (h x y (a2.1 y hy))
    subst e
    rw [sort_one h p.cons_inv a1.2 a2.2]
theorem dp_all {K : PySem.W.Frag} {H : Hp} {β : Type} {enc : β → PyData} : ∀ (ys : List (V × β)), (∀ y ∈ ys, Dp K H y.1 (enc y.2)) → DpAll K H (ys.map (·.1)) ((ys.map (·.2)).map enc)
  | [], _ => .nil
  | y :: r, h => .cons (h y List.mem_cons_self) (dp_all r fun x hx => h x (List.mem_cons_of_mem _ hx))
end Deed

namespace PySem.SeqAt
open AutoSeq1 (wpAny_loadPart')
open MeetsSeq
/-! ### a dict and a text are never equal -/
theorem dict_eq_declines_str (l : Addr) (es : Array DictEntry) (ep : Nat) (dd : Option Addr) (sl : Array (Option Value)) (b : Str) (u : Tok) :
    Meets (Builtin.«dict.__eq__» ⟨[.ref l, .str b u], []⟩) (fun _ R s => s.heap.get? l = some { cls := .type "dict", dict := dd, data := .dict es ep, slots := sl } ∧ R (.ok (.ret .notImplemented)) s) :=
  .of_wp fun prog w A R s h => by obtain ⟨hp, g, d, tk, os⟩ := s; obtain ⟨hl, h⟩ := h; have f1 := F.sub_str_dict; wp_walk using wpAny_loadPart' hl; exact ⟨_, rfl, h⟩
theorem str_eq_declines_dict (b : Str) (u : Tok) (l : Addr) (c : Value) (es : Array DictEntry) (ep : Nat) (dd : Option Addr) (sl : Array (Option Value)) :
    Meets (Builtin.«str.__eq__» ⟨[.str b u, .ref l], []⟩) (fun _ R s => s.heap.get? l = some { cls := c, dict := dd, data := .dict es ep, slots := sl } ∧ R (.ok (.ret .notImplemented)) s) :=
  .of_wp fun prog w A R s h => by obtain ⟨hp, g, d, tk, os⟩ := s; obtain ⟨hl, h⟩ := h; wp_walk using wpAny_loadPart' hl, wpAny_load hl; exact ⟨_, rfl, h⟩
section
variable {M : Model} {A : Around} {E : Value → Shared → Prop} {s : Shared}
theorem RcAt.dict_str {l : Addr} {o : Obj} {es : Array DictEntry} {ep : Nat} (b : Str) (u : Tok) (ho : s.heap.get? l = some o) (hc : o.cls = .type "dict") (hd : o.data = .dict es ep) (hu : A.units < cLine) : RcAt A s (.ref l) (.str b u) false := fun prog w E Q h => by
  obtain ⟨cls, dd, data, sl⟩ := o
  simp only at hc hd
  subst hc hd
  exact rc_eq_decline_or (k := false) ⟨_, ho, rfl⟩ (typeIs_str s b u) (by decide) F.sub_str_dict F.slot_dict_eq F.slot_str_eq_refl
    (fun _ hq => call_meets F.slot_dict_eq ⟨_, ho, rfl⟩ F.entry_dict_eq (F.args_dict_eq_2 _ _) (dict_eq_declines_str l es ep dd sl b u) ⟨ho, hq⟩)
    (fun _ hq => call_meets F.slot_str_eq_refl (typeIs_str s b u) F.entry_str_eq (F.args_str_eq_2 _ _) (str_eq_declines_dict b u l (.type "dict") es ep dd sl) ⟨ho, hq⟩)
    (fun _ hq => wpAny_of_eq (rfl : isSame (.ref l) (.str b u) = pure false) hq) (.inr hu) h
theorem RcAt.str_dict {l : Addr} {o : Obj} {es : Array DictEntry} {ep : Nat} (b : Str) (u : Tok) (ho : s.heap.get? l = some o) (hc : o.cls = .type "dict") (hd : o.data = .dict es ep) (hu : A.units < cLine) : RcAt A s (.str b u) (.ref l) false := fun prog w E Q h => by
  obtain ⟨cls, dd, data, sl⟩ := o
  simp only at hc hd
  subst hc hd
  exact rc_eq_decline_or (k := false) (typeIs_str s b u) ⟨_, ho, rfl⟩ (by decide) F.sub_dict_str F.slot_str_eq F.slot_dict_eq_refl
    (fun _ hq => call_meets F.slot_str_eq (typeIs_str s b u) F.entry_str_eq (F.args_str_eq_2 _ _) (str_eq_declines_dict b u l (.type "dict") es ep dd sl) ⟨ho, hq⟩)
    (fun _ hq => call_meets F.slot_dict_eq_refl ⟨_, ho, rfl⟩ F.entry_dict_eq (F.args_dict_eq_2 _ _) (dict_eq_declines_str l es ep dd sl b u) ⟨ho, hq⟩)
    (fun _ hq => wpAny_of_eq (rfl : isSame (.str b u) (.ref l) = pure false) hq) (.inr hu) h
theorem EqAt.str_dict {l : Addr} {o : Obj} {es : Array DictEntry} {ep : Nat} (b : Str) (u : Tok) (ho : s.heap.get? l = some o) (hc : o.cls = .type "dict") (hd : o.data = .dict es ep) (hu : A.units < cLine) : EqAt A s (.str b u) (.ref l) false := fun prog w E Q h => by
  unfold eqBool
  refine wpAny_holding ?_
  refine wpAny_ite_split (fun hab => absurd (eq_of_beq hab) nofun) (fun _ => ?_)
  exact wpAny_bind (RcAt.str_dict b u ho hc hd hu prog w E _ (wpAny_truthy_bool h))
theorem int___gt___bool_int_0 (a : Bool) (b : Int) (u : Tok) : Gives (Builtin.«int.__gt__» ⟨[.bool a, .int b u], []⟩) (.val (Value.bool (decide ((if a = true then (1 : Int) else 0) > b)))) :=
  .of_wp fun M A E s Q h => by obtain ⟨hp, g, d, tk, os⟩ := s; wp_walk; exact ⟨_, rfl, h⟩
theorem gt_bool_int {prog : Program} {w : World} {a : Bool} {b : Int} {u : Tok} {Q : Value → Shared → Prop} (h : Q (.bool (decide ((if a = true then (1 : Int) else 0) > b))) s) : wpAny (model prog w) A (compareOp .Gt (.bool a) (.int b u)) Q E s :=
  rc_left_or (op := .Gt) rfl (typeIs_int s b u) (by decide) F.sub_int_bool F.slot_bool_gt
    (call_gives F.slot_bool_gt rfl F.entry_int_gt (F.args_int_gt_2 _ _) (int___gt___bool_int_0 a b u) ⟨nofun, h⟩) (.inl rfl)
end
end PySem.SeqAt
namespace Deed
open PySem PySem.Spec PyProof.Rows L2
/-! ### things of whatever kind -/
inductive Knd (H : Hp) : V → Prop
  | non : Knd H .non
  | bl (b : Bool) : Knd H (.bl b)
  | int (i : Int) : Knd H (.int i)
  | str (x : Str) : Knd H (.str x)
  | lst {a : Addr} {xs : List V} : H a = some (.lst xs) → Knd H (.ref a)
  | tup {a : Addr} {xs : List V} : H a = some (.tup xs) → Knd H (.ref a)
  | dct {a : Addr} {kvs : List (Key × V)} : H a = some (.dK kvs) → Knd H (.ref a)
section
variable {X : Cx}
/-- thing == text -/
def rEqTS : R2 := fun x y H Q => ∃ z, y = .str z ∧ Knd H x ∧ Q (.bl (decide (x = .str z))) H
theorem dct_at {pins : List (Addr × Obj)} {σ : L2.St} {H : Hp} {s : Shared} (I : Inv X pins σ H s) {a : Addr} {kvs : List (Key × V)} (e : H a = some (.dK kvs)) : ∃ (o : Obj) (es : Array DictEntry) (ep : Nat), s.heap.get? a = some o ∧ o.cls = .type "dict" ∧ o.data = .dict es ep := by
  obtain ⟨_, _, vs, _, o, es, ep, ho, hx, hd, _⟩ := I.hok a _ e
  exact ⟨o, es, ep, ho, hx.1, hd⟩
theorem op_eqTS (hu : X.A.units + 64 < cLine) : OpR X (compareOp .Eq) rEqTS := by
  intro pins s σ H x y v u Q I rx ry h
  obtain ⟨z, rfl, hk, q⟩ := h
  have hu' : X.A.units < cLine := by omega
  obtain ⟨t', rfl⟩ := ry
  cases hk with
  | non => cases rx; exact SeqAt.RcAt.none_str z t' X.prog X.w _ _ ⟨.bl false, H, I, rfl, q⟩
  | bl b => cases rx; exact SeqAt.RcAt.bool_str b z t' X.prog X.w _ _ ⟨.bl false, H, I, rfl, q⟩
  | int i => obtain ⟨t, rfl⟩ := rx; exact SeqAt.RcAt.int_str i t z t' X.prog X.w _ _ ⟨.bl false, H, I, rfl, q⟩
  | str i =>
    exact op_eq pins s σ H _ (.str z) _ _ Q I rx ⟨t', rfl⟩ ⟨rfl, q⟩
  | lst e =>
    cases rx
    obtain ⟨its, r, pl, hz⟩ := I.list (SqL.of (K := X.K) e)
    exact SeqAt.RcAt.list_str z t' pl.isList hu' X.prog X.w _ _ ⟨.bl false, H, I, rfl, q⟩
  | tup e =>
    cases rx
    obtain ⟨its, r, pl, hz⟩ := I.tuple (SqT.of (K := X.K) e)
    exact SeqAt.RcAt.tuple_str z t' pl hu' X.prog X.w _ _ ⟨.bl false, H, I, rfl, q⟩
  | dct e =>
    cases rx
    obtain ⟨o, es, ep, ho, hc, hd⟩ := dct_at I e
    exact SeqAt.RcAt.dict_str z t' ho hc hd hu' X.prog X.w _ _ ⟨.bl false, H, I, rfl, q⟩
/-- thing in, or not in, a list or tuple of texts -/
def rInTS (K : PySem.W.Frag) (neg : Bool) : R2 := fun x y H Q => ∃ (p : Addr) (ws : List Str), y = .ref p ∧ (SqL K H p (ws.map V.str) ∨ SqT K H p (ws.map V.str)) ∧ Knd H x ∧ Q (.bl (if neg then !decide (x ∈ ws.map V.str) else decide (x ∈ ws.map V.str))) H
def eqTS (x : V) : Value → Bool
  | .str z _ => decide (x = .str z)
  | _ => false
theorem eqTS_at {pins : List (Addr × Obj)} {σ : L2.St} {H : Hp} {s : Shared} {A : Around} (I : Inv X pins σ H s) (hu : A.units < cLine) {x : V} {v : Value} (rx : RelV x v) (hk : Knd H x) {ws : List Str} {its : List Value} (r : Vals (ws.map V.str) its) : ∀ y ∈ its, SeqAt.EqAt A s y v (eqTS x y) := by
  intro y hy
  have hs : ∃ z t, y = .str z t := by
    clear hk rx
    induction its generalizing ws with
    | nil => cases hy
    | cons a r' ih =>
      cases ws with
      | nil => cases r
      | cons z zs =>
        cases r with
        | cons h1 h2 =>
          rcases List.mem_cons.mp hy with rfl | hy
          · obtain ⟨t, rfl⟩ := h1
            exact ⟨z, t, rfl⟩
          · exact ih h2 hy
  obtain ⟨z, t, rfl⟩ := hs
  cases hk with
  | non => cases rx; exact SeqAt.EqAt.str_none z t
  | bl b => cases rx; exact SeqAt.EqAt.str_bool z t b
  | int i => obtain ⟨t', rfl⟩ := rx; exact SeqAt.EqAt.str_int z t i t'
  | str i =>
    obtain ⟨t', rfl⟩ := rx
    have := SeqAt.EqAt.str_str (A := A) (s := s) z t i t'
    rw [show eqTS (.str i) (.str z t) = (z == i) from ?_]
    · exact this
    · show decide (V.str i = V.str z) = (z == i)
      by_cases e : i = z
      · subst e
        simp
      · rw [decide_eq_false (fun q => e (by injection q))]
        exact (beq_eq_false_iff_ne.mpr fun q => e q.symm).symm
  | lst e =>
    cases rx
    obtain ⟨its, r, pl, hz⟩ := I.list (SqL.of (K := X.K) e)
    exact SeqAt.EqAt.str_list z t pl.isList hu
  | tup e =>
    cases rx
    obtain ⟨its, r, pl, hz⟩ := I.tuple (SqT.of (K := X.K) e)
    exact SeqAt.EqAt.str_tuple z t pl hu
  | dct e =>
    cases rx
    obtain ⟨o, es, ep, ho, hc, hd⟩ := dct_at I e
    exact SeqAt.EqAt.str_dict z t ho hc hd hu
theorem any_eqTS {x : V} : ∀ {ws : List Str} {its : List Value}, Vals (ws.map V.str) its → its.any (eqTS x) = decide (x ∈ ws.map V.str)
  | [], _, r => by
    cases r
    simp
  | z :: zs, _, r => by
    cases r with
    | cons h1 h2 =>
      obtain ⟨t, rfl⟩ := h1
      rw [List.any_cons, any_eqTS h2, List.map_cons]
      show (decide (x = .str z) || _) = _
      rw [← Bool.decide_or]
      simp only [List.mem_cons]
theorem op_inTS (hu : X.A.units + 64 < cLine) : OpR X (compareOp .In) (rInTS X.K false) := by
  intro pins s σ H x y v u Q I rx ry h
  obtain ⟨p, ws, rfl, hq, hk, q⟩ := h
  cases ry
  have hu' : X.A.in1.units < cLine := by show X.A.units + 1 < cLine; omega
  rcases hq with hq | hq
  · obtain ⟨its, r, pl, hz⟩ := I.list hq
    refine SeqAt.in_listAt (eqTS x) pl.isList (fun w hw => eqTS_at I hu' rx hk r w (by simpa using hw)) ⟨.bl _, H, I, rfl, ?_⟩
    rw [show its.toArray.any (eqTS x) = its.any (eqTS x) by simp, any_eqTS r]
    exact q
  · obtain ⟨its, r, pl, hz⟩ := I.tuple hq
    refine SeqAt.in_tupleAt (eqTS x) pl (fun w hw => eqTS_at I hu' rx hk r w (by simpa using hw)) ⟨.bl _, H, I, rfl, ?_⟩
    rw [show its.toArray.any (eqTS x) = its.any (eqTS x) by simp, any_eqTS r]
    exact q
theorem op_notInTS (hu : X.A.units + 64 < cLine) : OpR X (compareOp .NotIn) (rInTS X.K true) := by
  intro pins s σ H x y v u Q I rx ry h
  obtain ⟨p, ws, rfl, hq, hk, q⟩ := h
  cases ry
  have hu' : X.A.in1.units < cLine := by show X.A.units + 1 < cLine; omega
  rcases hq with hq | hq
  · obtain ⟨its, r, pl, hz⟩ := I.list hq
    refine SeqAt.notIn_listAt (eqTS x) pl.isList (fun w hw => eqTS_at I hu' rx hk r w (by simpa using hw)) ⟨.bl _, H, I, rfl, ?_⟩
    rw [show its.toArray.any (eqTS x) = its.any (eqTS x) by simp, any_eqTS r]
    exact q
  · obtain ⟨its, r, pl, hz⟩ := I.tuple hq
    refine SeqAt.notIn_tupleAt (eqTS x) pl (fun w hw => eqTS_at I hu' rx hk r w (by simpa using hw)) ⟨.bl _, H, I, rfl, ?_⟩
    rw [show its.toArray.any (eqTS x) = its.any (eqTS x) by simp, any_eqTS r]
    exact q
/-- tuple != () -/
def rNeTE (K : PySem.W.Frag) : R2 := fun x y H Q => ∃ a b xs, x = .ref a ∧ y = .ref b ∧ SqT K H a xs ∧ SqT K H b [] ∧ Q (.bl (!xs.isEmpty)) H
theorem op_neTE (hu : X.A.units + 64 < cLine) : OpR X (compareOp .NotEq) (rNeTE X.K) := by
  intro pins s σ H x y v u Q I rx ry h
  obtain ⟨a, b, xs, rfl, rfl, ha, hb, q⟩ := h
  cases rx
  cases ry
  obtain ⟨its, r, pl, hz⟩ := I.tuple ha
  obtain ⟨its2, r2, pl2, hz2⟩ := I.tuple hb
  cases r2
  have hl := r.length
  refine SeqAt.RcNeAt.tuples (e := fun _ => true) pl pl2 (by omega) (fun j h1 h2 => absurd h2 (by simp)) X.prog X.w _ _ ⟨.bl _, H, I, rfl, ?_⟩
  have e : (!((List.range (min its.toArray.size ([] : List Value).toArray.size)).all (fun _ => true) && its.toArray.size == ([] : List Value).toArray.size)) = !xs.isEmpty := by
    cases xs with
    | nil =>
      have : its = [] := List.eq_nil_of_length_eq_zero (by rw [← hl]; rfl)
      subst this
      rfl
    | cons x xs =>
      cases its with
      | nil => simp at hl
      | cons i is => simp
  rw [e]
  exact q
/-- thing + number, thing - number, thing > number, of numbers and truths -/
def b2n (b : Bool) : Int := if b = true then 1 else 0
def numOf : V → Option Int
  | .int i => some i
  | .bl b => some (b2n b)
  | _ => none
theorem op_addTI : OpR X (binaryOp .Add) (fun x y H Q => ∃ i j, numOf x = some i ∧ y = .int j ∧ Q (.int (i + j)) H) := by
  intro pins s σ H x y v u Q I rx ry h
  obtain ⟨i, j, hx, rfl, q⟩ := h
  obtain ⟨t', rfl⟩ := ry
  cases x with
  | int k =>
    obtain ⟨t, rfl⟩ := rx
    injection hx with hx
    subst hx
    exact add_int ⟨.int _, H, I.tok _, ⟨_, rfl⟩, q⟩
  | bl k =>
    cases rx
    injection hx with hx
    subst hx
    exact PySem.IntBool.add_bool_int ⟨.int _, H, I.tok _, ⟨_, rfl⟩, q⟩
  | _ => cases hx
theorem op_subTI : OpR X (binaryOp .Sub) (fun x y H Q => ∃ i j, numOf x = some i ∧ y = .int j ∧ Q (.int (i - j)) H) := by
  intro pins s σ H x y v u Q I rx ry h
  obtain ⟨i, j, hx, rfl, q⟩ := h
  obtain ⟨t', rfl⟩ := ry
  cases x with
  | int k =>
    obtain ⟨t, rfl⟩ := rx
    injection hx with hx
    subst hx
    exact sub_int ⟨.int _, H, I.tok _, ⟨_, rfl⟩, q⟩
  | bl k =>
    cases rx
    injection hx with hx
    subst hx
    exact PySem.IntBool.sub_bool_int ⟨.int _, H, I.tok _, ⟨_, rfl⟩, q⟩
  | _ => cases hx
theorem op_gtTI : OpR X (compareOp .Gt) (fun x y H Q => ∃ i j, numOf x = some i ∧ y = .int j ∧ Q (.bl (decide (i > j))) H) := by
  intro pins s σ H x y v u Q I rx ry h
  obtain ⟨i, j, hx, rfl, q⟩ := h
  cases x with
  | int k =>
    injection hx with hx
    subst hx
    exact op_gt pins s σ H _ _ _ _ Q I rx ry ⟨_, _, rfl, rfl, q⟩
  | bl k =>
    obtain ⟨t', rfl⟩ := ry
    cases rx
    injection hx with hx
    subst hx
    exact SeqAt.gt_bool_int ⟨.bl _, H, I, rfl, q⟩
  | _ => cases hx
theorem str_of_bool {prog : Program} {w : World} {A : Around} {E : Value → Shared → Prop} {s : Shared} {b : Bool} {Q : Value → Shared → Prop} (h : Q (.str (if b then "True" else "False") s.toks) { s with toks := s.toks + 1 }) : wpAny (model prog w) A (call (.type "str") [.bool b]) Q E s :=
  callType_new F.called_str (by decide) (F.typeCall_str_1 _) (F.newCall_str_1 _) (fun obj => F.args_object_init_2 obj _) F.entry_str_new
    (meets_str_new (S := fun _ R s => R (.ok (.ret (.str (if b then "True" else "False") s.toks))) { s with toks := s.toks + 1 }) fun _ _ _ _ s hq =>
      wpAny_strOf_gives rfl (PySem.typeIs_bool s b) F.slot_bool_str F.slot_bool_repr F.entry_bool_repr (F.args_bool_repr_1 _) (gives_bool_repr b) hq (hsz := by cases b <;> decide)) ⟨typeIs_str _ _ _, h⟩
def strTI : V → Int → Str
  | .bl b, _ => if b then "True" else "False"
  | _, i => toString i
/-- str(thing) of a number or a truth: some text -/
theorem call_strTI : CallR X (.type "str") (fun xs H Q => ∃ x i, xs = [x] ∧ numOf x = some i ∧ i.natAbs.log2 < 1920 ∧ Q (.str (strTI x i)) H) := by
  intro pins s σ H xs us Q I r h
  obtain ⟨x, i, rfl, hx, hz, q⟩ := h
  obtain ⟨u, rfl, rx⟩ := vals1 r
  cases x with
  | int k =>
    obtain ⟨t, rfl⟩ := rx
    injection hx with hx
    subst hx
    exact PySem.P.str_of_int hz ⟨.str _, H, I.tok _, ⟨_, rfl⟩, q⟩
  | bl k =>
    cases rx
    exact str_of_bool ⟨.str _, H, I.tok _, ⟨_, rfl⟩, q⟩
  | _ => cases hx
end
end Deed

namespace Deed
open PySem PySem.Spec PyProof.Rows L2 LamX
/-! ### a thing of whatever kind, as data -/
theorem Kp.noneG {p q : Addr} {H H' : Hp} (k : Kp p H H') (n : q ≠ p) (h : H' q = Option.none) : H q = Option.none := by
  cases e : H q with
  | none => rfl
  | some o => rw [k _ _ n e] at h; cases h
inductive Tg where
  | non | bl (b : Bool) | int (i : Int) | str (x : Str) | lst | tup (ts : List Tg) | dct
mutual
inductive TgAt (p : Addr) (H : Hp) : V → Tg → Prop
  | non : TgAt p H .non .non
  | bl (b : Bool) : TgAt p H (.bl b) (.bl b)
  | int (i : Int) : TgAt p H (.int i) (.int i)
  | str (x : Str) : TgAt p H (.str x) (.str x)
  | lst {a : Addr} {xs : List V} : a ≠ p → H a = some (.lst xs) → TgAt p H (.ref a) .lst
  | tup {a : Addr} {xs : List V} {ts : List Tg} : H a = some (.tup xs) → TgAll p H xs ts → TgAt p H (.ref a) (.tup ts)
  | dct {a : Addr} {kvs : List (Key × V)} : a ≠ p → H a = some (.dK kvs) → TgAt p H (.ref a) .dct
inductive TgAll (p : Addr) (H : Hp) : List V → List Tg → Prop
  | nil : TgAll p H [] []
  | cons {v : V} {vs : List V} {t : Tg} {ts : List Tg} : TgAt p H v t → TgAll p H vs ts → TgAll p H (v :: vs) (t :: ts)
end
section
variable {p : Addr} {H H' : Hp} {K : PySem.W.Frag}
mutual
theorem TgAt.kp (k : Kp p H H') (P : PenAt H p) : ∀ (t : Tg) (v : V), TgAt p H v t → TgAt p H' v t
  | .non, _, h => by cases h; exact .non
  | .bl _, _, h => by cases h; exact .bl _
  | .int _, _, h => by cases h; exact .int _
  | .str _, _, h => by cases h; exact .str _
  | .lst, _, h => by
    cases h with
    | lst n e => exact .lst n (k _ _ n e)
  | .tup ts, _, h => by
    cases h with
    | tup e ha => exact .tup (k.tup P _ _ e) (TgAll.kp k P ts _ ha)
  | .dct, _, h => by
    cases h with
    | dct n e => exact .dct n (k _ _ n e)
theorem TgAll.kp (k : Kp p H H') (P : PenAt H p) : ∀ (ts : List Tg) (vs : List V), TgAll p H vs ts → TgAll p H' vs ts
  | [], _, h => by cases h; exact .nil
  | t :: ts, _, h => by
    cases h with
    | cons h1 h2 => exact .cons (TgAt.kp k P t _ h1) (TgAll.kp k P ts _ h2)
end
mutual
theorem TgAt.same (k : Same H H') : ∀ (t : Tg) (v : V), TgAt p H v t → TgAt p H' v t
  | .non, _, h => by cases h; exact .non
  | .bl _, _, h => by cases h; exact .bl _
  | .int _, _, h => by cases h; exact .int _
  | .str _, _, h => by cases h; exact .str _
  | .lst, _, h => by
    cases h with
    | lst n e => exact .lst n (k _ _ e)
  | .tup ts, _, h => by
    cases h with
    | tup e ha => exact .tup (k _ _ e) (TgAll.same k ts _ ha)
  | .dct, _, h => by
    cases h with
    | dct n e => exact .dct n (k _ _ e)
theorem TgAll.same (k : Same H H') : ∀ (ts : List Tg) (vs : List V), TgAll p H vs ts → TgAll p H' vs ts
  | [], _, h => by cases h; exact .nil
  | t :: ts, _, h => by
    cases h with
    | cons h1 h2 => exact .cons (TgAt.same k t _ h1) (TgAll.same k ts _ h2)
end
mutual
/-- a list that changes stays a list -/
theorem TgAt.relist {M : Addr} {xs ys : List V} (e : H M = some (.lst xs)) : ∀ (t : Tg) (v : V), TgAt p H v t → TgAt p (upd H M (.lst ys)) v t
  | .non, _, h => by cases h; exact .non
  | .bl _, _, h => by cases h; exact .bl _
  | .int _, _, h => by cases h; exact .int _
  | .str _, _, h => by cases h; exact .str _
  | .lst, _, h => by
    cases h with
    | @lst a zs n e' =>
      by_cases ha : a = M
      · subst ha
        exact .lst n upd_same
      · exact .lst n (by rw [upd_ne ha]; exact e')
  | .tup ts, _, h => by
    cases h with
    | tup e' ha => exact .tup (by rw [upd_ne fun z => by rw [z, e] at e'; cases e']; exact e') (TgAll.relist e ts _ ha)
  | .dct, _, h => by
    cases h with
    | dct n e' => exact .dct n (by rw [upd_ne fun z => by rw [z, e] at e'; cases e']; exact e')
theorem TgAll.relist {M : Addr} {xs ys : List V} (e : H M = some (.lst xs)) : ∀ (ts : List Tg) (vs : List V), TgAll p H vs ts → TgAll p (upd H M (.lst ys)) vs ts
  | [], _, h => by cases h; exact .nil
  | t :: ts, _, h => by
    cases h with
    | cons h1 h2 => exact .cons (TgAt.relist e t _ h1) (TgAll.relist e ts _ h2)
end
theorem TgAll.length : ∀ {vs : List V} {ts : List Tg}, TgAll p H vs ts → vs.length = ts.length
  | _, [], h => by cases h; rfl
  | _, t :: ts, h => by
    cases h with
    | cons h1 h2 => rw [List.length_cons, List.length_cons, TgAll.length h2]
theorem TgAll.get : ∀ {vs : List V} {ts : List Tg} {i : Nat} {v : V}, TgAll p H vs ts → vs[i]? = some v → ∃ t, ts[i]? = some t ∧ TgAt p H v t
  | _, [], i, v, h, e => by
    cases h
    cases e
  | _, t :: ts, i, v, h, e => by
    cases h with
    | cons h1 h2 =>
      cases i with
      | zero =>
        injection e with e
        subst e
        exact ⟨t, rfl, h1⟩
      | succ i => exact TgAll.get (i := i) h2 (by simpa using e)
theorem TgAll.append : ∀ {vs : List V} {ts : List Tg} {vs' : List V} {ts' : List Tg}, TgAll p H vs ts → TgAll p H vs' ts' → TgAll p H (vs ++ vs') (ts ++ ts')
  | _, [], _, _, h, h' => by
    cases h
    exact h'
  | _, t :: ts, _, _, h, h' => by
    cases h with
    | cons h1 h2 => exact .cons h1 (TgAll.append h2 h')
theorem TgAll.take : ∀ {vs : List V} {ts : List Tg} (n : Nat), TgAll p H vs ts → TgAll p H (vs.take n) (ts.take n)
  | _, _, 0, _ => .nil
  | _, [], n + 1, h => by
    cases h
    exact .nil
  | _, t :: ts, n + 1, h => by
    cases h with
    | cons h1 h2 => exact .cons h1 (TgAll.take n h2)
theorem TgAll.drop : ∀ {vs : List V} {ts : List Tg} (n : Nat), TgAll p H vs ts → TgAll p H (vs.drop n) (ts.drop n)
  | _, _, 0, h => h
  | _, [], n + 1, h => by
    cases h
    exact .nil
  | _, t :: ts, n + 1, h => by
    cases h with
    | cons h1 h2 => exact TgAll.drop n h2
theorem TgAll.reverse : ∀ {vs : List V} {ts : List Tg}, TgAll p H vs ts → TgAll p H vs.reverse ts.reverse
  | _, [], h => by
    cases h
    exact .nil
  | _, t :: ts, h => by
    cases h with
    | cons h1 h2 =>
      rw [List.reverse_cons, List.reverse_cons]
      exact (TgAll.reverse h2).append (.cons h1 .nil)
theorem TgAll.cut {vs : List V} {ts : List Tg} (h : TgAll p H vs ts) (lo hi : Option Int) : ∃ ts', TgAll p H (cutV vs lo hi) ts' := ⟨_, (h.drop _).take _⟩
theorem TgAll.rep {vs : List V} {ts : List Tg} (h : TgAll p H vs ts) : ∀ k : Nat, TgAll p H (List.replicate k vs).flatten (List.replicate k ts).flatten
  | 0 => .nil
  | k + 1 => by
    rw [List.replicate_succ, List.replicate_succ, List.flatten_cons, List.flatten_cons]
    exact h.append (h.rep k)
theorem TgAll.ints : ∀ ns : List Int, TgAll p H (ns.map V.int) (ns.map Tg.int)
  | [] => .nil
  | n :: r => .cons (.int n) (TgAll.ints r)
theorem TgAll.mk {vs : List V} (h : ∀ v ∈ vs, ∃ t, TgAt p H v t) : ∃ ts, TgAll p H vs ts := by
  induction vs with
  | nil => exact ⟨[], .nil⟩
  | cons v r ih =>
    obtain ⟨t, ht⟩ := h v List.mem_cons_self
    obtain ⟨ts, hts⟩ := ih fun x hx => h x (List.mem_cons_of_mem _ hx)
    exact ⟨t :: ts, .cons ht hts⟩
theorem TgAll.mem {vs : List V} {ts : List Tg} (h : TgAll p H vs ts) {v : V} (hv : v ∈ vs) : ∃ t, t ∈ ts ∧ TgAt p H v t := by
  obtain ⟨i, hi, e⟩ := List.mem_iff_getElem.mp hv
  obtain ⟨t, ht, hat⟩ := h.get (i := i) (by rw [List.getElem?_eq_getElem hi, e])
  exact ⟨t, List.mem_of_getElem? ht, hat⟩
theorem TgAt.knd {v : V} {t : Tg} (h : TgAt p H v t) : Knd H v := by
  cases h with
  | non => exact .non
  | bl b => exact .bl b
  | int i => exact .int i
  | str x => exact .str x
  | lst _ e => exact .lst e
  | tup e _ => exact .tup e
  | dct _ e => exact .dct e
def Tg.ty : Tg → String
  | .non => "NoneType" | .bl _ => "bool" | .int _ => "int" | .str _ => "str" | .lst => "list" | .tup _ => "tuple" | .dct => "dict"
theorem TgAt.ty {v : V} {t : Tg} (h : TgAt p H v t) : TyX K H v (.type t.ty) := by
  cases h with
  | non => exact .base .non
  | bl b => exact .base (.bl b)
  | int i => exact .base (.int i)
  | str x => exact .base (.str x)
  | lst _ e => exact .base (.lst e)
  | tup e _ => exact .base (.tup e)
  | dct _ e => exact .base (.dK e)
def Tg.isI : Tg → Bool | .int _ => true | .bl _ => true | _ => false
def Tg.isB : Tg → Bool | .bl _ => true | _ => false
def Tg.isT : Tg → Bool | .tup _ => true | _ => false
def Tg.isS : Tg → Bool | .str _ => true | _ => false
def Tg.isL : Tg → Bool | .lst => true | _ => false
theorem Tg.kI (t : Tg) : kitB t.ty "int" = some t.isI := by cases t <;> (simp only [Tg.ty, Tg.isI]; decide +kernel)
theorem Tg.kB (t : Tg) : kitB t.ty "bool" = some t.isB := by cases t <;> (simp only [Tg.ty, Tg.isB]; decide +kernel)
theorem Tg.kT (t : Tg) : kitB t.ty "tuple" = some t.isT := by cases t <;> (simp only [Tg.ty, Tg.isT]; decide +kernel)
theorem Tg.kS (t : Tg) : kitB t.ty "str" = some t.isS := by cases t <;> (simp only [Tg.ty, Tg.isS]; decide +kernel)
theorem Tg.kL (t : Tg) : kitB t.ty "list" = some t.isL := by cases t <;> (simp only [Tg.ty, Tg.isL]; decide +kernel)
theorem TgAt.tupOf {v : V} {t : Tg} (h : TgAt p H v t) (ht : t.isT = true) : ∃ a xs ts, v = .ref a ∧ t = .tup ts ∧ H a = some (.tup xs) ∧ TgAll p H xs ts := by
  cases h with
  | tup e ha => exact ⟨_, _, _, rfl, rfl, e, ha⟩
  | _ => cases ht
end
end Deed

namespace Deed
open PySem PySem.Spec PyProof.Rows L2 LamX
end Deed

namespace Deed
open PySem PySem.Spec PyProof.Rows L2 LamX
section
variable {P : Program} {w : World} {K : PySem.W.Frag} {mg : Str → Option Value} {base : Heap}
abbrev CDrw (P : Program) (w : World) (K : PySem.W.Frag) (mg : Str → Option Value) (base : Heap) (k : Nat) := CallOk P w K mg base k "_law_draw" ["_law_pen_here", "_law_bound"] spDraw
def spLThing (n : Nat) : Sp := fun vs H Q _ => ∃ (p : Addr) (deep : Int), vs = [.ref p, .int deep] ∧ PenAt H p ∧ 0 ≤ deep ∧ deep < n ∧ ∀ v H', Kp p H H' → PenAt H' p → (∃ t, TgAt p H' v t) → Q v H'
end
end Deed

namespace Deed
open PySem PySem.Spec PyProof.Rows L2
/-! ### t[::-1] of a tuple -/
theorem fm_congr {α β : Type} {f g : α → Option β} : ∀ {l : List α}, (∀ x ∈ l, f x = g x) → l.filterMap f = l.filterMap g
  | [], _ => rfl
  | a :: l, h => by rw [List.filterMap_cons, List.filterMap_cons, h a List.mem_cons_self, fm_congr fun x hx => h x (List.mem_cons_of_mem _ hx)]
section
variable {prog : Program} {w : World} {A : Around} {E : Value → Shared → Prop} {s : Shared}
theorem revPick (xs : Array Value) : ((List.range xs.size).filterMap fun (m : Nat) => xs[(((xs.size : Int) - 1) + (m : Int) * (-1)).toNat]?).toArray = xs.toList.reverse.toArray := by
  rw [← PySem.W.krv_pick]
  unfold slicePick
  rw [PySem.W.krv_bounds]
  show _ = ((sliceRange ((xs.size : Int) - 1) (-1) (-1)).filterMap (xs[·]?)).toArray
  rw [PySem.W.krv_sliceRange, List.filterMap_map]
  congr 1
  refine fm_congr fun m hm => ?_
  have := List.mem_range.mp hm
  show xs[(((xs.size : Int) - 1) + (m : Int) * (-1)).toNat]? = xs[xs.size - 1 - m]?
  congr 1
  omega
theorem sliceApplied_rev {sl : Addr} {vs : Value} {n : Nat} {Q : Int × Int × Nat → Shared → Prop} (hs : s.heap.IsSliceOf sl .none .none vs) (ps : IsPart vs (some (-1)))
    (h : Q ((n : Int) - 1, -1, n) s) : wpAny (model prog w) A (Builtin.Slice.sliceApplied (.ref sl) (pure (n : Int))) Q E s := by
  obtain ⟨os, hos, hcs, hds⟩ := id hs
  unfold Builtin.Slice.sliceApplied Builtin.Slice.sliceFields
  refine wpAny_bind (wpAny_bind (wpAny_field hos hds (x := .none) rfl (wpAny_bind (wpAny_field hos hds (x := .none) rfl (wpAny_bind (wpAny_field hos hds (x := vs) rfl (wpAny_pure ?_)))))))
  refine wpAny_bind (HT.slicePart_ ps ?_)
  show wpAny _ _ (if ((-1 : Int) == 0) = true then _ else _) _ _ s
  rw [if_neg (by decide)]
  refine wpAny_bind (HT.slicePart_ .none (wpAny_bind (HT.slicePart_ .none (wpAny_bind (wpAny_pure ?_)))))
  show wpAny _ _ (match Builtin.Slice.sliceAdjust none none (-1) (n : Int) with | (lo, hi) => pure (lo, (-1 : Int), Builtin.Slice.slicePlaces lo hi (-1))) _ _ s
  have e : Builtin.Slice.sliceAdjust none none (-1) (n : Int) = ((n : Int) - 1, -1) := by
    unfold Builtin.Slice.sliceAdjust
    simp
  rw [e]
  show wpAny _ _ (pure ((n : Int) - 1, (-1 : Int), Builtin.Slice.slicePlaces ((n : Int) - 1) (-1) (-1))) _ _ s
  have e2 : Builtin.Slice.slicePlaces ((n : Int) - 1) (-1) (-1) = n := by
    unfold Builtin.Slice.slicePlaces
    simp
    omega
  rw [e2]
  exact wpAny_pure h
theorem getItem_tuple_rev {t sl : Addr} {items : Array Value} {vs : Value} {Q : Value → Shared → Prop} (ht : IsTup s.heap t items) (hs : s.heap.IsSliceOf sl .none .none vs) (ps : IsPart vs (some (-1)))
    (h : Q (.ref s.heap.objs.size) { s with heap := s.heap.push { cls := .type "tuple", data := .seq items.toList.reverse.toArray } })
    (hsz : items.size ≤ sizeLine) : wpAny (model prog w) A (getItem (.ref t) (.ref sl)) Q E s := by
  have htake : sizeOk (.seq items.toList.reverse.toArray) := by
    show items.toList.reverse.toArray.size ≤ sizeLine
    rw [List.size_toArray, List.length_reverse, Array.length_toList]
    omega
  obtain ⟨os, hos, hcs, hds⟩ := id hs
  have hTs : s.TypeIs (.ref sl) "slice" := ⟨os, hos, hcs⟩
  unfold getItem
  try with_reducible refine wpAny_holding ?_
  first | refine wpAny_bind (wpAny_pure ?_) | skip
  refine wpAny_bind (wpAny_sequenceKey ht.typeIs (by decide) ?_)
  refine wpAny_bind (wpAny_callSpecial?_slot (name := Str.ofString "__getitem__") ht.typeIs PyProof.Rows.slot_tuple_getitem
    (wpAny_call_entry PyProof.Rows.slot_tuple_getitem ht.typeIs entry_tuple_getitem ?_ (args_tuple_getitem _ _)))
  show wpAny _ _ (Builtin.Tuple.tupleItemsOf (.ref t) >>= _) _ _ s
  refine wpAny_bind (tupleItemsOf_ ht ?_)
  refine wpAny_bind (wpAny_typeOf hTs ?_)
  rw [if_pos (by decide)]
  refine wpAny_bind (sliceApplied_rev hs ps ?_)
  have hno : ¬ ((((items.size : Int) - 1) == 0 && (-1 : Int) == 1 && items.size == items.size) = true) := by
    intro q
    rw [Bool.and_eq_true, Bool.and_eq_true] at q
    exact absurd q.1.2 (by decide)
  show wpAny _ _ (if (((items.size : Int) - 1) == 0 && (-1 : Int) == 1 && items.size == items.size) = true then _ else _) _ _ s
  rw [if_neg hno, revPick]
  first
    | exact wpAny_bind (m := Builtin.Tuple.tupleExact _) (wpAny_newObj_type (wpAny_pure ⟨_, rfl, wpAny_pure h⟩) htake)
    | exact wpAny_bind (m := Builtin.Tuple.tupleExact _) (wpAny_newObj_type (wpAny_bind (wpAny_pure (wpAny_pure ⟨_, rfl, wpAny_pure h⟩))) htake)
    | exact wpAny_bind (wpAny_bind (m := Builtin.Tuple.tupleExact _) (wpAny_newObj_type (wpAny_pure (wpAny_pure ⟨_, rfl, wpAny_pure h⟩)) htake))
    | exact wpAny_bind (wpAny_bind (m := Builtin.Tuple.tupleExact _) (wpAny_newObj_type (wpAny_pure ⟨_, rfl, wpAny_pure h⟩) htake))
end
section
variable {X : Cx}
def tRevT (K : PySem.W.Frag) (te : TE) : TE := fun σ H Q => te σ H fun x H1 => ∃ a xs, x = .ref a ∧ SqT K H1 a xs ∧ ∀ p, H1 p = none → Q (.ref p) (upd H1 p (.tup xs.reverse))
theorem pe_revT {e : Expr} {te : TE} {k : Nat} {p1 p2 p3 pos : Pos} (he : PE X e te) : PE X (.Subscript e (.Slice none none (some (.UnaryOp .USub (.Constant (.int 1) k p1) p2)) p3) pos) (tRevT X.K te) := by
  refine ⟨fun pins s σ H Q I h => ?_⟩
  refine Subscript_ (thn (he.run pins s σ H _ I h) fun v s1 ⟨x, H1, I1, r1, q1⟩ => ?_)
  obtain ⟨a, xs, ex, hx, q⟩ := q1
  subst ex
  cases r1
  have hst : PO X (some (.UnaryOp .USub (.Constant (.int 1) k p1) p2)) (tPart (tUn (rU fun i => .int (-i)) (tC (.int 1)))) := po_some (pe_un un_neg pe_int)
  refine wpAny_Slice (thn (po_none.run pins s1 σ H1 (fun o H2 => o = none ∧ H2 = H1) I1 ⟨rfl, rfl⟩) fun vl s2 ⟨l, H2, I2, pl, el, e2⟩ => ?_)
  subst el e2
  refine thn (po_none.run pins s2 σ H2 (fun o H3 => o = none ∧ H3 = H2) I2 ⟨rfl, rfl⟩) fun vu s3 ⟨u, H3, I3, pu, eu, e3⟩ => ?_
  subst eu e3
  refine thn (hst.run pins s3 σ H3 (fun o H4 => o = some (-1) ∧ H4 = H3) I3 ⟨1, rfl, -1, rfl, rfl, rfl⟩) fun vs s4 ⟨o, H4, I4, ps, eo, e4⟩ => ?_
  subst eo e4
  have I5 : Inv X pins σ H4 { s4 with heap := s4.heap.push { cls := .type "slice", data := .fields #[vl, vu, vs] } } := I4.kept (t' := s4.toks) fun b ob q => Heap.get?_push_of_some _ q
  obtain ⟨its, r, ht, hz⟩ := I5.tuple hx
  have hlen := r.length
  cases pl
  cases pu
  show wpAny (model X.prog X.w) X.A (subscriptTail e (.Slice none none (some (.UnaryOp .USub (.Constant (.int 1) k p1) p2)) p3) (.ref a) (.ref s4.heap.objs.size)) (EP X pins σ Q) X.xe { s4 with heap := s4.heap.push { cls := .type "slice", data := .fields #[.none, .none, vs] } }
  refine tail_any (ops := [.ref a, .ref s4.heap.objs.size]) ht.typeIs (PyProof.Rows.slot_tuple_getitem.lookup) ?_ (by with_unfolding_all rfl)
  refine getItem_tuple_rev ht (Heap.IsSliceOf.new _ .none .none vs) ps ?_ (by rw [List.size_toArray]; omega)
  refine ⟨.ref _, _, I5.laid (t' := s4.toks) (o := .tup xs.reverse) (fun b ob q => Heap.get?_push_of_some _ q) (Nat.le_refl _) ?_, rfl, q _ (I5.hok.fresh (Nat.le_refl _))⟩
  exact ⟨by rw [List.length_reverse]; exact hz, its.reverse, r.reverse, IsTup.new _ _⟩
end
end Deed

namespace Deed
open PySem PySem.Spec PyProof.Rows L2 LamX
def FitsN : Nat → Tg → Prop
  | 0, _ => False
  | n + 1, .tup ts => ts.length ≤ 300 ∧ ∀ t ∈ ts, FitsN n t
  | _ + 1, .str x => x.length ≤ 300
  | _ + 1, .int i => i.natAbs.log2 < 1920
  | _ + 1, _ => True
theorem TgAt.num {p : Addr} {H : Hp} {v : V} {t : Tg} {n : Nat} (h : TgAt p H v t) (hf : FitsN (n + 1) t) (hi : t.isI = true) : ∃ i, numOf v = some i ∧ i.natAbs.log2 < 1920 := by
  cases h with
  | int i => exact ⟨i, rfl, hf⟩
  | bl b => exact ⟨_, rfl, by cases b <;> decide⟩
  | _ => cases hi
theorem cutV_le (xs : List V) (lo hi : Option Int) : (cutV xs lo hi).length ≤ xs.length := cutV_length xs lo hi
section
variable {P : Program} {w : World} {K : PySem.W.Frag} {mg : Str → Option Value} {base : Heap}
def spLSpoilt (n : Nat) : Sp := fun vs H Q _ => ∃ (p : Addr) (v : V) (t : Tg), vs = [.ref p, v] ∧ PenAt H p ∧ TgAt p H v t ∧ FitsN n t ∧ ∀ v' H', Kp p H H' → PenAt H' p → (∃ t', TgAt p H' v' t') → Q v' H'
end
end Deed

namespace Deed
open PySem PySem.Spec PyProof.Rows L2 LamX
/-! ### what a thing is: yes or no -/
def Tg.toI : Tg → Int | .int i => i | _ => 0
def Tg.isW : Tg → Bool | .int _ => true | _ => false
def Tg.within (lo hi : Int) : Tg → Bool | .int i => decide (lo ≤ i) && decide (i ≤ hi) | _ => false
theorem Tg.within_int {lo hi : Int} {t : Tg} (h : t.within lo hi = true) : ∃ i, t = .int i ∧ lo ≤ i ∧ i ≤ hi := by
  cases t with
  | int i =>
    unfold Tg.within at h
    rw [Bool.and_eq_true] at h
    exact ⟨i, rfl, of_decide_eq_true h.1, of_decide_eq_true h.2⟩
  | _ => cases h
def diedT (b : Int) : Tg → Bool | .non => true | d => d.within (b + 1) 9999
def isPersonT : Tg → Bool
  | .tup [b, d] => b.within (-9999) 9999 && diedT b.toI d
  | _ => false
def isFolkT : Tg → Bool
  | .tup ts => (decide (1 ≤ ts.length) && decide (ts.length ≤ 6)) && ts.all isPersonT
  | _ => false
theorem len1 {α : Type} : ∀ {l : List α}, l.length = 1 → ∃ a, l = [a]
  | [a], _ => ⟨a, rfl⟩
  | [], h => nomatch h
  | _ :: _ :: _, h => by simp at h
theorem len2 {α : Type} : ∀ {l : List α}, l.length = 2 → ∃ a b, l = [a, b]
  | [a, b], _ => ⟨a, b, rfl⟩
  | [], h => nomatch h
  | [_], h => nomatch h
  | _ :: _ :: _ :: _, h => by simp at h
theorem len4 {α : Type} : ∀ {l : List α}, l.length = 4 → ∃ a b c d, l = [a, b, c, d]
  | [a, b, c, d], _ => ⟨a, b, c, d, rfl⟩
  | [], h => nomatch h
  | [_], h => nomatch h
  | [_, _], h => nomatch h
  | [_, _, _], h => nomatch h
  | _ :: _ :: _ :: _ :: _ :: _, h => by simp at h
theorem len6 {α : Type} : ∀ {l : List α}, 6 ≤ l.length → ∃ a b c d e f r, l = a :: b :: c :: d :: e :: f :: r
  | a :: b :: c :: d :: e :: f :: r, _ => ⟨a, b, c, d, e, f, r, rfl⟩
  | [], h => by simp at h
  | [_], h => by simp at h
  | [_, _], h => by simp at h
  | [_, _, _], h => by simp at h
  | [_, _, _, _], h => by simp at h
  | [_, _, _, _, _], h => by simp at h
def spB1 (φ : Tg → Bool) : Sp := fun vs H Q _ => ∃ (p : Addr) (v : V) (t : Tg), vs = [v] ∧ TgAt p H v t ∧ ∀ H', Same H H' → Q (.bl (φ t)) H'
theorem all_map_id {α : Type} (φ : α → Bool) (l : List α) : (l.map φ).all id = l.all φ := by
  induction l with
  | nil => rfl
  | cons a r ih => simp [ih]
theorem TgAll.at {p : Addr} {H : Hp} {xs : List V} {ts : List Tg} {i : Nat} {x : V} {y : Tg} (h : TgAll p H xs ts) (hx : xs[i]? = some x) (hy : ts[i]? = some y) : TgAt p H x y := by
  obtain ⟨t, e, ht⟩ := h.get hx
  rw [hy] at e
  injection e with e
  rw [e]
  exact ht
section
variable {P : Program} {w : World} {K : PySem.W.Frag} {mg : Str → Option Value} {base : Heap}
abbrev sIsWhole : Stmt := topS 15
abbrev nIsWhole : List Str := ["thing"]
abbrev pIsWhole : List Str := ["thing"]
theorem scIsWhole : FnScope nIsWhole pIsWhole (defScope sIsWhole) := ⟨rfl, rfl, rfl, by decide +kernel, rfl, by decide +kernel, by decide +kernel⟩
theorem ok_IsWhole {f : Addr} {fd : FuncData} {k : Nat} (F : Fun K "is_whole" "is_whole" sIsWhole f fd) (m_isinstance : mg "isinstance" = none) (m_int : mg "int" = none) (m_bool : mg "bool" = none) : FnOk P w K mg base CX0 (k + 1) f fd pIsWhole (spB1 Tg.isW) := by
  refine F.ok scIsWhole (fun vs H Q E h => ?_) (fun cdv A outer s H vs Q E hr h => ?_)
  · obtain ⟨p, v, t, rfl, _⟩ := h
    rfl
  · obtain ⟨p, v, t, rfl, hT, q⟩ := h
    refine ⟨_, pss_one (ps_ret (pe_and (pe_callB call_isi (by rfl) m_isinstance (by decide +kernel) (pa_cons (pv 0) (pa_cons (pe_bltn (v := .ty "int") (by rfl) m_int (by decide +kernel) rfl) pa_nil))) (pe_one (pe_not (pe_callB call_isi (by rfl) m_isinstance (by decide +kernel) (pa_cons (pv 0) (pa_cons (pe_bltn (v := .ty "bool") (by rfl) m_bool (by decide +kernel) rfl) pa_nil))))))), ?_⟩
    refine ⟨_, rfl, _, _, _, _, t.isI, rfl, .ty "int", hT.ty, kit_ty t.kI, _, rfl, ?_⟩
    refine ite2 (fun c => ?_) (fun c => ?_)
    · refine ⟨_, rfl, _, _, _, _, t.isB, rfl, .ty "bool", hT.ty, kit_ty t.kB, _, rfl, ?_⟩
      rw [show (!t.isB) = t.isW by cases t <;> first | rfl | cases c]
      exact q _ (same_refl _)
    · have h := q _ (same_refl _)
      have e : t.isW = false := by cases t <;> first | rfl | exact absurd rfl c
      rw [e] at h
      exact h
def spWi : Sp := fun vs H Q _ => ∃ (p : Addr) (v : V) (t : Tg) (lo hi : Int), vs = [v, .int lo, .int hi] ∧ TgAt p H v t ∧ ∀ H', Same H H' → Q (.bl (t.within lo hi)) H'
abbrev sIsWithin : Stmt := topS 16
abbrev nIsWithin : List Str := ["thing", "low", "high"]
abbrev pIsWithin : List Str := ["thing", "low", "high"]
theorem scIsWithin : FnScope nIsWithin pIsWithin (defScope sIsWithin) := ⟨rfl, rfl, rfl, by decide +kernel, rfl, by decide +kernel, by decide +kernel⟩
theorem ok_IsWithin {f : Addr} {fd : FuncData} {k : Nat} (F : Fun K "is_within" "is_within" sIsWithin f fd) (C_is_whole : CallOk P w K mg base k "is_whole" pIsWhole (spB1 Tg.isW)) : FnOk P w K mg base CX0 (k + 1) f fd pIsWithin spWi := by
  refine F.ok scIsWithin (fun vs H Q E h => ?_) (fun cdv A outer s H vs Q E hr h => ?_)
  · obtain ⟨p, v, t, lo, hi, rfl, _⟩ := h
    rfl
  · obtain ⟨p, v, t, lo, hi, rfl, hT, q⟩ := h
    refine ⟨_, pss_one (ps_ret (pe_and (pe_call C_is_whole.ok hr (by rfl) C_is_whole.g C_is_whole.kp C_is_whole.b .nil pass0 (pa_cons (pv 0) pa_nil)) (pe_one (pe_chain op_le op_le (pv 1) (pv 0) (pv 2))))), ?_⟩
    refine ⟨_, rfl, p, v, t, rfl, hT, fun H1 s1 => ⟨_, rfl, ?_⟩⟩
    have q1 := q _ s1
    cases hT with
    | int i =>
      refine iteT ?_
      refine ⟨_, rfl, _, rfl, _, _, rfl, rfl, _, rfl, ?_⟩
      have q2 : Q (.bl (decide (lo ≤ i) && decide (i ≤ hi))) H1 := q1
      refine ite2 (fun c => ?_) (fun c => ?_)
      · have c' : decide (lo ≤ i) = true := c
        rw [c', Bool.true_and] at q2
        exact ⟨_, rfl, _, _, rfl, rfl, q2⟩
      · have c' : decide (lo ≤ i) = false := Bool.eq_false_iff.mpr c
        rw [c', Bool.false_and] at q2
        exact q2
    | _ => exact iteF q1
abbrev sIsDayG : Stmt := topS 17
abbrev nIsDayG : List Str := ["thing"]
abbrev pIsDayG : List Str := ["thing"]
theorem scIsDayG : FnScope nIsDayG pIsDayG (defScope sIsDayG) := ⟨rfl, rfl, rfl, by decide +kernel, rfl, by decide +kernel, by decide +kernel⟩
theorem ok_IsDayG {f : Addr} {fd : FuncData} {k : Nat} (F : Fun K "is_day" "is_day" sIsDayG f fd) (C_is_within : CallOk P w K mg base k "is_within" pIsWithin spWi) (iLAST_DAY : MgInt mg "LAST_DAY" 9999) : FnOk P w K mg base CX0 (k + 1) f fd pIsDayG (spB1 (Tg.within 0 9999)) := by
  refine F.ok scIsDayG (fun vs H Q E h => ?_) (fun cdv A outer s H vs Q E hr h => ?_)
  · obtain ⟨p, v, t, rfl, _⟩ := h
    rfl
  · obtain ⟨p, v, t, rfl, hT, q⟩ := h
    refine ⟨_, pss_one (ps_ret (pe_call C_is_within.ok hr (by rfl) C_is_within.g C_is_within.kp C_is_within.b .nil pass0 (pa_cons (pv 0) (pa_cons pe_int (pa_cons (pe_num (by rfl) iLAST_DAY) pa_nil))))), ?_⟩
    exact ⟨_, rfl, p, v, t, 0, 9999, rfl, hT, q⟩
abbrev sIsPerson : Stmt := topS 19
abbrev nIsPerson : List Str := ["thing", "born", "died"]
abbrev pIsPerson : List Str := ["thing"]
theorem scIsPerson : FnScope nIsPerson pIsPerson (defScope sIsPerson) := ⟨rfl, rfl, rfl, by decide +kernel, rfl, by decide +kernel, by decide +kernel⟩
theorem ok_IsPerson {f : Addr} {fd : FuncData} {k : Nat} (F : Fun K "is_person" "is_person" sIsPerson f fd) (C_is_within : CallOk P w K mg base k "is_within" pIsWithin spWi) (m_isinstance : mg "isinstance" = none) (m_tuple : mg "tuple" = none) (m_len : mg "len" = none) (iLAST_DAY : MgInt mg "LAST_DAY" 9999) : FnOk P w K mg base CX0 (k + 1) f fd pIsPerson (spB1 isPersonT) := by
  refine F.ok scIsPerson (fun vs H Q E h => ?_) (fun cdv A outer s H vs Q E hr h => ?_)
  · obtain ⟨p, v, t, rfl, _⟩ := h
    rfl
  · obtain ⟨p, v, t, rfl, hT, q⟩ := h
    have nd := scIsPerson.nd
    refine ⟨_, pss_cons (ps_if (PW.pt (pw_or (pt_not (pt_val (pe_callB call_isi (by rfl) m_isinstance (by decide +kernel) (pa_cons (pv 0) (pa_cons (pe_bltn (v := .ty "tuple") (by rfl) m_tuple (by decide +kernel) rfl) pa_nil))))) (pw_or1 (pt_cmpR op_ne (pe_callB call_len_seq (by rfl) m_len (by decide +kernel) (pa_cons (pv 0) pa_nil)) pe_int (nomark _))))) (pss_one (ps_ret pe_bl)) pss_nil)
      (pss_cons (ps_asg (pv 0) (pg_tup (by rfl) (pgs_cons (pg_name (i := 1) nd rfl (.inl rfl)) (pgs_cons (pg_name (i := 2) nd rfl (.inl rfl)) pgs_nil))))
      (pss_cons (ps_if (pt_not (pt_val (pe_call C_is_within.ok hr (by rfl) C_is_within.g C_is_within.kp C_is_within.b .nil pass0 (pa_cons (pv 1) (pa_cons (pe_un un_neg (pe_num (by rfl) iLAST_DAY)) (pa_cons (pe_num (by rfl) iLAST_DAY) pa_nil)))))) (pss_one (ps_ret pe_bl)) pss_nil)
      (pss_one (ps_ret (pe_or (pe_cmpR op_isN (pv 2) pe_non (nomark _)) (pe_one (pe_call C_is_within.ok hr (by rfl) C_is_within.g C_is_within.kp C_is_within.b .nil pass0 (pa_cons (pv 2) (pa_cons (pe_op op_add (pv 1) pe_int) (pa_cons (pe_num (by rfl) iLAST_DAY) pa_nil)))))))))), ?_⟩
    refine ⟨_, rfl, _, _, _, _, t.isT, rfl, .ty "tuple", hT.ty, kit_ty t.kT, _, rfl, ?_⟩
    cases hc : t.isT with
    | false =>
      refine iteT ?_
      have h := q _ (same_refl _)
      have e : isPersonT t = false := by cases t <;> first | rfl | cases hc
      rw [e] at h
      exact h
    | true =>
      refine iteF ?_
      obtain ⟨a, xs, ts, rfl, rfl, ea, hts⟩ := hT.tupOf hc
      refine ⟨_, rfl, a, _, rfl, .inr (SqT.of ea), rfl, _, rfl, ?_⟩
      have hlen := hts.length
      by_cases h2 : ts.length = 2
      · rw [show decide (V.int (xs.length : Nat) = V.int 2) = true from decide_eq_true (by rw [hlen, h2]; rfl)]
        refine iteF ?_
        obtain ⟨xb, xd, rfl⟩ := len2 (hlen.trans h2)
        obtain ⟨tb, td, rfl⟩ := len2 h2
        cases hts with
        | cons hb h' =>
          cases h' with
          | cons hd _ =>
            refine ⟨_, rfl, a, [xb, xd], rfl, SqT.of ea, rfl, xb, [xd], rfl, xd, [], rfl, rfl, ?_⟩
            refine ⟨_, rfl, _, rfl, p, xb, tb, -9999, 9999, rfl, hb, fun H1 s1 => ⟨_, rfl, ?_⟩⟩
            have q1 : ∀ H', Same H H' → Q (.bl (tb.within (-9999) 9999 && diedT tb.toI td)) H' := q
            cases hw : tb.within (-9999) 9999 with
            | false =>
              refine iteT ?_
              have h := q1 _ s1
              rw [hw] at h
              exact h
            | true =>
              refine iteF ?_
              obtain ⟨i, rfl, hi0, hi1⟩ := Tg.within_int hw
              cases hb
              rw [hw, Bool.true_and] at q1
              refine ⟨_, rfl, ?_⟩
              by_cases hn : xd = .non
              · subst hn
                cases hd
                refine ⟨rfl, _, rfl, iteT ?_⟩
                exact q1 _ s1
              · have hne : td ≠ .non := fun z => by
                  subst z
                  cases hd
                  exact hn rfl
                have e : diedT i td = td.within (i + 1) 9999 := by cases td <;> first | rfl | exact absurd rfl hne
                have hd1 := TgAt.same s1 _ _ hd
                refine ⟨by cases xd <;> rfl, _, rfl, ?_⟩
                rw [show decide (xd = V.non) = false from decide_eq_false hn]
                refine iteF ?_
                refine ⟨_, rfl, _, rfl, _, _, rfl, rfl, p, xd, td, i + 1, 9999, rfl, hd1, fun H2 s2 => ?_⟩
                have h := q1 _ (s1.trans s2)
                rw [show (Tg.int i).toI = i from rfl, e] at h
                exact h
      · rw [show decide (V.int (xs.length : Nat) = V.int 2) = false from decide_eq_false fun z => h2 (by injection z with z; omega)]
        refine iteT ?_
        have h := q _ (same_refl _)
        have e : isPersonT (.tup ts) = false := by
          match ts, h2 with
          | [], _ => rfl
          | [_], _ => rfl
          | [_, _], h2 => exact absurd rfl h2
          | _ :: _ :: _ :: _, _ => rfl
        rw [e] at h
        exact h
abbrev sIsFolkG : Stmt := topS 20
abbrev nIsFolkG : List Str := ["thing", "person"]
abbrev pIsFolkG : List Str := ["thing"]
theorem scIsFolkG : FnScope nIsFolkG pIsFolkG (defScope sIsFolkG) := ⟨rfl, rfl, rfl, by decide +kernel, rfl, by decide +kernel, by decide +kernel⟩
theorem ok_IsFolkG {f : Addr} {fd : FuncData} {k : Nat} (F : Fun K "is_folk" "is_folk" sIsFolkG f fd) (C_is_person : CallOk P w K mg base k "is_person" pIsPerson (spB1 isPersonT)) (m_isinstance : mg "isinstance" = none) (m_tuple : mg "tuple" = none) (m_len : mg "len" = none) (m_all : mg "all" = none) (iMOST_FOLK : MgInt mg "MOST_FOLK" 6) : FnOk P w K mg base CX0 (k + 1) f fd pIsFolkG (spB1 isFolkT) := by
  refine F.ok scIsFolkG (fun vs H Q E h => ?_) (fun cdv A outer s H vs Q E hr h => ?_)
  · obtain ⟨p, v, t, rfl, _⟩ := h
    rfl
  · obtain ⟨p, v, t, rfl, hT, q⟩ := h
    have nd := scIsFolkG.nd
    refine ⟨_, pss_cons (ps_if (PW.pt (pw_or (pt_not (pt_val (pe_callB call_isi (by rfl) m_isinstance (by decide +kernel) (pa_cons (pv 0) (pa_cons (pe_bltn (v := .ty "tuple") (by rfl) m_tuple (by decide +kernel) rfl) pa_nil))))) (pw_or1 (pt_not (pt_chain op_le op_le pe_int (pe_callB call_len_seq (by rfl) m_len (by decide +kernel) (pa_cons (pv 0) pa_nil)) (pe_num (by rfl) iMOST_FOLK)))))) (pss_one (ps_ret pe_bl)) pss_nil)
      (pss_one (ps_ret (pe_callB (cr_all rfl) (by rfl) m_all (by decide +kernel) (pa_cons (pe_lc (own := [("person", 1)]) (g := gName 1) (by rfl) nd (pi_tup (pv 0)) (blkOk_by (own := [("person", 1)]) (N := nIsFolkG) (sc := defScope sIsFolkG) (by decide +kernel)) (fun _ _ _ _ _ => (pg_name (i := 1) nd rfl (.inl rfl))) (fun _ _ _ _ _ => pts_nil)
          (fun _ _ _ _ _ => (pe_call C_is_person.ok hr (by rfl) C_is_person.g C_is_person.kp C_is_person.b .nil pass0 (pa_cons (pv 1) pa_nil)))) pa_nil)))), ?_⟩
    refine ⟨_, rfl, _, _, _, _, t.isT, rfl, .ty "tuple", hT.ty, kit_ty t.kT, _, rfl, ?_⟩
    cases hc : t.isT with
    | false =>
      refine iteT ?_
      have h := q _ (same_refl _)
      have e : isFolkT t = false := by cases t <;> first | rfl | cases hc
      rw [e] at h
      exact h
    | true =>
      refine iteF ?_
      obtain ⟨a, xs, ts, rfl, rfl, ea, hts⟩ := hT.tupOf hc
      have hlen := hts.length
      refine ⟨_, rfl, a, _, rfl, .inr (SqT.of ea), _, _, rfl, rfl, _, rfl, ?_⟩
      have q1 : ∀ H', Same H H' → Q (.bl ((decide (1 ≤ ts.length) && decide (ts.length ≤ 6)) && ts.all isPersonT)) H' := q
      by_cases h1 : 1 ≤ ts.length
      · rw [decide_eq_true (show (1 : Int) ≤ (xs.length : Nat) by omega)]
        refine iteT ?_
        refine ⟨_, _, rfl, rfl, _, rfl, ?_⟩
        by_cases h6 : ts.length ≤ 6
        · rw [decide_eq_true (show ((xs.length : Nat) : Int) ≤ 6 by omega)]
          refine iteF ?_
          rw [decide_eq_true h1, decide_eq_true h6] at q1
          refine ⟨_, rfl, a, rfl, ⟨_, SqT.of ea⟩, fun M nM => ?_⟩
          refine lc_sameM (walk_tup (xs := xs)) ts (fun y => .bl (isPersonT y)) hlen.symm (by omega) nM (fun H s => SqT.of (s _ _ ea)) ?_ ?_
          · rintro i y x H2' H2 hy s2 ⟨rfl, hx⟩ Q1 q1'
            exact ⟨rfl, _, rfl, p, x, y, rfl, TgAt.same s2 _ _ (hts.at hx hy), fun H3 s3 => q1' _ s3⟩
          intro H2 s2 eM
          refine ⟨M, ts.map isPersonT, rfl, SqL.of (by rw [eM, List.map_map]; rfl), ?_⟩
          rw [all_map_id]
          exact q1 _ s2
        · rw [decide_eq_false (show ¬ ((xs.length : Nat) : Int) ≤ 6 by omega)]
          refine iteT ?_
          rw [decide_eq_true h1, decide_eq_false h6] at q1
          exact q1 _ (same_refl _)
      · rw [decide_eq_false (show ¬ (1 : Int) ≤ (xs.length : Nat) by omega)]
        refine ⟨_, rfl, iteT ?_⟩
        rw [decide_eq_false h1] at q1
        exact q1 _ (same_refl _)
end
end Deed

namespace Deed
open PySem PySem.Spec PyProof.Rows L2 LamX RZ
theorem walk_zipG {K : PySem.W.Frag} {a b : Addr} {xs ys : List V} {n : Nat} (hn : n = min xs.length ys.length) : Walk (ItzT K a b) n (fun H => SqT K H a xs ∧ SqT K H b ys) (YPair (fun i => xs[i]?) (fun i => ys[i]?)) := by
  subst hn
  refine ⟨fun i _ hi q => ?_, fun _ q => ⟨xs, ys, q.1, q.2, by omega⟩, fun i H v H' _ q y => ?_⟩
  · have h1 : i < xs.length := by omega
    have h2 : i < ys.length := by omega
    exact ⟨xs, ys, xs[i], ys[i], q.1, q.2, by simp [h1], by simp [h2]⟩
  · obtain ⟨T, x, z, h1, h2, h3, h4, h5⟩ := y
    exact ⟨T, x, z, h1, h2, h3, h4 xs q.1, h5 ys q.2⟩
theorem cutDropG {α : Type} (f : α → V) (l : List α) (m : Nat) : cutV (l.map f) (some (m : Int)) none = (l.drop m).map f := by
  unfold cutV
  rw [HT.sIx_none, HT.sIx_nat, List.length_map, ← List.map_drop, ← List.map_take]
  congr 1
  by_cases h : m ≤ l.length
  · rw [Nat.min_eq_left h, List.take_of_length_le (by rw [List.length_drop]; omega)]
  · rw [Nat.min_eq_right (by omega), List.drop_of_length_le (by omega), List.drop_of_length_le (by omega), List.take_nil]
def ltAt (ns : List Int) (j : Nat) : Bool := decide ((ns[j]?).getD 0 < (ns[j + 1]?).getD 0)
def risI (ns : List Int) : Bool := (List.range (ns.length - 1)).all (ltAt ns)
theorem risI_iff (ns : List Int) : risI ns = true ↔ ns.Pairwise (· < ·) := by
  unfold risI
  rw [List.all_eq_true]
  constructor
  · intro h
    have adj : ∀ j (h1 : j + 1 < ns.length), ns[j] < ns[j + 1] := fun j h1 => by
      have := of_decide_eq_true (h j (List.mem_range.mpr (by omega)))
      rw [List.getElem?_eq_getElem (by omega), List.getElem?_eq_getElem h1] at this
      exact this
    have step : ∀ (d i : Nat) (h1 : i + d + 1 < ns.length), ns[i] < ns[i + d + 1] := fun d => by
      induction d with
      | zero => exact fun i h1 => adj i h1
      | succ d ih =>
        intro i h1
        have a1 := ih i (by omega)
        have a2 := adj (i + d + 1) (by omega)
        have : ns[i + (d + 1) + 1] = ns[i + d + 1 + 1] := by congr 1
        omega
    refine List.pairwise_iff_getElem.mpr fun i j hi hj hij => ?_
    have := step (j - i - 1) i (by omega)
    have e : ns[i + (j - i - 1) + 1]'(by omega) = ns[j] := by congr 1; omega
    omega
  · intro h j hj
    have hj := List.mem_range.mp hj
    have := List.pairwise_iff_getElem.mp h j (j + 1) (by omega) (by omega) (by omega)
    unfold ltAt
    rw [List.getElem?_eq_getElem (by omega), List.getElem?_eq_getElem (by omega)]
    exact decide_eq_true this
def risT (most limit : Int) : Tg → Bool
  | .tup ts => decide ((ts.length : Int) ≤ most) && (ts.all (Tg.within 0 (limit - 1)) && risI (ts.map Tg.toI))
  | _ => false
theorem TgAll.ofInts {p : Addr} {H : Hp} : ∀ {xs : List V} {ts : List Tg} {lo hi : Int}, TgAll p H xs ts → ts.all (Tg.within lo hi) = true → xs = (ts.map Tg.toI).map V.int ∧ ts = (ts.map Tg.toI).map Tg.int
  | _, [], _, _, h, _ => by
    cases h
    exact ⟨rfl, rfl⟩
  | _, t :: ts, lo, hi, h, ha => by
    rw [List.all_cons, Bool.and_eq_true] at ha
    cases h with
    | cons h1 h2 =>
      obtain ⟨e1, e2⟩ := TgAll.ofInts h2 ha.2
      obtain ⟨i, rfl, _⟩ := Tg.within_int ha.1
      cases h1
      exact ⟨by rw [List.map_cons, List.map_cons, ← e1]; rfl, by rw [List.map_cons, List.map_cons, ← e2]; rfl⟩
def hasI (i : Int) : Tg → Bool
  | .tup ts => decide (i ∈ ts.map Tg.toI)
  | _ => false
def deedTailT (n num : Int) : List Tg → Bool
  | [g, t, r, w] => g.within 0 (n - 1) && (t.within 0 (n - 1) && (!decide (g.toI = t.toI) && (risT 2 num r && (risT 3 n w && (!hasI g.toI w && !hasI t.toI w)))))
  | _ => false
def actTailT (num : Int) : List Tg → Bool
  | [x] => x.within 0 (num - 1)
  | _ => false
def tailT (n num : Int) (x : Tg) (r : List Tg) : Bool := match x with
  | .str z => if z = "deed" then deedTailT n num r else decide (z ∈ [("paid" : Str), "void", "undone"]) && actTailT num r
  | _ => false
def isEntT (n : Int) : Tg → Bool
  | .tup (a :: b :: c :: d :: e :: f :: r) => a.within 0 30 && (b.within 0 9999 && (c.within 0 9999 && (d.within 0 3 && tailT n a.toI e (f :: r))))
  | _ => false
def ActWG (K : PySem.W.Frag) (mg : Str → Option Value) (a : Addr) : Prop := mg "ACT_WORDS" = some (.ref a) ∧ ∀ H : Hp, SqT K H a (([("paid" : Str), "void", "undone"] : List Str).map V.str)
def lenT : Tg → Int | .tup ts => ts.length | _ => 0
section
variable {P : Program} {w : World} {K : PySem.W.Frag} {mg : Str → Option Value} {base : Heap}
abbrev sIsRisG : Stmt := topS 21
abbrev nIsRisG : List Str := ["things", "ahead", "behind"]
abbrev pIsRisG : List Str := ["things"]
theorem scIsRisG : FnScope nIsRisG pIsRisG (defScope sIsRisG) := ⟨rfl, rfl, rfl, by decide +kernel, rfl, by decide +kernel, by decide +kernel⟩
def spRisG : Sp := fun vs H Q _ => ∃ (t : Addr) (ns : List Int), vs = [.ref t] ∧ H t = some (.tup (ns.map V.int)) ∧ ns.length ≤ 1000 ∧ ∀ H', Same H H' → Q (.bl (risI ns)) H'
theorem ok_IsRisG {f : Addr} {fd : FuncData} {k : Nat} (F : Fun K "is_rising" "is_rising" sIsRisG f fd) (m_zip : mg "zip" = none) (m_all : mg "all" = none) : FnOk P w K mg base CX0 (k + 1) f fd pIsRisG spRisG := by
  refine F.ok scIsRisG (fun vs H Q E h => ?_) (fun cdv A outer s H vs Q E hr h => ?_)
  · obtain ⟨t, ns, rfl, _⟩ := h
    rfl
  · obtain ⟨t, ns, rfl, et, hl, q⟩ := h
    have nd := scIsRisG.nd
    refine ⟨_, pss_one (ps_ret (pe_callB (cr_all rfl) (by rfl) m_all (by decide +kernel) (pa_cons (pe_lc (own := [("ahead", 1), ("behind", 2)]) (g := gTup K 2 (gCons (gName 1) (gCons (gName 2) gNil))) (by rfl) nd (pi_zipA (by rfl) m_zip (pa_cons (pv 0) (pa_cons (pe_slice sl_tupA (pv 0) (po_some pe_int) po_none) pa_nil))) (blkOk_by (own := [("ahead", 1), ("behind", 2)]) (N := nIsRisG) (sc := defScope sIsRisG) (by decide +kernel)) (fun _ _ _ _ _ => (pg_tup (by rfl) (pgs_cons (pg_name (i := 1) nd rfl (.inl rfl)) (pgs_cons (pg_name (i := 2) nd rfl (.inl rfl)) pgs_nil)))) (fun _ _ _ _ _ => pts_nil)
          (fun _ _ _ _ _ => (pe_cmpR op_lt (pv 1) (pv 2) (nomark _)))) pa_nil))), ?_⟩
    refine ⟨_, rfl, _, rfl, _, rfl, ?_⟩
    dsimp only [tNoPart]
    refine slA_same et fun t2 H2 s2 e2 => ?_
    have e2' : H2 t2 = some (.tup ((ns.drop 1).map V.int)) := by
      rw [e2]
      exact congrArg (fun l => some (HO.tup l)) (cutDropG V.int ns 1)
    refine ⟨t, t2, ns.map V.int, (ns.drop 1).map V.int, rfl, .inr ⟨SqT.of (s2 _ _ et), SqT.of e2', fun M nM => ?_⟩⟩
    refine lc_sameM (walk_zipG (n := ns.length - 1) (by simp)) (List.range (ns.length - 1)) (fun j => .bl (ltAt ns j)) (by rw [List.length_range]) (by rw [List.length_range]; omega) nM (fun H s => ⟨SqT.of (s _ _ (s2 _ _ et)), SqT.of (s _ _ e2')⟩) ?_ ?_
    · rintro j y x H3 H3' hy s3 ⟨T0, xx, yy, rfl, nT, rfl, hxx, hyy⟩ Q1 q1
      obtain rfl : j = y := by
        have h9 := (List.getElem?_eq_some_iff.mp hy).2
        rw [List.getElem_range] at h9
        exact h9
      dsimp only at hxx hyy
      rw [List.getElem?_map] at hxx hyy
      rw [List.getElem?_drop] at hyy
      cases hz : ns[j]? with
      | none => rw [hz] at hxx; cases hxx
      | some m =>
        rw [hz] at hxx
        injection hxx with hxx
        subst hxx
        rw [show 1 + j = j + 1 by omega] at hyy
        cases hz2 : ns[j + 1]? with
        | none => rw [hz2] at hyy; cases hyy
        | some m2 =>
          rw [hz2] at hyy
          injection hyy with hyy
          subst hyy
          have s4 := same_new nT (.tup [.int m, .int m2])
          have eT : (upd H3 T0 (.tup [.int m, .int m2])) T0 = some (.tup [.int m, .int m2]) := upd_same
          generalize (upd H3 T0 (.tup [.int m, .int m2])) = H4 at s4 eT
          refine ⟨T0, _, rfl, SqT.of eT, rfl, _, _, rfl, _, _, rfl, rfl, rfl, ?_⟩
          refine ⟨_, rfl, _, rfl, _, _, rfl, rfl, ?_⟩
          have e : ltAt ns j = decide (m < m2) := by
            unfold ltAt
            rw [hz, hz2]
            rfl
          have := q1 _ s4
          rw [e] at this
          exact this
    intro H3 s3 eM
    refine ⟨M, (List.range (ns.length - 1)).map (ltAt ns), rfl, SqL.of (by rw [eM, List.map_map]; rfl), ?_⟩
    rw [all_map_id]
    exact q _ (s2.trans s3)
abbrev sIsRisB : Stmt := topS 22
abbrev nIsRisB : List Str := ["thing", "most", "limit", "part"]
abbrev pIsRisB : List Str := ["thing", "most", "limit"]
theorem scIsRisB : FnScope nIsRisB pIsRisB (defScope sIsRisB) := ⟨rfl, rfl, rfl, by decide +kernel, rfl, by decide +kernel, by decide +kernel⟩
def spRisBG : Sp := fun vs H Q _ => ∃ (p : Addr) (v : V) (t : Tg) (most limit : Int), vs = [v, .int most, .int limit] ∧ TgAt p H v t ∧ most ≤ 1000 ∧ ∀ H', Same H H' → Q (.bl (risT most limit t)) H'
theorem ok_IsRisB {f : Addr} {fd : FuncData} {k : Nat} (F : Fun K "is_rising_below" "is_rising_below" sIsRisB f fd) (C_is_within : CallOk P w K mg base k "is_within" pIsWithin spWi) (C_is_rising : CallOk P w K mg base k "is_rising" pIsRisG spRisG) (m_isinstance : mg "isinstance" = none) (m_tuple : mg "tuple" = none) (m_len : mg "len" = none) (m_all : mg "all" = none) : FnOk P w K mg base CX0 (k + 1) f fd pIsRisB spRisBG := by
  refine F.ok scIsRisB (fun vs H Q E h => ?_) (fun cdv A outer s H vs Q E hr h => ?_)
  · obtain ⟨p, v, t, most, limit, rfl, _⟩ := h
    rfl
  · obtain ⟨p, v, t, most, limit, rfl, hT, hm, q⟩ := h
    have nd := scIsRisB.nd
    refine ⟨_, pss_cons (ps_if (PW.pt (pw_or (pt_not (pt_val (pe_callB call_isi (by rfl) m_isinstance (by decide +kernel) (pa_cons (pv 0) (pa_cons (pe_bltn (v := .ty "tuple") (by rfl) m_tuple (by decide +kernel) rfl) pa_nil))))) (pw_or1 (pt_cmpR op_gt (pe_callB call_len_seq (by rfl) m_len (by decide +kernel) (pa_cons (pv 0) pa_nil)) (pv 1) (nomark _))))) (pss_one (ps_ret pe_bl)) pss_nil)
      (pss_one (ps_ret (pe_and (pe_callB (cr_all rfl) (by rfl) m_all (by decide +kernel) (pa_cons (pe_lc (own := [("part", 3)]) (g := gName 3) (by rfl) nd (pi_tup (pv 0)) (blkOk_by (own := [("part", 3)]) (N := nIsRisB) (sc := defScope sIsRisB) (by decide +kernel)) (fun _ _ _ _ _ => (pg_name (i := 3) nd rfl (.inl rfl))) (fun _ _ _ _ _ => pts_nil)
          (fun _ _ _ _ _ => (pe_call C_is_within.ok hr (by rfl) C_is_within.g C_is_within.kp C_is_within.b .nil pass0 (pa_cons (pv 3) (pa_cons pe_int (pa_cons (pe_op op_sub (pv 2) pe_int) pa_nil)))))) pa_nil)) (pe_one (pe_call C_is_rising.ok hr (by rfl) C_is_rising.g C_is_rising.kp C_is_rising.b .nil pass0 (pa_cons (pv 0) pa_nil)))))), ?_⟩
    refine ⟨_, rfl, _, _, _, _, t.isT, rfl, .ty "tuple", hT.ty, kit_ty t.kT, _, rfl, ?_⟩
    cases hc : t.isT with
    | false =>
      refine iteT ?_
      have h := q _ (same_refl _)
      have e : risT most limit t = false := by cases t <;> first | rfl | cases hc
      rw [e] at h
      exact h
    | true =>
      refine iteF ?_
      obtain ⟨a, xs, ts, rfl, rfl, ea, hts⟩ := hT.tupOf hc
      have hlen := hts.length
      have q1 : ∀ H', Same H H' → Q (.bl (decide ((ts.length : Int) ≤ most) && (ts.all (Tg.within 0 (limit - 1)) && risI (ts.map Tg.toI)))) H' := q
      refine ⟨_, rfl, a, _, rfl, .inr (SqT.of ea), _, rfl, _, _, rfl, rfl, _, rfl, ?_⟩
      by_cases hgt : ((xs.length : Nat) : Int) > most
      · rw [decide_eq_true hgt]
        refine iteT ?_
        rw [decide_eq_false (show ¬ (ts.length : Int) ≤ most by omega)] at q1
        exact q1 _ (same_refl _)
      · rw [decide_eq_false hgt]
        refine iteF ?_
        rw [decide_eq_true (show (ts.length : Int) ≤ most by omega), Bool.true_and] at q1
        refine ⟨_, rfl, a, rfl, ⟨_, SqT.of ea⟩, fun M nM => ?_⟩
        refine lc_sameM (walk_tup (xs := xs)) ts (fun y => .bl (y.within 0 (limit - 1))) hlen.symm (by omega) nM (fun H s => SqT.of (s _ _ ea)) ?_ ?_
        · rintro i y x H2' H2 hy s2 ⟨rfl, hx⟩ Q1 q1'
          exact ⟨rfl, _, rfl, _, rfl, _, _, rfl, rfl, p, x, y, 0, limit - 1, rfl, TgAt.same s2 _ _ (hts.at hx hy), fun H3 s3 => q1' _ s3⟩
        intro H2 s2 eM
        refine ⟨M, ts.map (Tg.within 0 (limit - 1)), rfl, SqL.of (by rw [eM, List.map_map]; rfl), ?_⟩
        rw [all_map_id]
        refine ⟨_, rfl, ?_⟩
        refine ite2 (fun c => ?_) (fun c => ?_)
        · have c' : ts.all (Tg.within 0 (limit - 1)) = true := c
          rw [c', Bool.true_and] at q1
          obtain ⟨e1, _⟩ := hts.ofInts c'
          refine ⟨_, rfl, a, ts.map Tg.toI, rfl, ?_, by rw [List.length_map]; omega, fun H3 s3 => q1 _ (s2.trans s3)⟩
          rw [s2 _ _ ea, ← e1]
        · have c' : ts.all (Tg.within 0 (limit - 1)) = false := Bool.eq_false_iff.mpr c
          rw [c', Bool.false_and] at q1
          exact q1 _ s2
abbrev sIsDeedT : Stmt := topS 23
abbrev nIsDeedT : List Str := ["folk", "number", "tail", "giver", "taker", "rests", "witnesses", "last"]
abbrev pIsDeedT : List Str := ["folk", "number", "tail"]
theorem scIsDeedT : FnScope nIsDeedT pIsDeedT (defScope sIsDeedT) := ⟨rfl, rfl, rfl, by decide +kernel, rfl, by decide +kernel, by decide +kernel⟩
def spDeedTG : Sp := fun vs H Q _ => ∃ (p fa a : Addr) (fx xs : List V) (ts : List Tg) (num : Int), vs = [.ref fa, .int num, .ref a] ∧ H fa = some (.tup fx) ∧ H a = some (.tup xs) ∧ TgAll p H xs ts ∧ ∀ H', Same H H' → Q (.bl (deedTailT fx.length num ts)) H'
theorem ok_IsDeedT {f : Addr} {fd : FuncData} {k : Nat} (F : Fun K "is_deed_tail" "is_deed_tail" sIsDeedT f fd) (C_is_within : CallOk P w K mg base k "is_within" pIsWithin spWi) (C_is_rising_below : CallOk P w K mg base k "is_rising_below" pIsRisB spRisBG) (m_len : mg "len" = none) (iMOST_RESTS : MgInt mg "MOST_RESTS" 2) (iMOST_WITNESSES : MgInt mg "MOST_WITNESSES" 3) : FnOk P w K mg base CX0 (k + 1) f fd pIsDeedT spDeedTG := by
  refine F.ok scIsDeedT (fun vs H Q E h => ?_) (fun cdv A outer s H vs Q E hr h => ?_)
  · obtain ⟨p, fa, a, fx, xs, ts, num, rfl, _⟩ := h
    rfl
  · obtain ⟨p, fa, a, fx, xs, ts, num, rfl, ef, ea, hts, q⟩ := h
    have nd := scIsDeedT.nd
    refine ⟨_, pss_cons (ps_if (pt_cmpR op_ne (pe_callB call_len_seq (by rfl) m_len (by decide +kernel) (pa_cons (pv 2) pa_nil)) pe_int (nomark _)) (pss_one (ps_ret pe_bl)) pss_nil)
      (pss_cons (ps_asg (pv 2) (pg_tup (by rfl) (pgs_cons (pg_name (i := 3) nd rfl (.inl rfl)) (pgs_cons (pg_name (i := 4) nd rfl (.inl rfl)) (pgs_cons (pg_name (i := 5) nd rfl (.inl rfl)) (pgs_cons (pg_name (i := 6) nd rfl (.inl rfl)) pgs_nil))))))
      (pss_cons (ps_set (i := 7) nd rfl (.inl rfl) (pe_op op_sub (pe_callB call_len_seq (by rfl) m_len (by decide +kernel) (pa_cons (pv 0) pa_nil)) pe_int))
      (pss_cons (ps_if (PW.pt (pw_or (pt_not (pt_val (pe_call C_is_within.ok hr (by rfl) C_is_within.g C_is_within.kp C_is_within.b .nil pass0 (pa_cons (pv 3) (pa_cons pe_int (pa_cons (pv 7) pa_nil)))))) (pw_or (pt_not (pt_val (pe_call C_is_within.ok hr (by rfl) C_is_within.g C_is_within.kp C_is_within.b .nil pass0 (pa_cons (pv 4) (pa_cons pe_int (pa_cons (pv 7) pa_nil)))))) (pw_or1 (pt_cmpR op_eq (pv 3) (pv 4) (nomark _)))))) (pss_one (ps_ret pe_bl)) pss_nil)
      (pss_cons (ps_if (pt_not (pt_val (pe_call C_is_rising_below.ok hr (by rfl) C_is_rising_below.g C_is_rising_below.kp C_is_rising_below.b .nil pass0 (pa_cons (pv 5) (pa_cons (pe_num (by rfl) iMOST_RESTS) (pa_cons (pv 1) pa_nil)))))) (pss_one (ps_ret pe_bl)) pss_nil)
      (pss_cons (ps_if (pt_not (pt_val (pe_call C_is_rising_below.ok hr (by rfl) C_is_rising_below.g C_is_rising_below.kp C_is_rising_below.b .nil pass0 (pa_cons (pv 6) (pa_cons (pe_num (by rfl) iMOST_WITNESSES) (pa_cons (pe_callB call_len_seq (by rfl) m_len (by decide +kernel) (pa_cons (pv 0) pa_nil)) pa_nil)))))) (pss_one (ps_ret pe_bl)) pss_nil)
      (pss_one (ps_ret (pe_and (pe_cmpR op_notIn_seq (pv 3) (pv 6) (by rfl)) (pe_one (pe_cmpR op_notIn_seq (pv 4) (pv 6) (by rfl))))))))))), ?_⟩
    have hlen := hts.length
    refine ⟨_, rfl, a, _, rfl, .inr (SqT.of ea), rfl, _, rfl, ?_⟩
    by_cases h4 : ts.length = 4
    · rw [show decide (V.int (xs.length : Nat) = V.int 4) = true from decide_eq_true (by rw [hlen, h4]; rfl)]
      refine iteF ?_
      obtain ⟨xg, xt, xr, xw, rfl⟩ := len4 (hlen.trans h4)
      obtain ⟨tg, tt, tr, tw, rfl⟩ := len4 h4
      cases hts with
      | cons hg h' =>
      cases h' with
      | cons ht h' =>
      cases h' with
      | cons hr' h' =>
      cases h' with
      | cons hw _ =>
      refine ⟨_, rfl, a, _, rfl, SqT.of ea, rfl, _, _, rfl, _, _, rfl, _, _, rfl, _, _, rfl, rfl, ?_⟩
      refine ⟨_, rfl, fa, _, rfl, .inr (SqT.of ef), _, _, rfl, rfl, ?_⟩
      have q1 : ∀ H', Same H H' → Q (.bl (tg.within 0 ((fx.length : Int) - 1) && (tt.within 0 ((fx.length : Int) - 1) && (!decide (tg.toI = tt.toI) && (risT 2 num tr && (risT 3 fx.length tw && (!hasI tg.toI tw && !hasI tt.toI tw))))))) H' := q
      clear q
      refine ⟨_, rfl, _, rfl, p, xg, tg, 0, _, rfl, hg, fun H1 s1 => ⟨_, rfl, ?_⟩⟩
      cases c1 : tg.within 0 ((fx.length : Int) - 1) with
      | false =>
        refine iteT ?_
        have h := q1 _ s1
        rw [c1] at h
        exact h
      | true =>
      refine iteF ?_
      rw [c1, Bool.true_and] at q1
      refine ⟨_, rfl, _, rfl, p, xt, tt, 0, _, rfl, TgAt.same s1 _ _ ht, fun H2 s2 => ⟨_, rfl, ?_⟩⟩
      have s02 := s1.trans s2
      cases c2 : tt.within 0 ((fx.length : Int) - 1) with
      | false =>
        refine iteT ?_
        have h := q1 _ s02
        rw [c2] at h
        exact h
      | true =>
      refine iteF ?_
      rw [c2, Bool.true_and] at q1
      obtain ⟨g, rfl, _, _⟩ := Tg.within_int c1
      obtain ⟨t, rfl, _, _⟩ := Tg.within_int c2
      cases hg
      cases ht
      refine ⟨_, rfl, _, rfl, rfl, _, rfl, ?_⟩
      rw [show decide (V.int g = V.int t) = decide (g = t) by by_cases e : g = t <;> simp [e]]
      have q2 : ∀ H', Same H H' → Q (.bl (!decide (g = t) && (risT 2 num tr && (risT 3 fx.length tw && (!hasI g tw && !hasI t tw))))) H' := q1
      clear q1
      cases c3 : decide (g = t) with
      | true =>
        refine iteT ?_
        have h := q2 _ s02
        rw [c3] at h
        exact h
      | false =>
      refine iteF ?_
      rw [c3, Bool.not_false, Bool.true_and] at q2
      refine ⟨_, rfl, _, rfl, p, xr, tr, 2, num, rfl, TgAt.same s02 _ _ hr', by decide, fun H3 s3 => ⟨_, rfl, ?_⟩⟩
      have s03 := s02.trans s3
      cases c4 : risT 2 num tr with
      | false =>
        refine iteT ?_
        have h := q2 _ s03
        rw [c4] at h
        exact h
      | true =>
      refine iteF ?_
      rw [c4, Bool.true_and] at q2
      refine ⟨_, rfl, _, rfl, fa, _, rfl, .inr (SqT.of (s03 _ _ ef)), p, xw, tw, 3, _, rfl, TgAt.same s03 _ _ hw, by decide, fun H4 s4 => ⟨_, rfl, ?_⟩⟩
      have s04 := s03.trans s4
      cases c5 : risT 3 fx.length tw with
      | false =>
        refine iteT ?_
        have h := q2 _ s04
        rw [c5] at h
        exact h
      | true =>
      refine iteF ?_
      rw [c5, Bool.true_and] at q2
      have htw : tw.isT = true := by cases tw <;> first | rfl | cases c5
      obtain ⟨wa, wxs, wts, rfl, rfl, ew, hwts⟩ := hw.tupOf htw
      have c5' : (decide ((wts.length : Int) ≤ 3) && (wts.all (Tg.within 0 ((fx.length : Int) - 1)) && risI (wts.map Tg.toI))) = true := c5
      rw [Bool.and_eq_true, Bool.and_eq_true] at c5'
      obtain ⟨e1, _⟩ := hwts.ofInts c5'.2.1
      have ew4 : H4 wa = some (.tup ((wts.map Tg.toI).map V.int)) := by rw [s04 _ _ ew, ← e1]
      have q3 : ∀ H', Same H H' → Q (.bl (!decide (g ∈ wts.map Tg.toI) && !decide (t ∈ wts.map Tg.toI))) H' := q2
      refine ⟨_, rfl, _, rfl, wa, _, rfl, .inr (SqT.of ew4), rfl, flat_ints _, _, rfl, ?_⟩
      rw [show (if true = true then !inV (V.int g) ((wts.map Tg.toI).map V.int) else inV (V.int g) ((wts.map Tg.toI).map V.int)) = !decide (g ∈ wts.map Tg.toI) by rw [if_pos rfl, mem_inV]]
      cases c6 : decide (g ∈ wts.map Tg.toI) with
      | true =>
        refine iteF ?_
        have h := q3 _ s04
        rw [c6] at h
        exact h
      | false =>
        refine iteT ?_
        rw [c6] at q3
        refine ⟨_, rfl, _, rfl, wa, _, rfl, .inr (SqT.of ew4), rfl, flat_ints _, ?_⟩
        rw [show (if true = true then !inV (V.int t) ((wts.map Tg.toI).map V.int) else inV (V.int t) ((wts.map Tg.toI).map V.int)) = !decide (t ∈ wts.map Tg.toI) by rw [if_pos rfl, mem_inV]]
        exact q3 _ s04
    · rw [show decide (V.int (xs.length : Nat) = V.int 4) = false from decide_eq_false fun z => h4 (by injection z with z; omega)]
      refine iteT ?_
      have h := q _ (same_refl _)
      have e : deedTailT fx.length num ts = false := by
        match ts, h4 with
        | [], _ => rfl
        | [_], _ => rfl
        | [_, _], _ => rfl
        | [_, _, _], _ => rfl
        | [_, _, _, _], h4 => exact absurd rfl h4
        | _ :: _ :: _ :: _ :: _ :: _, _ => rfl
      rw [e] at h
      exact h
abbrev sIsActT : Stmt := topS 24
abbrev nIsActT : List Str := ["number", "tail"]
abbrev pIsActT : List Str := ["number", "tail"]
theorem scIsActT : FnScope nIsActT pIsActT (defScope sIsActT) := ⟨rfl, rfl, rfl, by decide +kernel, rfl, by decide +kernel, by decide +kernel⟩
def spActTG : Sp := fun vs H Q _ => ∃ (p a : Addr) (xs : List V) (ts : List Tg) (num : Int), vs = [.int num, .ref a] ∧ H a = some (.tup xs) ∧ TgAll p H xs ts ∧ ∀ H', Same H H' → Q (.bl (actTailT num ts)) H'
theorem ok_IsActT {f : Addr} {fd : FuncData} {k : Nat} (F : Fun K "is_act_tail" "is_act_tail" sIsActT f fd) (C_is_within : CallOk P w K mg base k "is_within" pIsWithin spWi) (m_len : mg "len" = none) : FnOk P w K mg base CX0 (k + 1) f fd pIsActT spActTG := by
  refine F.ok scIsActT (fun vs H Q E h => ?_) (fun cdv A outer s H vs Q E hr h => ?_)
  · obtain ⟨p, a, xs, ts, num, rfl, _⟩ := h
    rfl
  · obtain ⟨p, a, xs, ts, num, rfl, ea, hts, q⟩ := h
    have nd := scIsActT.nd
    refine ⟨_, pss_one (ps_ret (pe_and (pe_cmpR op_eq (pe_callB call_len_seq (by rfl) m_len (by decide +kernel) (pa_cons (pv 1) pa_nil)) pe_int (nomark _)) (pe_one (pe_call C_is_within.ok hr (by rfl) C_is_within.g C_is_within.kp C_is_within.b .nil pass0 (pa_cons (pe_ix ix_tup (pv 1) pe_int (fun _ _ => rfl)) (pa_cons pe_int (pa_cons (pe_op op_sub (pv 0) pe_int) pa_nil))))))), ?_⟩
    have hlen := hts.length
    refine ⟨_, rfl, a, _, rfl, .inr (SqT.of ea), rfl, _, rfl, ?_⟩
    by_cases h1 : ts.length = 1
    · rw [show decide (V.int (xs.length : Nat) = V.int 1) = true from decide_eq_true (by rw [hlen, h1]; rfl)]
      refine iteT ?_
      obtain ⟨x, rfl⟩ := len1 (hlen.trans h1)
      obtain ⟨t, rfl⟩ := len1 h1
      cases hts with
      | cons hx _ =>
      exact ⟨_, rfl, a, _, 0, _, rfl, rfl, SqT.of ea, atI_nat (j := 0) rfl, _, rfl, _, _, rfl, rfl, p, x, t, 0, num - 1, rfl, hx, q⟩
    · rw [show decide (V.int (xs.length : Nat) = V.int 1) = false from decide_eq_false fun z => h1 (by injection z with z; omega)]
      refine iteF ?_
      have h := q _ (same_refl _)
      have e : actTailT num ts = false := by
        match ts, h1 with
        | [], _ => rfl
        | [_], h1 => exact absurd rfl h1
        | _ :: _ :: _, _ => rfl
      rw [e] at h
      exact h
end
end Deed

namespace Deed
open PySem PySem.Spec PyProof.Rows L2 LamX
section
variable {P : Program} {w : World} {K : PySem.W.Frag} {mg : Str → Option Value} {base : Heap}
theorem TgAt.str_iff {p : Addr} {H : Hp} {v : V} {t : Tg} (h : TgAt p H v t) (z : Str) : v = .str z ↔ t = .str z := by
  cases h <;> simp
theorem tailT_deed {n num : Int} {x : Tg} {r : List Tg} (h : x = .str "deed") : tailT n num x r = deedTailT n num r := by
  subst h
  unfold tailT
  simp
theorem tailT_act {n num : Int} {x : Tg} {r : List Tg} {z : Str} (h : x = .str z) (h2 : z ≠ "deed") (h3 : z ∈ [("paid" : Str), "void", "undone"]) : tailT n num x r = actTailT num r := by
  subst h
  show (if z = "deed" then _ else _) = _
  rw [if_neg h2, decide_eq_true h3, Bool.true_and]
theorem tailT_no {n num : Int} {x : Tg} {r : List Tg} (h : x ≠ .str "deed") (h2 : ∀ z ∈ [("paid" : Str), "void", "undone"], x ≠ .str z) : tailT n num x r = false := by
  cases x with
  | str z =>
    show (if z = "deed" then _ else _) = _
    rw [if_neg fun e => h (by rw [e]), decide_eq_false fun e => h2 z e rfl, Bool.false_and]
  | _ => rfl
abbrev sIsEntG : Stmt := topS 25
abbrev nIsEntG : List Str := ["folk", "thing", "number", "day", "written", "hand", "word"]
abbrev pIsEntG : List Str := ["folk", "thing"]
theorem scIsEntG : FnScope nIsEntG pIsEntG (defScope sIsEntG) := ⟨rfl, rfl, rfl, by decide +kernel, rfl, by decide +kernel, by decide +kernel⟩
def spEntG : Sp := fun vs H Q _ => ∃ (p : Addr) (vf v : V) (tf t : Tg), vs = [vf, v] ∧ TgAt p H vf tf ∧ TgAt p H v t ∧ ∀ H', Same H H' → Q (.bl (isFolkT tf && isEntT (lenT tf) t)) H'
theorem ok_IsEntG {f : Addr} {fd : FuncData} {k : Nat} {a_ACT_WORDS : Addr} (F : Fun K "is_entry" "is_entry" sIsEntG f fd) (C_is_folk : CallOk P w K mg base k "is_folk" pIsFolkG (spB1 isFolkT)) (C_is_within : CallOk P w K mg base k "is_within" pIsWithin spWi) (C_is_day : CallOk P w K mg base k "is_day" pIsDayG (spB1 (Tg.within 0 9999))) (C_is_deed_tail : CallOk P w K mg base k "is_deed_tail" pIsDeedT spDeedTG) (C_is_act_tail : CallOk P w K mg base k "is_act_tail" pIsActT spActTG) (m_isinstance : mg "isinstance" = none) (m_tuple : mg "tuple" = none) (m_len : mg "len" = none) (iOF : MgInt mg "OF" 5) (iLAST_NUMBER : MgInt mg "LAST_NUMBER" 30) (iLAST_HAND : MgInt mg "LAST_HAND" 3) (AW : ActWG K mg a_ACT_WORDS) : FnOk P w K mg base CX0 (k + 1) f fd pIsEntG spEntG := by
  refine F.ok scIsEntG (fun vs H Q E h => ?_) (fun cdv A outer s H vs Q E hr h => ?_)
  · obtain ⟨p, vf, v, tf, t, rfl, _⟩ := h
    rfl
  · obtain ⟨p, vf, v, tf, t, rfl, hTf, hT, q⟩ := h
    have nd := scIsEntG.nd
    have g_ACT_WORDS := AW.1
    refine ⟨_, pss_cons (ps_if (PW.pt (pw_or (pt_not (pt_val (pe_call C_is_folk.ok hr (by rfl) C_is_folk.g C_is_folk.kp C_is_folk.b .nil pass0 (pa_cons (pv 0) pa_nil)))) (pw_or (pt_not (pt_val (pe_callB call_isi (by rfl) m_isinstance (by decide +kernel) (pa_cons (pv 1) (pa_cons (pe_bltn (v := .ty "tuple") (by rfl) m_tuple (by decide +kernel) rfl) pa_nil))))) (pw_or1 (pt_cmpR op_le (pe_callB call_len_seq (by rfl) m_len (by decide +kernel) (pa_cons (pv 1) pa_nil)) (pe_num (by rfl) iOF) (nomark _)))))) (pss_one (ps_ret pe_bl)) pss_nil)
      (pss_cons (ps_asg (pe_slice sl_tupA (pv 1) po_none (po_some (pe_num (by rfl) iOF))) (pg_tup (by rfl) (pgs_cons (pg_name (i := 2) nd rfl (.inl rfl)) (pgs_cons (pg_name (i := 3) nd rfl (.inl rfl)) (pgs_cons (pg_name (i := 4) nd rfl (.inl rfl)) (pgs_cons (pg_name (i := 5) nd rfl (.inl rfl)) (pgs_cons (pg_name (i := 6) nd rfl (.inl rfl)) pgs_nil)))))))
      (pss_cons (ps_if (PW.pt (pw_or (pt_not (pt_val (pe_call C_is_within.ok hr (by rfl) C_is_within.g C_is_within.kp C_is_within.b .nil pass0 (pa_cons (pv 2) (pa_cons pe_int (pa_cons (pe_num (by rfl) iLAST_NUMBER) pa_nil)))))) (pw_or (pt_not (pt_val (pe_call C_is_day.ok hr (by rfl) C_is_day.g C_is_day.kp C_is_day.b .nil pass0 (pa_cons (pv 3) pa_nil)))) (pw_or1 (pt_not (pt_val (pe_call C_is_day.ok hr (by rfl) C_is_day.g C_is_day.kp C_is_day.b .nil pass0 (pa_cons (pv 4) pa_nil)))))))) (pss_one (ps_ret pe_bl)) pss_nil)
      (pss_cons (ps_if (pt_not (pt_val (pe_call C_is_within.ok hr (by rfl) C_is_within.g C_is_within.kp C_is_within.b .nil pass0 (pa_cons (pv 5) (pa_cons pe_int (pa_cons (pe_num (by rfl) iLAST_HAND) pa_nil)))))) (pss_one (ps_ret pe_bl)) pss_nil)
      (pss_cons (ps_if (pt_cmpR (op_eqTS hr.units) (pv 6) pe_str (nomark _)) (pss_one (ps_ret (pe_call C_is_deed_tail.ok hr (by rfl) C_is_deed_tail.g C_is_deed_tail.kp C_is_deed_tail.b .nil pass0 (pa_cons (pv 0) (pa_cons (pv 2) (pa_cons (pe_slice sl_tupA (pv 1) (po_some (pe_num (by rfl) iOF)) po_none) pa_nil)))))) pss_nil)
      (pss_one (ps_ret (pe_and (pe_cmpR (op_inTS hr.units) (pv 6) (pe_glob (v := .ref a_ACT_WORDS) (by rfl) g_ACT_WORDS rfl) (by rfl)) (pe_one (pe_call C_is_act_tail.ok hr (by rfl) C_is_act_tail.g C_is_act_tail.kp C_is_act_tail.b .nil pass0 (pa_cons (pv 2) (pa_cons (pe_slice sl_tupA (pv 1) (po_some (pe_num (by rfl) iOF)) po_none) pa_nil))))))))))), ?_⟩
    refine ⟨_, rfl, p, vf, tf, rfl, hTf, fun H1 s1 => ⟨_, rfl, ?_⟩⟩
    cases cf : isFolkT tf with
    | false =>
      refine iteT ?_
      have h := q _ s1
      rw [cf] at h
      exact h
    | true =>
    refine iteF ?_
    rw [cf, Bool.true_and] at q
    have htf : tf.isT = true := by cases tf <;> first | rfl | cases cf
    obtain ⟨fa, fx, fts, rfl, rfl, ef, hfts⟩ := hTf.tupOf htf
    have hfl : lenT (.tup fts) = (fx.length : Int) := by rw [hfts.length]; rfl
    rw [hfl] at q
    have hT1 := TgAt.same s1 _ _ hT
    refine ⟨_, rfl, _, _, _, _, t.isT, rfl, .ty "tuple", hT1.ty, kit_ty t.kT, _, rfl, ?_⟩
    cases hc : t.isT with
    | false =>
      refine iteT ?_
      have h := q _ s1
      have e : isEntT fx.length t = false := by cases t <;> first | rfl | cases hc
      rw [e] at h
      exact h
    | true =>
    refine iteF ?_
    obtain ⟨a, xs, ts, rfl, rfl, ea, hts⟩ := hT.tupOf hc
    have ea1 := s1 _ _ ea
    have hlen := hts.length
    refine ⟨_, rfl, a, _, rfl, .inr (SqT.of ea1), _, _, rfl, rfl, _, rfl, ?_⟩
    by_cases h6 : 6 ≤ ts.length
    rotate_left
    · rw [decide_eq_true (show ((xs.length : Nat) : Int) ≤ 5 by omega)]
      refine iteT ?_
      have h := q _ s1
      have e : isEntT fx.length (.tup ts) = false := by
        match ts, h6 with
        | [], _ => rfl
        | [_], _ => rfl
        | [_, _], _ => rfl
        | [_, _, _], _ => rfl
        | [_, _, _, _], _ => rfl
        | [_, _, _, _, _], _ => rfl
        | _ :: _ :: _ :: _ :: _ :: _ :: _, h6 => simp at h6
      rw [e] at h
      exact h
    rw [decide_eq_false (show ¬ ((xs.length : Nat) : Int) ≤ 5 by omega)]
    refine iteF ?_
    obtain ⟨xa, xb, xc, xd, xe, xf, xr, rfl⟩ := len6 (show 6 ≤ xs.length by omega)
    obtain ⟨ta, tb, tc, td, te, tf', tr, rfl⟩ := len6 h6
    have htl : TgAll p H (xf :: xr) (tf' :: tr) := hts.drop 5
    cases hts with
    | cons ha h' =>
    cases h' with
    | cons hb h' =>
    cases h' with
    | cons hc' h' =>
    cases h' with
    | cons hd h' =>
    cases h' with
    | cons he _ =>
    refine ⟨_, rfl, _, rfl, slA_same ea1 fun t2 H2 s2 e2 => ?_⟩
    have e2' : H2 t2 = some (.tup [xa, xb, xc, xd, xe]) := by
      rw [e2]
      refine congrArg (fun l => some (HO.tup l)) ?_
      unfold cutV
      rw [HT.sIx_none, show ((5 : Int)) = ((5 : Nat) : Int) from rfl, HT.sIx_nat, Nat.min_eq_left (by simp)]
      rfl
    have s02 := s1.trans s2
    refine ⟨t2, _, rfl, SqT.of e2', rfl, _, _, rfl, _, _, rfl, _, _, rfl, _, _, rfl, _, _, rfl, rfl, ?_⟩
    have q1 : ∀ H', Same H H' → Q (.bl (ta.within 0 30 && (tb.within 0 9999 && (tc.within 0 9999 && (td.within 0 3 && tailT fx.length ta.toI te (tf' :: tr)))))) H' := q
    clear q
    refine ⟨_, rfl, p, xa, ta, 0, 30, rfl, TgAt.same s02 _ _ ha, fun H3 s3 => ⟨_, rfl, ?_⟩⟩
    have s03 := s02.trans s3
    cases c1 : ta.within 0 30 with
    | false =>
      refine iteT ?_
      have h := q1 _ s03
      rw [c1] at h
      exact h
    | true =>
    refine iteF ?_
    rw [c1, Bool.true_and] at q1
    refine ⟨_, rfl, p, xb, tb, rfl, TgAt.same s03 _ _ hb, fun H4 s4 => ⟨_, rfl, ?_⟩⟩
    have s04 := s03.trans s4
    cases c2 : tb.within 0 9999 with
    | false =>
      refine iteT ?_
      have h := q1 _ s04
      rw [c2] at h
      exact h
    | true =>
    refine iteF ?_
    rw [c2, Bool.true_and] at q1
    refine ⟨_, rfl, p, xc, tc, rfl, TgAt.same s04 _ _ hc', fun H5 s5 => ⟨_, rfl, ?_⟩⟩
    have s05 := s04.trans s5
    cases c3 : tc.within 0 9999 with
    | false =>
      refine iteT ?_
      have h := q1 _ s05
      rw [c3] at h
      exact h
    | true =>
    refine iteF ?_
    rw [c3, Bool.true_and] at q1
    refine ⟨_, rfl, p, xd, td, 0, 3, rfl, TgAt.same s05 _ _ hd, fun H6 s6 => ⟨_, rfl, ?_⟩⟩
    have s06 := s05.trans s6
    cases c4 : td.within 0 3 with
    | false =>
      refine iteT ?_
      have h := q1 _ s06
      rw [c4] at h
      exact h
    | true =>
    refine iteF ?_
    rw [c4, Bool.true_and] at q1
    obtain ⟨num, rfl, _, _⟩ := Tg.within_int c1
    cases ha
    have he6 := TgAt.same s06 _ _ he
    have cut5 : ∀ xa' xb' xc' xd' xe' : V, cutV (xa' :: xb' :: xc' :: xd' :: xe' :: xf :: xr) (some (5 : Int)) none = xf :: xr := fun _ _ _ _ _ => by
      unfold cutV
      rw [HT.sIx_none, show ((5 : Int)) = ((5 : Nat) : Int) from rfl, HT.sIx_nat, Nat.min_eq_left (by simp)]
      show List.take _ (xf :: xr) = _
      rw [List.take_of_length_le (by simp)]
    refine ⟨_, rfl, _, rfl, he6.knd, _, rfl, ?_⟩
    by_cases cd : xe = .str "deed"
    · rw [decide_eq_true cd]
      refine iteT ?_
      rw [tailT_deed ((he.str_iff _).mp cd)] at q1
      refine ⟨_, rfl, _, rfl, _, rfl, _, rfl, ?_⟩
      dsimp only [tNoPart]
      refine slA_same (s06 _ _ ea) fun t7 H7 s7 e7 => ?_
      rw [cut5] at e7
      have s07 := s06.trans s7
      exact ⟨p, fa, t7, fx, _, _, num, rfl, s07 _ _ ef, e7, TgAll.same s07 _ _ htl, fun H8 s8 => q1 _ (s07.trans s8)⟩
    rw [decide_eq_false cd]
    refine iteF ?_
    have hnd : te ≠ .str "deed" := fun z => cd ((he.str_iff _).mpr z)
    refine ⟨_, rfl, a_ACT_WORDS, [("paid" : Str), "void", "undone"], rfl, .inr (AW.2 _), he6.knd, _, rfl, ?_⟩
    by_cases ca : xe ∈ ([("paid" : Str), "void", "undone"] : List Str).map V.str
    · simp only [Bool.false_eq_true, if_false]
      rw [decide_eq_true ca]
      refine iteT ?_
      obtain ⟨z, hz, hze⟩ := List.mem_map.mp ca
      have hte : te = .str z := (he.str_iff z).mp hze.symm
      rw [tailT_act hte (fun e => hnd (by rw [hte, e])) hz] at q1
      refine ⟨_, rfl, _, rfl, _, rfl, ?_⟩
      dsimp only [tNoPart]
      refine slA_same (s06 _ _ ea) fun t7 H7 s7 e7 => ?_
      rw [cut5] at e7
      have s07 := s06.trans s7
      exact ⟨p, t7, _, _, num, rfl, e7, TgAll.same s07 _ _ htl, fun H8 s8 => q1 _ (s07.trans s8)⟩
    · simp only [Bool.false_eq_true, if_false]
      rw [decide_eq_false ca]
      refine iteF ?_
      rw [tailT_no hnd fun z hz e => ca (List.mem_map.mpr ⟨z, hz, ((he.str_iff z).mpr e).symm⟩)] at q1
      exact q1 _ s06
end
end Deed

namespace Deed
open PySem PySem.Spec PyProof.Rows L2 LamX
theorem tup_at {p : Addr} {H : Hp} {xs : List V} {ts : List Tg} (h : TgAll p H xs ts) {i : Nat} {t : Tg} (ht : ts[i]? = some t) : ∃ x, xs[i]? = some x ∧ TgAt p H x t := by
  have hi : i < ts.length := (List.getElem?_eq_some_iff.mp ht).1
  have hi' : i < xs.length := by rw [h.length]; exact hi
  exact ⟨xs[i], List.getElem?_eq_getElem hi', h.at (List.getElem?_eq_getElem hi') ht⟩
theorem log_small {i : Int} (h : i.natAbs < 2 ^ 64) : i.natAbs.log2 < 1920 := by
  by_cases h0 : i.natAbs = 0
  · rw [h0]
    decide
  · have := (Nat.log2_lt h0).mpr h
    omega
theorem folk_tg {p : Addr} {H : Hp} {t : Addr} {n : Nat} (h : FolkAt H t n) (hn : n ≤ 300) : ∃ ts, TgAt p H (.ref t) (.tup ts) ∧ ts.length = n ∧ FitsN 3 (.tup ts) ∧ ts.all isPersonT = true := by
  obtain ⟨xs, e, hl, hp⟩ := h
  have key : ∀ xs : List V, (∀ x ∈ xs, PersonAt H x) → ∃ ts, TgAll p H xs ts ∧ (∀ t ∈ ts, FitsN 2 t) ∧ ts.all isPersonT = true := by
    intro xs
    induction xs with
    | nil => exact fun _ => ⟨[], .nil, ⟨fun _ h => (nomatch h), rfl⟩⟩
    | cons x r ih =>
      intro hx
      obtain ⟨ts, h1, h2, h3⟩ := ih fun y hy => hx y (List.mem_cons_of_mem _ hy)
      obtain ⟨a, b, d, rfl, ea, hb0, hb1, hd⟩ := hx x List.mem_cons_self
      obtain ⟨td, htd, hfd, hdd⟩ : ∃ td, TgAt p H d td ∧ FitsN 1 td ∧ diedT b td = true := by
        rcases hd with rfl | ⟨i, rfl, hi0, hi1⟩
        · exact ⟨.non, .non, trivial, rfl⟩
        · exact ⟨.int i, .int i, log_small (by omega), by show (decide (b + 1 ≤ i) && decide (i ≤ 9999)) = true; rw [decide_eq_true (by omega : b + 1 ≤ i), decide_eq_true hi1]; rfl⟩
      refine ⟨.tup [.int b, td] :: ts, .cons (.tup ea (.cons (.int b) (.cons htd .nil))) h1, fun u hu => ?_, ?_⟩
      rotate_left
      · rw [List.all_cons, h3, Bool.and_true]
        show ((decide (-9999 ≤ b) && decide (b ≤ 9999)) && diedT b td) = true
        rw [hdd, decide_eq_true hb0, decide_eq_true (by omega : b ≤ 9999)]
        rfl
      rcases List.mem_cons.mp hu with rfl | hu
      · refine ⟨by show 2 ≤ 300; decide, fun y hy => ?_⟩
        simp only [List.mem_cons, List.not_mem_nil, or_false] at hy
        rcases hy with rfl | rfl
        · exact log_small (by omega)
        · exact hfd
      · exact h2 u hu
  obtain ⟨ts, h1, h2, h3⟩ := key xs hp
  have hl2 := h1.length
  exact ⟨ts, .tup e h1, by omega, ⟨by omega, h2⟩, h3⟩
end Deed

namespace Deed
open PySem PySem.Spec PyProof.Rows L2
section
variable {X : Cx}
/-- x = {k: v for ..}, x an own name -/
theorem ps_setDc {i : Nat} {y : Str} {py : Pos} {kx vx tg iter : Expr} {ifs : List Expr} {scope : Scope} {own : List (Str × Nat)} {pos spos : Pos} {wi : TI} {g : TG} {tt : TT} {tk tv : TE} (cal : X.calm = true) (nd : X.N.Nodup) (yi : X.N[i]? = some y) (yl : X.env.scope.names.lookup y = some .local)
    (sw : swapsWith (.DictComp kx vx [⟨tg, iter, ifs, 0⟩] scope pos) (some (.Name y py)) spos.line X.env = pure true) (pi : PI X tg iter wi) (blk : BlkOk X.N X.env.scope scope own)
    (pg : ∀ (s : Shared) (H : Hp) (C : Addr) (cl : List (Str × Addr)) (fp : List Addr), PG (X.blk s H scope (compEnvC scope cl C X.env) fp) tg g) (pt : ∀ (s : Shared) (H : Hp) (C : Addr) (cl : List (Str × Addr)) (fp : List Addr), PTs (X.blk s H scope (compEnvC scope cl C X.env) fp) ifs tt)
    (pk : ∀ (s : Shared) (H : Hp) (C : Addr) (cl : List (Str × Addr)) (fp : List Addr), PE (X.blk s H scope (compEnvC scope cl C X.env) fp) kx tk) (pw : ∀ (s : Shared) (H : Hp) (C : Addr) (cl : List (Str × Addr)) (fp : List Addr), PE (X.blk s H scope (compEnvC scope cl C X.env) fp) vx tv)
    (fo : ∀ x, foldedSetIterable iter X.env x = pure x := by intro _; rfl) : PS X (.Assign [.Name y py] (.DictComp kx vx [⟨tg, iter, ifs, 0⟩] scope pos) spos) (tAsg (tDc wi g tt tk tv (own.map (·.2))) (gName i)) := by
  refine ⟨fun pins s σ H D I hh => ?_⟩
  rw [exec_Assign_Name_used _ _ _ _ sw]
  refine wpAny_bind (wpAny_standAt (wpAny_bind ?_))
  show wpAny _ X.A (do let _ ← comprehension (.DictComp kx vx [⟨tg, iter, ifs, 0⟩] scope pos) scope X.env (firstIterPos [⟨tg, iter, ifs, 0⟩] pos) newDict false (eval iter X.env) (some (assign (.Name y py) X.env))) _ _ s
  have ht : tDc wi g tt tk tv (own.map (·.2)) σ H (fun x H1 => gName i x σ H1 D.nx) := hh
  refine wpAny_bind (thn (dc_core (Qf := fun _ s' => SP X pins D .next s') cal nd I pi blk pg pt pk pw fo ht fun L C s1 m H1 I1 q nC fp => ?_) fun _ s2 hq => wpAny_pure (wpAny_pure hq))
  show wpAny _ _ (assign (.Name y py) X.env (.ref L)) _ _ _
  refine wpAny_assign_Name (store_ok2 (v := V.ref L) I1 nd yi (.inl yl) rfl (fun s2 I2 ⟨c, sb, hc⟩ => ?_) (.inr yl))
  obtain ⟨f0, f1, f2, f3, f4, f5⟩ := fp
  have nc : C ≠ c := by
    rcases hc with e | e
    · rw [e]
      exact f1
    · exact fun z => f4 y c e z.symm
  refine ⟨m, nC.sameBut sb nc, fun h3 sb3 => ⟨_, H1, ?_, q⟩⟩
  exact I2.turned (t' := s2.toks) (fun b o hb e => (sb3.2 b hb).trans e) f0 f1 f3 f4 f5
theorem swD_true {kx vx : Expr} {gs : List Comprehension} {scope : Scope} {pos py : Pos} {y : Str} {l : Nat} {env : Env} (fk : env.scope.kind = .function) (yl : env.scope.names.lookup y = some .local) (hl : (py.line == pos.line) = true)
    (no : (scope.names.any fun (n, k) => n == y && (k == .local || k == .cell)) = false) : swapsWith (.DictComp kx vx gs scope pos) (some (.Name y py)) l env = pure true := by
  have k1 : env.kindOf y = some .local := yl
  have k2 : env.blockKind = .function := by
    unfold Env.blockKind
    rw [fk]
    rfl
  unfold swapsWith
  simp only [k2, k1, no, Expr.pos, hl]
  rfl
end
end Deed

namespace Deed
open PySem PySem.Spec PyProof.Rows L2 LamX
/-! ### books, of whatever kind -/
theorem within_ints : ∀ {ts : List Tg} {lo hi : Int}, ts.all (Tg.within lo hi) = true → ts = (ts.map Tg.toI).map Tg.int
  | [], _, _, _ => rfl
  | t :: ts, lo, hi, h => by
    rw [List.all_cons, Bool.and_eq_true] at h
    obtain ⟨i, rfl, _⟩ := Tg.within_int h.1
    have := within_ints h.2
    rw [List.map_cons, List.map_cons, ← this]
    rfl
theorem entT_shape {n : Int} {t : Tg} (h : isEntT n t = true) : ∃ num b c d z f r, t = .tup (.int num :: b :: c :: d :: .str z :: f :: r) ∧ ((z = "deed" ∧ ∃ (g : Tg) (rs : List Int) (u : Tg), r = [g, .tup (rs.map Tg.int), u] ∧ rs.length ≤ 2) ∨ (z ≠ "deed" ∧ z ∈ [("paid" : Str), "void", "undone"] ∧ ∃ o, f = .int o ∧ r = [])) := by
  match t, h with
  | .tup (a :: b :: c :: d :: e :: f :: r), h =>
    have h' : (a.within 0 30 && (b.within 0 9999 && (c.within 0 9999 && (d.within 0 3 && tailT n a.toI e (f :: r))))) = true := h
    simp only [Bool.and_eq_true] at h'
    obtain ⟨h1, _, _, _, h5⟩ := h'
    obtain ⟨num, rfl, _⟩ := Tg.within_int h1
    match e, h5 with
    | .str z, h5 =>
      have h5' : (if z = "deed" then deedTailT n num (f :: r) else decide (z ∈ [("paid" : Str), "void", "undone"]) && actTailT num (f :: r)) = true := h5
      refine ⟨num, b, c, d, z, f, r, rfl, ?_⟩
      by_cases hz : z = "deed"
      · rw [if_pos hz] at h5'
        refine .inl ⟨hz, ?_⟩
        match r, h5' with
        | [g, tr, u], h5' =>
          have h6 : (f.within 0 (n - 1) && (g.within 0 (n - 1) && (!decide (f.toI = g.toI) && (risT 2 num tr && (risT 3 n u && (!hasI f.toI u && !hasI g.toI u)))))) = true := h5'
          simp only [Bool.and_eq_true] at h6
          have h7 := h6.2.2.2.1
          match tr, h7 with
          | .tup rs, h7 =>
            have h8 : (decide ((rs.length : Int) ≤ 2) && (rs.all (Tg.within 0 (num - 1)) && risI (rs.map Tg.toI))) = true := h7
            simp only [Bool.and_eq_true] at h8
            have h9 : (rs.length : Int) ≤ 2 := of_decide_eq_true h8.1
            exact ⟨g, rs.map Tg.toI, u, by rw [← within_ints h8.2.1], by rw [List.length_map]; omega⟩
      · rw [if_neg hz, Bool.and_eq_true] at h5'
        refine .inr ⟨hz, of_decide_eq_true h5'.1, ?_⟩
        match r, h5'.2 with
        | [], h6 =>
          have h7 : f.within 0 (num - 1) = true := h6
          obtain ⟨o, rfl, _⟩ := Tg.within_int h7
          exact ⟨o, rfl, rfl⟩
theorem TgAll.int_only {p : Addr} {H : Hp} : ∀ {rs : List Int} {xs : List V}, TgAll p H xs (rs.map Tg.int) → xs = rs.map V.int
  | [], _, h => by
    cases h
    rfl
  | i :: r, _, h => by
    cases h with
    | cons h1 h2 =>
      cases h1
      rw [TgAll.int_only h2]
      rfl
def numT : Tg → Int | .tup (a :: _) => a.toI | _ => 0
def wordT : Tg → Str | .tup (_ :: _ :: _ :: _ :: .str z :: _) => z | _ => ""
def ofT : Tg → Int | .tup (_ :: _ :: _ :: _ :: _ :: f :: _) => f.toI | _ => 0
def restsT : Tg → List Int | .tup (_ :: _ :: _ :: _ :: _ :: _ :: _ :: .tup rs :: _) => rs.map Tg.toI | _ => []
def wdT (ts : List Tg) : List (Key × V) := ts.foldl (fun kvs t => putK kvs (.inl (numT t)) (.str (wordT t))) []
def WdOk (kvs : List (Key × V)) : Prop := ∀ kv ∈ kvs, ∃ x, kv.2 = V.str x
theorem WdOk.put {kvs : List (Key × V)} (h : WdOk kvs) (k : Key) (x : Str) : WdOk (putK kvs k (.str x)) := by
  unfold putK
  split
  · intro kv hkv
    obtain ⟨kv', h1, rfl⟩ := List.mem_map.mp hkv
    split
    · exact ⟨x, rfl⟩
    · exact h kv' h1
  · intro kv hkv
    rcases List.mem_append.mp hkv with h1 | h1
    · exact h kv h1
    · rw [List.mem_singleton.mp h1]
      exact ⟨x, rfl⟩
theorem putK_len {kvs : List (Key × V)} {k : Key} {v : V} : (putK kvs k v).length ≤ kvs.length + 1 := by
  unfold putK
  split
  · rw [List.length_map]
    omega
  · rw [List.length_append]
    exact Nat.le_refl _
theorem wdT_ok : ∀ (ts : List Tg) (kvs : List (Key × V)), WdOk kvs → WdOk (ts.foldl (fun kvs t => putK kvs (.inl (numT t)) (.str (wordT t))) kvs)
  | [], _, h => h
  | t :: ts, kvs, h => wdT_ok ts _ (h.put _ _)
theorem wdT_len : ∀ (ts : List Tg) (kvs : List (Key × V)), (ts.foldl (fun kvs t => putK kvs (.inl (numT t)) (.str (wordT t))) kvs).length ≤ kvs.length + ts.length
  | [], _ => Nat.le_refl _
  | t :: ts, kvs => by
    have h1 := wdT_len ts (putK kvs (.inl (numT t)) (.str (wordT t)))
    have h2 := putK_len (kvs := kvs) (k := .inl (numT t)) (v := .str (wordT t))
    rw [List.foldl_cons, List.length_cons]
    omega
def getW (kvs : List (Key × V)) (r : Int) : V := (valV kvs (.inl r)).getD .non
theorem getW_or {kvs : List (Key × V)} (h : WdOk kvs) (r : Int) : getW kvs r = .non ∨ ∃ x, getW kvs r = .str x := by
  unfold getW valV
  cases hf : kvs.find? fun kv => decide (kv.1 = (Sum.inl r : Key)) with
  | none => exact .inl rfl
  | some kv =>
    obtain ⟨x, hx⟩ := h kv (List.mem_of_find?_eq_some hf)
    exact .inr ⟨x, hx⟩
theorem getW_scal {kvs : List (Key × V)} (h : WdOk kvs) (r : Int) (x : Str) : scal (getW kvs r) (.str x) = true := by
  rcases getW_or h r with e | ⟨y, e⟩ <;> rw [e] <;> rfl
theorem getW_knd {kvs : List (Key × V)} (h : WdOk kvs) (r : Int) (H : Hp) : Knd H (getW kvs r) := by
  rcases getW_or h r with e | ⟨y, e⟩ <;> rw [e]
  · exact .non
  · exact .str y
def fitT (kvs : List (Key × V)) (t : Tg) : Bool :=
  if wordT t = "deed" then (restsT t).all (fun r => decide (getW kvs r = .str "deed"))
  else if wordT t = "undone" then decide (getW kvs (ofT t) ∈ ([("paid" : Str), "void", "undone"] : List Str).map V.str)
  else decide (getW kvs (ofT t) = .str "deed")
def isBookT : Tg → Bool
  | .tup [f, a, .tup es] => isFolkT f && (a.within 0 9999 && (decide (es.length ≤ 16) && (es.all (isEntT (lenT f)) && (decide ((wdT es).length = es.length) && es.all (fitT (wdT es))))))
  | _ => false
section
variable {P : Program} {w : World} {K : PySem.W.Frag} {mg : Str → Option Value} {base : Heap}
abbrev sIsAgeG : Stmt := topS 18
abbrev nIsAgeG : List Str := ["thing"]
abbrev pIsAgeG : List Str := ["thing"]
theorem scIsAgeG : FnScope nIsAgeG pIsAgeG (defScope sIsAgeG) := ⟨rfl, rfl, rfl, by decide +kernel, rfl, by decide +kernel, by decide +kernel⟩
theorem ok_IsAgeG {f : Addr} {fd : FuncData} {k : Nat} (F : Fun K "is_age" "is_age" sIsAgeG f fd) (C_is_within : CallOk P w K mg base k "is_within" pIsWithin spWi) (iLAST_DAY : MgInt mg "LAST_DAY" 9999) : FnOk P w K mg base CX0 (k + 1) f fd pIsAgeG (spB1 (Tg.within 0 9999)) := by
  refine F.ok scIsAgeG (fun vs H Q E h => ?_) (fun cdv A outer s H vs Q E hr h => ?_)
  · obtain ⟨p, v, t, rfl, _⟩ := h
    rfl
  · obtain ⟨p, v, t, rfl, hT, q⟩ := h
    refine ⟨_, pss_one (ps_ret (pe_call C_is_within.ok hr (by rfl) C_is_within.g C_is_within.kp C_is_within.b .nil pass0 (pa_cons (pv 0) (pa_cons pe_int (pa_cons (pe_num (by rfl) iLAST_DAY) pa_nil))))), ?_⟩
    exact ⟨_, rfl, p, v, t, 0, 9999, rfl, hT, q⟩
abbrev sNFit : Stmt := topS 26
abbrev nNFit : List Str := ["words", "entry", "rest"]
abbrev pNFit : List Str := ["words", "entry"]
theorem scNFit : FnScope nNFit pNFit (defScope sNFit) := ⟨rfl, rfl, rfl, by decide +kernel, rfl, by decide +kernel, by decide +kernel⟩
def spNFit : Sp := fun vs H Q _ => ∃ (p wd : Addr) (kvs : List (Key × V)) (v : V) (t : Tg) (n : Int), vs = [.ref wd, v] ∧ H wd = some (.dK kvs) ∧ WdOk kvs ∧ TgAt p H v t ∧ isEntT n t = true ∧ ∀ H', Same H H' → Q (.bl (fitT kvs t)) H'
theorem ok_NFit {f : Addr} {fd : FuncData} {k : Nat} {aC : Addr} (F : Fun K "names_fit" "names_fit" sNFit f fd) (m_all : mg "all" = none) (mW : MgInt mg "WORD" 4) (mR : MgInt mg "RESTS" 7) (mO : MgInt mg "OF" 5) (AW : ActWG K mg aC) : FnOk P w K mg base CX0 (k + 1) f fd pNFit spNFit := by
  refine F.ok scNFit (fun vs H Q E h => ?_) (fun cdv A outer s H vs Q E hr h => ?_)
  · obtain ⟨p, wd, kvs, v, t, n, rfl, _⟩ := h
    rfl
  · obtain ⟨p, wd, kvs, v, t, n, rfl, ewd, hwd, hT, hent, q⟩ := h
    have nd := scNFit.nd
    have hu := hu_of hr
    have gC := AW.1
    refine ⟨_, pss_cons (ps_if (pt_cmpR op_eq (pe_ix ix_tup (pv 1) (pe_num (by rfl) mW) (fun _ _ => rfl)) pe_str (nomark _)) (pss_one (ps_ret (pe_callB (cr_all rfl) (by rfl) m_all (by decide +kernel) (pa_cons (pe_lc (own := [("rest", 2)]) (g := gName 2) (by rfl) nd (pi_tup (pe_ix ix_tup (pv 1) (pe_num (by rfl) mR) (fun _ _ => rfl))) (blkOk_by (own := [("rest", 2)]) (N := nNFit) (sc := defScope sNFit) (by decide +kernel)) (fun _ _ _ _ _ => pg_name (i := 2) nd rfl (Or.inl rfl)) (fun _ _ _ _ _ => pts_nil)
          (fun _ _ _ _ _ => show PE _ _ (tOp rEq (tDGet1 (tVar 0) (tVar 2)) (tC (.str "deed"))) from pe_cmpR op_eq (pe_dget1 hu (pv 0) (pv 2) ⟨rfl, rfl, rfl, rfl⟩) pe_str (nomark _))) pa_nil)))) pss_nil)
      (pss_cons (ps_if (pt_cmpR op_eq (pe_ix ix_tup (pv 1) (pe_num (by rfl) mW) (fun _ _ => rfl)) pe_str (nomark _)) (pss_one (ps_ret (pe_cmpR (op_inTS hr.units) (pe_dget1 hu (pv 0) (pe_ix ix_tup (pv 1) (pe_num (by rfl) mO) (fun _ _ => rfl)) ⟨rfl, rfl, rfl, rfl⟩) (show PE _ _ (tC (.ref aC)) from pe_glob (by rfl) gC rfl) (by rfl)))) pss_nil)
      (pss_one (ps_ret (pe_cmpR op_eq (pe_dget1 hu (pv 0) (pe_ix ix_tup (pv 1) (pe_num (by rfl) mO) (fun _ _ => rfl)) ⟨rfl, rfl, rfl, rfl⟩) pe_str (nomark _))))), ?_⟩
    obtain ⟨num, b, c, d, z, ff, r, rfl, hsh⟩ := entT_shape hent
    obtain ⟨a, xs, ts, rfl, ets, ea, hts⟩ := hT.tupOf rfl
    injection ets with ets
    subst ets
    obtain ⟨xz, gz, hz4⟩ := tup_at hts (i := 4) rfl
    obtain ⟨xf, gf, hf5⟩ := tup_at hts (i := 5) rfl
    cases hz4
    refine ⟨_, rfl, a, xs, 4, _, rfl, rfl, SqT.of ea, atI_nat (j := 4) gz, rfl, _, rfl, ?_⟩
    have q1 : ∀ H', Same H H' → Q (.bl (if z = "deed" then (restsT (.tup (.int num :: b :: c :: d :: .str z :: ff :: r))).all (fun r => decide (getW kvs r = .str "deed")) else if z = "undone" then decide (getW kvs ff.toI ∈ ([("paid" : Str), "void", "undone"] : List Str).map V.str) else decide (getW kvs ff.toI = .str "deed"))) H' := q
    rcases hsh with ⟨rfl, g, rs, u, rfl, hrl⟩ | ⟨hnd, hza, o, rfl, rfl⟩
    · rw [show decide (V.str "deed" = V.str "deed") = true from decide_eq_true rfl]
      refine iteT ?_
      simp only [if_true] at q1
      obtain ⟨xr, gr, hr7⟩ := tup_at hts (i := 7) rfl
      obtain ⟨ra, rxs, rts, rfl, erts, era, hrts⟩ := hr7.tupOf rfl
      injection erts with erts
      subst erts
      have hrx : rxs = rs.map V.int := TgAll.int_only hrts
      subst hrx
      have q2 : ∀ H', Same H H' → Q (.bl (rs.all (fun r => decide (getW kvs r = .str "deed")))) H' := by
        have e : restsT (.tup [.int num, b, c, d, .str "deed", ff, g, .tup (rs.map Tg.int), u]) = rs := by
          show (rs.map Tg.int).map Tg.toI = rs
          rw [List.map_map]
          exact List.map_id'' (fun _ => rfl) rs
        rw [e] at q1
        exact q1
      refine ⟨_, rfl, a, xs, 7, _, rfl, rfl, SqT.of ea, atI_nat (j := 7) gr, ra, rfl, ⟨_, SqT.of era⟩, fun M nM => ?_⟩
      refine lc_sameM (walk_tup (xs := rs.map V.int)) rs (fun y => .bl (decide (getW kvs y = .str "deed"))) (by rw [List.length_map]) (by omega) nM (fun H s => SqT.of (s _ _ era)) ?_ ?_
      · rintro i y x H2' H2 hy s2 ⟨rfl, hx⟩ Q1 q1'
        rw [List.getElem?_map, hy] at hx
        injection hx with hx
        subst hx
        exact ⟨rfl, _, rfl, wd, rfl, .inl ⟨_, .inl (s2 _ _ ewd)⟩, _, rfl, _, DGet.k (k := Sum.inl y) (s2 _ _ ewd), getW_scal hwd y _, q1' _ (same_refl _)⟩
      intro H2 s2 eM
      refine ⟨M, rs.map (fun r => decide (getW kvs r = .str "deed")), rfl, SqL.of (by rw [eM, List.map_map]; rfl), ?_⟩
      rw [all_map_id]
      exact q2 _ s2
    · rw [show decide (V.str z = V.str "deed") = false from decide_eq_false fun e => hnd (by injection e)]
      refine iteF ?_
      rw [if_neg hnd] at q1
      cases hf5
      have q2 := q1 H (same_refl _)
      refine ⟨_, rfl, a, xs, 4, _, rfl, rfl, SqT.of ea, atI_nat (j := 4) gz, rfl, _, rfl, ?_⟩
      by_cases hun : z = "undone"
      · rw [show decide (V.str z = V.str "undone") = true from decide_eq_true (by rw [hun])]
        refine iteT ?_
        rw [if_pos hun] at q2
        refine ⟨_, rfl, wd, rfl, .inl ⟨_, .inl ewd⟩, _, rfl, a, xs, 5, _, rfl, rfl, SqT.of ea, atI_nat (j := 5) gf, _, DGet.k (k := Sum.inl o) ewd, aC, [("paid" : Str), "void", "undone"], rfl, .inr (AW.2 _), getW_knd hwd o _, ?_⟩
        simp only [Bool.false_eq_true, if_false]
        exact q2
      · rw [show decide (V.str z = V.str "undone") = false from decide_eq_false fun e => hun (by injection e)]
        refine iteF ?_
        rw [if_neg hun] at q2
        exact ⟨_, rfl, wd, rfl, .inl ⟨_, .inl ewd⟩, _, rfl, a, xs, 5, _, rfl, rfl, SqT.of ea, atI_nat (j := 5) gf, _, DGet.k (k := Sum.inl o) ewd, getW_scal hwd o _, q2⟩
end
end Deed

namespace Deed
open PySem PySem.Spec PyProof.Rows L2 LamX
/-! entries as things; what an entry more is -/
def entT (e : En) : Tg := match e.kd with
  | .deed g t rs ws => .tup [.int e.num, .int e.day, .int e.wri, .int e.hand, .str "deed", .int g, .int t, .tup (rs.map Tg.int), .tup (ws.map Tg.int)]
  | .act x o => .tup [.int e.num, .int e.day, .int e.wri, .int e.hand, .str x, .int o]
theorem EntAt.tg {p : Addr} {H : Hp} {a : Addr} {e : En} (h : EntAt H a e) : TgAt p H (.ref a) (entT e) := by
  unfold EntAt at h
  unfold entT
  cases hkd : e.kd with
  | deed g t rs ws =>
    rw [hkd] at h
    obtain ⟨r, w, h1, h2, h3⟩ := h
    exact .tup h1 (.cons (.int _) (.cons (.int _) (.cons (.int _) (.cons (.int _) (.cons (.str _) (.cons (.int _) (.cons (.int _) (.cons (.tup h2 (TgAll.ints rs)) (.cons (.tup h3 (TgAll.ints ws)) .nil)))))))))
  | act x o =>
    rw [hkd] at h
    exact .tup h (.cons (.int _) (.cons (.int _) (.cons (.int _) (.cons (.int _) (.cons (.str _) (.cons (.int _) .nil))))))
theorem all_int (lo hi : Int) (rs : List Int) : ((rs.map Tg.int).all (Tg.within lo hi) = true) ↔ ∀ r ∈ rs, lo ≤ r ∧ r ≤ hi := by
  rw [List.all_map, List.all_eq_true]
  constructor
  · intro h r hr
    have := h r hr
    simp only [Function.comp_apply, Tg.within, Bool.and_eq_true, decide_eq_true_eq] at this
    exact this
  · intro h r hr
    simp only [Function.comp_apply, Tg.within, Bool.and_eq_true, decide_eq_true_eq]
    exact h r hr
theorem toI_int (rs : List Int) : (rs.map Tg.int).map Tg.toI = rs := by
  rw [List.map_map]
  exact (List.map_congr_left fun _ _ => rfl).trans (List.map_id _)
theorem risT_int {m l : Int} {rs : List Int} : (risT m l (.tup (rs.map Tg.int)) = true) ↔ (rs.length : Int) ≤ m ∧ (∀ r ∈ rs, 0 ≤ r ∧ r ≤ l - 1) ∧ rs.Pairwise (· < ·) := by
  unfold risT
  rw [Bool.and_eq_true, Bool.and_eq_true, all_int, toI_int, risI_iff, decide_eq_true_eq, List.length_map]
/-- an entry as is_entry asks -/
def EntOk (n : Nat) (e : En) : Prop := (0 ≤ e.num ∧ e.num ≤ 30) ∧ (0 ≤ e.day ∧ e.day ≤ 9999) ∧ (0 ≤ e.wri ∧ e.wri ≤ 9999) ∧ (0 ≤ e.hand ∧ e.hand ≤ 3) ∧ match e.kd with
  | .deed g t rs ws => (0 ≤ g ∧ g ≤ (n : Int) - 1) ∧ (0 ≤ t ∧ t ≤ (n : Int) - 1) ∧ g ≠ t ∧ ((rs.length : Int) ≤ 2 ∧ (∀ r ∈ rs, 0 ≤ r ∧ r ≤ e.num - 1) ∧ rs.Pairwise (· < ·)) ∧ ((ws.length : Int) ≤ 3 ∧ (∀ r ∈ ws, 0 ≤ r ∧ r ≤ (n : Int) - 1) ∧ ws.Pairwise (· < ·)) ∧ g ∉ ws ∧ t ∉ ws
  | .act x o => x ∈ [("paid" : Str), "void", "undone"] ∧ (0 ≤ o ∧ o ≤ e.num - 1)
theorem isEntT_iff {n : Nat} {e : En} (hx : ∀ x o, e.kd = .act x o → x ≠ "deed") : (isEntT n (entT e) = true) ↔ EntOk n e := by
  unfold entT EntOk
  cases hk : e.kd with
  | deed g t rs ws =>
    show ((Tg.int e.num).within 0 30 && ((Tg.int e.day).within 0 9999 && ((Tg.int e.wri).within 0 9999 && ((Tg.int e.hand).within 0 3 && deedTailT n e.num [.int g, .int t, .tup (rs.map Tg.int), .tup (ws.map Tg.int)])))) = true ↔ _
    have hw : ∀ x, (hasI x (.tup (ws.map Tg.int))) = decide (x ∈ ws) := fun x => by
      show decide (x ∈ (ws.map Tg.int).map Tg.toI) = _
      rw [toI_int]
    show ((Tg.int e.num).within 0 30 && ((Tg.int e.day).within 0 9999 && ((Tg.int e.wri).within 0 9999 && ((Tg.int e.hand).within 0 3 && ((Tg.int g).within 0 ((n : Int) - 1) && ((Tg.int t).within 0 ((n : Int) - 1) && (!decide (g = t) && (risT 2 e.num (.tup (rs.map Tg.int)) && (risT 3 n (.tup (ws.map Tg.int)) && (!hasI g (.tup (ws.map Tg.int)) && !hasI t (.tup (ws.map Tg.int)))))))))))) = true ↔ _
    simp only [Bool.and_eq_true, Tg.within, decide_eq_true_eq, risT_int, hw, Bool.not_eq_true', decide_eq_false_iff_not, ne_eq]
  | act x o =>
    have hne := hx x o hk
    show ((Tg.int e.num).within 0 30 && ((Tg.int e.day).within 0 9999 && ((Tg.int e.wri).within 0 9999 && ((Tg.int e.hand).within 0 3 && (if x = "deed" then deedTailT n e.num [.int o] else decide (x ∈ [("paid" : Str), "void", "undone"]) && actTailT e.num [.int o]))))) = true ↔ _
    rw [if_neg hne]
    unfold actTailT
    simp only [Bool.and_eq_true, Tg.within, decide_eq_true_eq]
/-- an act may be of what is no less than it -/
def EnWk (n : Nat) (ds as : List Int) (e : En) : Prop := match e.kd with
  | .deed _ _ rs _ => ∀ r ∈ rs, r ∈ ds
  | .act x o => (x = "undone" ∧ o ∈ as) ∨ ((x = "paid" ∨ x = "void") ∧ o ∈ ds)
theorem EnOk.wk {n : Nat} {ds as : List Int} {e : En} (h : EnOk n ds as e) : EnWk n ds as e := by
  unfold EnOk at h
  unfold EnWk
  obtain ⟨_, _, _, d⟩ := h
  cases hk : e.kd with
  | deed g t rs ws =>
    rw [hk] at d
    exact fun r hr => (d.2.2.2.2.2.1 r hr).1
  | act x o =>
    rw [hk] at d
    exact d.1
theorem EnWk.neD {n : Nat} {ds as : List Int} {e : En} (h : EnWk n ds as e) : ∀ x o, e.kd = .act x o → x ≠ "deed" := fun x o hk z => by
  unfold EnWk at h
  rw [hk, z] at h
  rcases h with ⟨h, _⟩ | ⟨h | h, _⟩ <;> exact absurd h (by decide)
theorem EnWk.word {n : Nat} {ds as : List Int} {e : En} (h : EnWk n ds as e) : e.word = "deed" ↔ e.isDeed = true := by
  unfold En.word En.isDeed
  cases hk : e.kd with
  | deed g t rs ws => exact ⟨fun _ => rfl, fun _ => rfl⟩
  | act x o => exact ⟨fun z => absurd z (h.neD x o hk), fun z => nomatch z⟩
/-- as few names -/
theorem EnOk.entOk {n : Nat} {ds as : List Int} {e : En} (h : EnOk n ds as e) (hn : 0 ≤ e.num ∧ e.num ≤ 30) (hd : ∀ d ∈ ds, 0 ≤ d) (ha : ∀ d ∈ as, 0 ≤ d) : EntOk n e := by
  unfold EnOk at h
  unfold EntOk
  obtain ⟨a, b, c, d⟩ := h
  refine ⟨hn, a, b, c, ?_⟩
  cases hk : e.kd with
  | deed g t rs ws =>
    rw [hk] at d
    obtain ⟨d1, d2, d3, d4, d5, d6, d7, d8, d9⟩ := d
    exact ⟨⟨d1.1, by omega⟩, ⟨d2.1, by omega⟩, d3, ⟨by omega, fun r hr => ⟨hd r (d6 r hr).1, by have := (d6 r hr).2; omega⟩, d5⟩, ⟨by omega, fun r hr => ⟨(d9 r hr).1, by have := (d9 r hr).2.1; omega⟩, d8⟩, fun z => (d9 g z).2.2.1 rfl, fun z => (d9 t z).2.2.2 rfl⟩
  | act x o =>
    rw [hk] at d
    refine ⟨?_, ?_, by omega⟩
    · rcases d.1 with ⟨z, _⟩ | ⟨z | z, _⟩ <;> rw [z] <;> decide
    · rcases d.1 with ⟨_, z⟩ | ⟨_, z⟩
      · exact ha o z
      · exact hd o z
theorem EntOk.enOk {n : Nat} {ds as : List Int} {e : En} (h : EntOk n e) (hd : ∀ r ∈ e.rests, r ∈ ds) (ha : e.isDeed = false → (e.word = "undone" ∧ e.of ∈ as) ∨ ((e.word = "paid" ∨ e.word = "void") ∧ e.of ∈ ds)) : EnOk n ds as e := by
  unfold EntOk at h
  unfold EnOk
  obtain ⟨_, a, b, c, d⟩ := h
  refine ⟨a, b, c, ?_⟩
  unfold En.rests at hd
  unfold En.isDeed En.word En.of at ha
  cases hk : e.kd with
  | deed g t rs ws =>
    rw [hk] at d hd
    obtain ⟨d1, d2, d3, ⟨d4, d5, d6⟩, ⟨d7, d8, d9⟩, d10, d11⟩ := d
    exact ⟨⟨d1.1, by omega⟩, ⟨d2.1, by omega⟩, d3, by omega, d6, fun r hr => ⟨hd r hr, by have := (d5 r hr).2; omega⟩, by omega, d9, fun x hx => ⟨(d8 x hx).1, by have := (d8 x hx).2; omega, fun z => d10 (z ▸ hx), fun z => d11 (z ▸ hx)⟩⟩
  | act x o =>
    rw [hk] at d ha
    exact ⟨ha rfl, by omega⟩
end Deed

namespace Deed
open PySem PySem.Spec PyProof.Rows L2 LamX RZ
/-! ### whether names fit -/
abbrev wdk (es : List En) : List (Key × V) := es.map fun e => (Sum.inl e.num, V.str e.word)
theorem valV_none {α : Type} {f : α → Int} {g : α → V} {l : List α} {r : Int} (h : ∀ z ∈ l, f z ≠ r) : valV (l.map fun z => ((Sum.inl (f z) : Key), g z)) (.inl r) = none := by
  induction l with
  | nil => rfl
  | cons y l ih =>
    show Option.map (·.2) (List.find? (fun kv => decide (kv.1 = (Sum.inl r : Key))) ((Sum.inl (f y), g y) :: l.map fun z => ((Sum.inl (f z) : Key), g z))) = _
    rw [List.find?_cons]
    have hne : ¬ (Sum.inl (f y) : Key) = Sum.inl r := fun q => h y List.mem_cons_self (Sum.inl.inj q)
    rw [decide_eq_false hne]
    exact ih fun z hz => h z (List.mem_cons_of_mem _ hz)
structure EsOk (es : List En) : Prop where
  nd : (es.map (·.num)).Nodup
  wd : ∀ e ∈ es, (e.word = "deed" ↔ e.isDeed = true)
  aw : ∀ e ∈ es, e.isDeed = false → e.word ∈ ([("paid" : Str), "void", "undone"] : List Str)
theorem num_one {es : List En} (nd : (es.map (·.num)).Nodup) {u v : En} (hu : u ∈ es) (hv : v ∈ es) (e : u.num = v.num) : u = v := by
  induction es with
  | nil => cases hu
  | cons x l ih =>
    have h2 := List.nodup_cons.mp (show (x.num :: l.map (·.num)).Nodup from nd)
    rcases List.mem_cons.mp hu with h1 | h1
    · rcases List.mem_cons.mp hv with h3 | h3
      · rw [h1, h3]
      · exact absurd (show x.num ∈ l.map (·.num) from List.mem_map.mpr ⟨v, h3, by rw [← e, h1]⟩) h2.1
    · rcases List.mem_cons.mp hv with h3 | h3
      · exact absurd (show x.num ∈ l.map (·.num) from List.mem_map.mpr ⟨u, h1, by rw [e, h3]⟩) h2.1
      · exact ih h2.2 h1 h3
theorem get_deed {es : List En} (h : EsOk es) (r : Int) : decide ((valV (wdk es) (.inl r)).getD .non = V.str "deed") = decide (r ∈ dn es) := by
  by_cases hr : ∃ u ∈ es, u.num = r
  · obtain ⟨u, hu, rfl⟩ := hr
    rw [valV_map (f := fun e : En => e.num) (g := fun e : En => V.str e.word) h.nd hu]
    refine decide_eq_decide.mpr ⟨fun z => ?_, fun z => ?_⟩
    · injection z with z
      exact mem_dn.mpr ⟨u, hu, (h.wd u hu).mp z, rfl⟩
    · obtain ⟨v, hv, hd, e⟩ := mem_dn.mp z
      have := num_one h.nd hv hu e
      subst this
      show V.str v.word = V.str "deed"
      rw [(h.wd v hv).mpr hd]
  · rw [valV_none (f := fun e : En => e.num) (g := fun e : En => V.str e.word) fun z hz e => hr ⟨z, hz, e⟩]
    refine decide_eq_decide.mpr ⟨fun z => (by cases z), fun z => ?_⟩
    obtain ⟨v, hv, _, e⟩ := mem_dn.mp z
    exact absurd ⟨v, hv, e⟩ hr
theorem mem_an' {es : List En} {r : Int} : r ∈ an es ↔ ∃ u ∈ es, u.isDeed = false ∧ u.num = r := by
  unfold an
  rw [List.mem_map]
  constructor
  · rintro ⟨u, hu, e⟩
    obtain ⟨h1, h2⟩ := List.mem_filter.mp hu
    exact ⟨u, h1, by simpa using h2, e⟩
  · rintro ⟨u, hu, hd, e⟩
    exact ⟨u, List.mem_filter.mpr ⟨hu, by simp [hd]⟩, e⟩
theorem get_act {es : List En} (h : EsOk es) (r : Int) : inV ((valV (wdk es) (.inl r)).getD .non) [V.str "paid", V.str "void", V.str "undone"] = decide (r ∈ an es) := by
  by_cases hr : ∃ u ∈ es, u.num = r
  · obtain ⟨u, hu, rfl⟩ := hr
    rw [valV_map (f := fun e : En => e.num) (g := fun e : En => V.str e.word) h.nd hu]
    refine (mem_inS (x := u.word) (ws := ["paid", "void", "undone"])).trans (decide_eq_decide.mpr ⟨fun z => ?_, fun z => ?_⟩)
    · refine mem_an'.mpr ⟨u, hu, ?_, rfl⟩
      cases hd : u.isDeed with
      | false => rfl
      | true =>
        rw [(h.wd u hu).mpr hd] at z
        exact absurd z (by decide +kernel)
    · obtain ⟨v, hv, hd, e⟩ := mem_an'.mp z
      have := num_one h.nd hv hu e
      subst this
      exact h.aw v hv hd
  · rw [valV_none (f := fun e : En => e.num) (g := fun e : En => V.str e.word) fun z hz e => hr ⟨z, hz, e⟩]
    have : ¬ r ∈ an es := fun z => by
      obtain ⟨v, hv, _, e⟩ := mem_an'.mp z
      exact hr ⟨v, hv, e⟩
    rw [decide_eq_false this]
    rfl
end Deed

namespace Deed
open PySem PySem.Spec PyProof.Rows L2 LamX
def fitE (es : List En) (e : En) : Bool := if e.isDeed = true then e.rests.all (fun r => decide (r ∈ dn es)) else if e.word = "undone" then decide (e.of ∈ an es) else decide (e.of ∈ dn es)
theorem BkOk.esOk {n : Nat} {es : List En} (h : BkOk n es) : EsOk es := by
  refine ⟨h.nd, fun e he => (h.ok e he).word, fun e he hd => ?_⟩
  have h4 := (h.ok e he).2.2.2
  unfold En.isDeed at hd
  unfold En.word
  cases hk : e.kd with
  | deed g t rs ws => rw [hk] at hd; cases hd
  | act x o =>
    rw [hk] at h4
    rcases h4.1 with ⟨z, _⟩ | ⟨z | z, _⟩ <;> (show x ∈ _; rw [z]; decide)
theorem wordT_ent (e : En) : wordT (entT e) = e.word := by
  unfold entT En.word
  cases e.kd <;> rfl
theorem restsT_ent {e : En} (h : e.isDeed = true) : restsT (entT e) = e.rests := by
  unfold entT En.rests
  unfold En.isDeed at h
  cases hk : e.kd with
  | deed g t rs ws => exact toI_int rs
  | act x o => rw [hk] at h; cases h
theorem ofT_ent {e : En} (h : e.isDeed = false) : ofT (entT e) = e.of := by
  unfold entT En.of
  unfold En.isDeed at h
  cases hk : e.kd with
  | deed g t rs ws => rw [hk] at h; cases h
  | act x o => rfl
theorem numT_ent (e : En) : numT (entT e) = e.num := by
  unfold entT
  cases e.kd <;> rfl
theorem wdk_ok (es : List En) : WdOk (wdk es) := fun kv hkv => by
  obtain ⟨e, _, rfl⟩ := List.mem_map.mp hkv
  exact ⟨_, rfl⟩
theorem fitT_ent {es : List En} (hs : EsOk es) {e : En} (hw : e.word = "deed" ↔ e.isDeed = true) : fitT (wdk es) (entT e) = fitE es e := by
  unfold fitT fitE
  rw [wordT_ent]
  cases hd : e.isDeed with
  | true =>
    rw [if_pos (hw.mpr hd), if_pos rfl, restsT_ent hd]
    congr 1
    funext r
    exact get_deed hs r
  | false =>
    rw [if_neg (fun z => by rw [hw.mp z] at hd; cases hd), if_neg (show ¬ (false = true) by decide), ofT_ent hd]
    by_cases hu : e.word = "undone"
    · rw [if_pos hu, if_pos hu, ← get_act hs e.of]
      show decide (getW (wdk es) e.of ∈ ([("paid" : Str), "void", "undone"] : List Str).map V.str) = inV (getW (wdk es) e.of) (([("paid" : Str), "void", "undone"] : List Str).map V.str)
      rcases getW_or (wdk_ok es) e.of with z | ⟨x, z⟩ <;> rw [z]
      · exact (decide_eq_false (by simp)).trans (by rfl)
      · rw [mem_inS]
        exact decide_eq_decide.mpr ⟨fun q => by
          obtain ⟨y, hy, e⟩ := List.mem_map.mp q
          injection e with e
          exact e ▸ hy, fun q => List.mem_map.mpr ⟨x, q, rfl⟩⟩
    · rw [if_neg hu, if_neg hu]
      exact get_deed hs e.of
theorem dn_app (es : List En) (e : En) : dn (es ++ [e]) = dn es ++ (if e.isDeed = true then [e.num] else []) := by
  unfold dn
  rw [List.filter_append, List.map_append, List.filter_cons]
  cases e.isDeed <;> rfl
theorem an_app (es : List En) (e : En) : an (es ++ [e]) = an es ++ (if e.isDeed = true then [] else [e.num]) := by
  unfold an
  rw [List.filter_append, List.map_append, List.filter_cons]
  cases e.isDeed <;> rfl
/-- what a good entry more names is there already -/
theorem more_names {n : Nat} {es : List En} {e : En} (h : BkOk n (es ++ [e])) : (∀ r ∈ e.rests, r ∈ dn es) ∧ (e.isDeed = false → (e.word = "undone" ∧ e.of ∈ an es) ∨ ((e.word = "paid" ∨ e.word = "void") ∧ e.of ∈ dn es)) := by
  have h4 := (h.ok e (by simp)).2.2.2
  have ne : ∀ {r : Int}, r < e.num → r ∈ dn (es ++ [e]) → r ∈ dn es := fun {r} hl hr => by
    rw [dn_app] at hr
    rcases List.mem_append.mp hr with h | h
    · exact h
    · cases hd : e.isDeed with
      | true =>
        rw [hd, if_pos rfl] at h
        have := List.mem_singleton.mp h
        omega
      | false =>
        rw [hd, if_neg (by decide)] at h
        cases h
  have na : ∀ {r : Int}, r < e.num → r ∈ an (es ++ [e]) → r ∈ an es := fun {r} hl hr => by
    rw [an_app] at hr
    rcases List.mem_append.mp hr with h | h
    · exact h
    · cases hd : e.isDeed with
      | false =>
        rw [hd, if_neg (by decide)] at h
        have := List.mem_singleton.mp h
        omega
      | true =>
        rw [hd, if_pos rfl] at h
        cases h
  unfold En.rests En.isDeed En.word En.of
  cases hk : e.kd with
  | deed g t rs ws =>
    rw [hk] at h4
    exact ⟨fun r hr => ne (h4.2.2.2.2.2.1 r hr).2 (h4.2.2.2.2.2.1 r hr).1, fun z => nomatch z⟩
  | act x o =>
    rw [hk] at h4
    refine ⟨fun r hr => (nomatch hr), fun _ => ?_⟩
    rcases h4.1 with ⟨z, ho⟩ | ⟨z, ho⟩
    · exact .inl ⟨z, na h4.2 ho⟩
    · exact .inr ⟨z, ne h4.2 ho⟩
theorem BkOk.less {n : Nat} {es : List En} {e : En} (h : BkOk n (es ++ [e])) : EntOk n e ∧ e.num ∉ es.map (·.num) ∧ (e.word = "deed" ↔ e.isDeed = true) ∧ fitE es e = true := by
  have he : e ∈ es ++ [e] := by simp
  have hr := h.rng e he
  have hdn : ∀ d ∈ dn (es ++ [e]), 0 ≤ d := fun d hd => by
    obtain ⟨u, hu, _, rfl⟩ := mem_dn.mp hd
    exact (h.rng u hu).1
  have han : ∀ d ∈ an (es ++ [e]), 0 ≤ d := fun d hd => by
    obtain ⟨u, hu, _, rfl⟩ := mem_an.mp hd
    exact (h.rng u hu).1
  refine ⟨(h.ok e he).entOk hr hdn han, ?_, (h.ok e he).word, ?_⟩
  · have nd := h.nd
    rw [List.map_append, List.map_cons, List.map_nil] at nd
    intro z
    exact (List.nodup_append.mp nd).2.2 _ z _ (by simp) rfl
  · obtain ⟨m1, m2⟩ := more_names h
    unfold fitE
    cases hd : e.isDeed with
    | true =>
      rw [if_pos rfl, List.all_eq_true]
      exact fun r hr => decide_eq_true (m1 r hr)
    | false =>
      rw [if_neg (by decide)]
      rcases m2 hd with ⟨z, ho⟩ | ⟨z, ho⟩
      · rw [if_pos z]
        exact decide_eq_true ho
      · rw [if_neg (fun q => by rcases z with z | z <;> (rw [z] at q; exact absurd q (by decide)))]
        exact decide_eq_true ho
theorem wdk_snoc {es : List En} {e : En} (h : e.num ∉ es.map (·.num)) : putK (wdk es) (.inl e.num) (.str e.word) = wdk (es ++ [e]) := by
  rw [putK_new]
  · rw [show wdk (es ++ [e]) = wdk es ++ [(Sum.inl e.num, V.str e.word)] from List.map_append]
  · intro z
    obtain ⟨kv, hkv, e2⟩ := List.mem_map.mp z
    obtain ⟨u, hu, rfl⟩ := List.mem_map.mp hkv
    exact h (List.mem_map.mpr ⟨u, hu, Sum.inl.inj e2⟩)
end Deed

namespace Deed
open PySem PySem.Spec PyProof.Rows L2 LamX
section
variable {P : Program} {w : World} {K : PySem.W.Frag} {mg : Str → Option Value} {base : Heap} {T : List (Addr × Str)}
abbrev sWithE : Stmt := topS 60
abbrev nWithE : List Str := ["book", "entry", "folk", "age", "entries", "words", "other"]
abbrev pWithE : List Str := ["book", "entry"]
theorem scWithE : FnScope nWithE pWithE (defScope sWithE) := ⟨rfl, rfl, rfl, by decide +kernel, rfl, by decide +kernel, by decide +kernel⟩
def spWithE : Sp := fun vs H Q _ => ∃ (b fk t a : Addr) (n : Nat) (age : Int) (zs : List (Addr × En)) (e : En), vs = [.ref b, .ref a] ∧ BookAt H b fk t n age zs ∧ EntAt H a e ∧ BkOk n (ens zs ++ [e]) ∧ zs.length < 16 ∧ ∀ b' t' H', Same H H' → BookAt H' b' fk t' n age (zs ++ [(a, e)]) → Q (.ref b') H'
theorem ok_WithE {f : Addr} {fd : FuncData} {k : Nat} (F : Fun K "with_entry" "with_entry" sWithE f fd) (C_is_entry : CallOk P w K mg base k "is_entry" pIsEntG spEntG) (C_names_fit : CallOk P w K mg base k "names_fit" pNFit spNFit) (m_len : mg "len" = none) (iNUMBER : MgInt mg "NUMBER" 0) (iWORD : MgInt mg "WORD" 4) (iMOST_ENTRIES : MgInt mg "MOST_ENTRIES" 16) : FnOk P w K mg base CX0 (k + 1) f fd pWithE spWithE := by
  refine F.ok scWithE (fun vs H Q E h => ?_) (fun cdv A outer s H vs Q E hr h => ?_)
  · obtain ⟨b, fk, t, a, n, age, zs, e, rfl, _⟩ := h
    rfl
  · obtain ⟨b, fk, t, a, n, age, zs, e, rfl, hB, hE, hM, hl, q⟩ := h
    have nd := scWithE.nd
    have hu := hu_of hr
    refine ⟨_, pss_cons (ps_asg (pv 0) (pg_tup (by rfl) (pgs_cons (pg_name (i := 2) nd rfl (.inl rfl)) (pgs_cons (pg_name (i := 3) nd rfl (.inl rfl)) (pgs_cons (pg_name (i := 4) nd rfl (.inl rfl)) pgs_nil)))))
      (pss_cons (ps_if (pt_not (pt_val (pe_call C_is_entry.ok hr (by rfl) C_is_entry.g C_is_entry.kp C_is_entry.b .nil pass0 (pa_cons (pv 2) (pa_cons (pv 1) pa_nil))))) pss_never pss_nil)
      (pss_cons (ps_setDc (i := 5) (own := [("other", 6)]) (g := gName 6) (by rfl) nd rfl rfl (swD_true rfl rfl rfl (by decide +kernel)) (pi_tup (pv 4)) (blkOk_by (own := [("other", 6)]) (N := nWithE) (sc := defScope sWithE) (by decide +kernel)) (fun _ _ _ _ _ => pg_name (i := 6) nd rfl (Or.inl rfl)) (fun _ _ _ _ _ => pts_nil)
          (fun _ _ _ _ _ => show PE _ _ (tOp (rIxT K) (tVar 6) (tC (.int 0))) from pe_ix ix_tup (pv 6) (pe_num (by rfl) iNUMBER) (fun _ _ => rfl)) (fun _ _ _ _ _ => show PE _ _ (tOp (rIxT K) (tVar 6) (tC (.int 4))) from pe_ix ix_tup (pv 6) (pe_num (by rfl) iWORD) (fun _ _ => rfl)))
      (pss_cons (ps_if (pt_cmp (pc_din hu (pe_ix ix_tup (pv 1) (pe_num (by rfl) iNUMBER) (fun _ _ => rfl)) (pv 5))) pss_never pss_nil)
      (pss_cons (ps_if (pt_not (pt_val (pe_call C_names_fit.ok hr (by rfl) C_names_fit.g C_names_fit.kp C_names_fit.b .nil pass0 (pa_cons (pv 5) (pa_cons (pv 1) pa_nil))))) pss_never pss_nil)
      (pss_cons (ps_if (pt_cmpR op_ge (pe_callB call_len_seq (by rfl) m_len (by decide +kernel) (pa_cons (pv 4) pa_nil)) (pe_num (by rfl) iMOST_ENTRIES) (nomark _)) pss_never pss_nil)
      (pss_one (ps_ret (pe_tup (pa_cons (pv 2) (pa_cons (pv 3) (pa_cons (pe_op op_catA (pv 4) (pe_tup (pa_cons (pv 1) pa_nil))) pa_nil))))))))))), ?_⟩
    obtain ⟨hEo, hnum, hwd, hfit⟩ := hM.less
    have hneD : ∀ x o, e.kd = .act x o → x ≠ "deed" := fun x o hk z => by
      have h1 : e.word = "deed" := by
        unfold En.word
        rw [hk]
        exact z
      have h2 := hwd.mp h1
      unfold En.isDeed at h2
      rw [hk] at h2
      cases h2
    have hisE : isEntT n (entT e) = true := (isEntT_iff hneD).mpr hEo
    refine ⟨_, rfl, b, _, rfl, SqT.of hB.at_, rfl, _, _, rfl, _, _, rfl, _, _, rfl, rfl, ?_⟩
    obtain ⟨ts, hts, htl, _, hfo⟩ := folk_tg (p := b) hB.folk (by have := hB.n6; omega)
    refine ⟨_, rfl, _, rfl, b, _, _, _, _, rfl, hts, hE.tg, fun H1 s1 => ⟨_, rfl, ?_⟩⟩
    have hf1 : (isFolkT (.tup ts) && isEntT (lenT (.tup ts)) (entT e)) = true := by
      have h1 : isFolkT (.tup ts) = true := by
        show ((decide (1 ≤ ts.length) && decide (ts.length ≤ 6)) && ts.all isPersonT) = true
        rw [hfo, htl, decide_eq_true (by have := hB.n2; omega), decide_eq_true hB.n6]
        rfl
      have h2 : lenT (.tup ts) = n := by
        show ((ts.length : Nat) : Int) = n
        rw [htl]
      rw [h1, h2, hisE]
      rfl
    rw [hf1]
    refine iteF ?_
    have et1 := s1 _ _ hB.ents
    refine ⟨_, rfl, t, rfl, ⟨_, SqT.of et1⟩, fun W nW => ?_⟩
    refine dc_tup (K := K) (a := t) (xs := refs zs) (fun i H' => H' W = some (.dK (wdk ((ens zs).take i))) ∧ Same H1 H') ⟨upd_same, same_new nW _⟩ (fun i H' _ h => SqT.of (h.2 _ _ et1)) ?_ ?_
    · rintro i x H' hx ⟨eW, sm⟩
      rw [List.getElem?_map] at hx
      cases hz : zs[i]? with
      | none => rw [hz] at hx; cases hx
      | some z =>
        rw [hz] at hx
        injection hx with hx
        subst hx
        have hzm := List.mem_of_getElem? hz
        obtain ⟨xs, ex, g0, _, _, _, g4⟩ := ((hB.ent z hzm).kp ((Same.tup (s1.trans sm)))).tup
        have hz2 : (ens zs)[i]? = some z.2 := by rw [List.getElem?_map, hz]; rfl
        have hni : z.2.num ∉ ((ens zs).take i).map (·.num) := by
          have nd := hB.ok.nd
          have hsp : (ens zs).take (i + 1) = (ens zs).take i ++ [z.2] := take_more hz2
          have nd2 : (((ens zs).take (i + 1)).map (·.num)).Nodup := ((List.take_sublist _ _).map _).nodup nd
          rw [hsp, List.map_append] at nd2
          intro q
          exact (List.nodup_append.mp nd2).2.2 _ q _ (by simp) rfl
        refine ⟨rfl, ?_⟩
        unfold tYes
        dsimp only
        rw [if_pos rfl]
        refine ⟨_, rfl, z.1, xs, 0, _, rfl, rfl, SqT.of ex, g0, _, rfl, z.1, xs, 4, _, rfl, rfl, SqT.of ex, g4, _, Sum.inl z.2.num, rfl, eW, small1000 (by have := hB.len; rw [List.length_map, List.length_take, List.length_map]; omega), ?_, same_put nW sm _⟩
        rw [upd_same, wdk_snoc hni, ← take_more hz2]
    rintro H2 ⟨eW, s2⟩
    have s02 := s1.trans s2
    rw [show (refs zs).length = (ens zs).length by rw [List.length_map, List.length_map], List.take_length] at eW
    obtain ⟨xe, exe, g0, _, _, _, g4⟩ := (hE.kp (Same.tup s02)).tup
    have hno : DGet H2 W (.int e.num) none := by
      have h4 := DGet.k (k := Sum.inl e.num) eW
      rw [valV_none (fun q hq => ?_)] at h4
      · exact h4
      · exact fun z => hnum (List.mem_map.mpr ⟨q, hq, z⟩)
    refine ⟨_, rfl, a, xe, 0, _, rfl, rfl, SqT.of exe, g0, _, rfl, W, _, rfl, hno, _, rfl, ?_⟩
    refine iteF ?_
    refine ⟨_, rfl, _, rfl, b, W, wdk (ens zs), _, _, n, rfl, eW, wdk_ok _, (hE.kp (Same.tup s02)).tg, hisE, fun H3 s3 => ⟨_, rfl, ?_⟩⟩
    rw [fitT_ent hB.ok.esOk hwd, hfit]
    refine iteF ?_
    have s03 := s02.trans s3
    refine ⟨_, rfl, t, _, rfl, .inr (SqT.of (s03 _ _ hB.ents)), _, _, rfl, rfl, _, rfl, ?_⟩
    rw [decide_eq_false (show ¬ (((refs zs).length : Nat) : Int) ≥ 16 by rw [List.length_map]; omega)]
    refine iteF ?_
    refine ⟨_, rfl, _, rfl, _, rfl, _, rfl, (by show 1 ≤ sizeLine; decide), fun t1 nt1 => ?_⟩
    have s4 := same_new nt1 (.tup [.ref a])
    have e4 : (upd H3 t1 (.tup [.ref a])) t1 = some (.tup [.ref a]) := upd_same
    generalize upd H3 t1 (.tup [.ref a]) = H4 at s4 e4
    have s04 := s03.trans s4
    refine catA_same (s04 _ _ hB.ents) e4 (by rw [List.length_map]; show zs.length + 1 ≤ 1000; omega) fun t2 H5 s5 e5 => ?_
    refine ⟨(by show 3 ≤ sizeLine; decide), fun t3 nt3 => ?_⟩
    have s6 := same_new nt3 (.tup [.ref fk, .int age, .ref t2])
    have e6 : (upd H5 t3 (.tup [.ref fk, .int age, .ref t2])) t3 = some (.tup [.ref fk, .int age, .ref t2]) := upd_same
    generalize upd H5 t3 (.tup [.ref fk, .int age, .ref t2]) = H6 at s6 e6
    have s06 := s04.trans (s5.trans s6)
    have hB6 := hB.kp (Same.tup s06)
    refine q t3 t2 H6 s06 ⟨e6, hB6.folk, hB6.n2, hB6.n6, hB6.age0, hB6.age1, ?_, fun z hz => ?_, ?_, by rw [List.length_append]; show zs.length + 1 ≤ 16; omega⟩
    · rw [s6 _ _ e5]
      simp [refs]
    · rcases List.mem_append.mp hz with hz | hz
      · exact hB6.ent z hz
      · rw [List.mem_singleton.mp hz]
        exact hE.kp (Same.tup s06)
    · rw [show ens (zs ++ [(a, e)]) = ens zs ++ [e] by simp [ens]]
      exact hM
abbrev sNamedIn : Stmt := topS 59
abbrev nNamedIn : List Str := ["entry"]
abbrev pNamedIn : List Str := ["entry"]
theorem scNamedIn : FnScope nNamedIn pNamedIn (defScope sNamedIn) := ⟨rfl, rfl, rfl, by decide +kernel, rfl, by decide +kernel, by decide +kernel⟩
def spNamedIn : Sp := fun vs H Q _ => ∃ (a : Addr) (e : En), vs = [.ref a] ∧ EntAt H a e ∧ (e.word = "deed" ↔ e.isDeed = true) ∧ ∀ l H', Same H H' → H' l = some (.tup (e.names.map V.int)) → Q (.ref l) H'
theorem ok_NamedIn {f : Addr} {fd : FuncData} {k : Nat} (F : Fun K "named_in" "named_in" sNamedIn f fd) (iWORD : MgInt mg "WORD" 4) (iRESTS : MgInt mg "RESTS" 7) (iOF : MgInt mg "OF" 5) : FnOk P w K mg base CX0 (k + 1) f fd pNamedIn spNamedIn := by
  refine F.ok scNamedIn (fun vs H Q E h => ?_) (fun cdv A outer s H vs Q E hr h => ?_)
  · obtain ⟨a, e, rfl, _⟩ := h
    rfl
  · obtain ⟨a, e, rfl, hE, hw, q⟩ := h
    have nd := scNamedIn.nd
    refine ⟨_, pss_cons (ps_if (pt_cmpR op_eq (pe_ix ix_tup (pv 0) (pe_num (by rfl) iWORD) (fun _ _ => rfl)) pe_str (nomark _)) (pss_one (ps_ret (pe_ix ix_tup (pv 0) (pe_num (by rfl) iRESTS) (fun _ _ => rfl)))) pss_nil)
      (pss_one (ps_ret (pe_tup (pa_cons (pe_ix ix_tup (pv 0) (pe_num (by rfl) iOF) (fun _ _ => rfl)) pa_nil)))), ?_⟩
    obtain ⟨xs, ex, _, _, _, _, g4⟩ := hE.tup
    refine ⟨_, rfl, a, xs, 4, _, rfl, rfl, SqT.of ex, g4, rfl, _, rfl, ?_⟩
    cases hd : e.isDeed with
    | true =>
      rw [decide_eq_true (congrArg V.str (hw.mpr hd))]
      refine iteT ?_
      obtain ⟨xs7, r, ex7, g7, er⟩ := hE.seven hd
      have en : e.names = e.rests := by
        unfold En.names En.rests
        unfold En.isDeed at hd
        cases hk : e.kd with
        | deed g t rs ws => rfl
        | act x o => rw [hk] at hd; cases hd
      rw [en] at q
      exact ⟨_, rfl, a, xs7, 7, _, rfl, rfl, SqT.of ex7, g7, q r H (same_refl _) er⟩
    | false =>
      rw [decide_eq_false (fun z => by
        injection z with z
        rw [hw.mp z] at hd
        cases hd)]
      refine iteF ?_
      obtain ⟨xs5, ex5, g5⟩ := hE.five hd
      have en : e.names = [e.of] := by
        unfold En.names En.of
        unfold En.isDeed at hd
        cases hk : e.kd with
        | deed g t rs ws => rw [hk] at hd; cases hd
        | act x o => rfl
      rw [en] at q
      exact ⟨_, rfl, a, xs5, 5, _, rfl, rfl, SqT.of ex5, g5, (by show 1 ≤ sizeLine; decide), fun l nl => q l _ (same_new nl _) upd_same⟩
end
end Deed

namespace Deed
open PySem PySem.Spec PyProof.Rows L2 LamX
section
variable {P : Program} {w : World} {K : PySem.W.Frag} {mg : Str → Option Value} {base : Heap} {T : List (Addr × Str)} {fW fA : Addr} {dW dA : FuncData}
abbrev sCheckDeed : Stmt := topS 49
theorem scCheckDeed : FnScope ["book", "thing"] ["book", "thing"] (defScope sCheckDeed) := ⟨rfl, rfl, rfl, by decide +kernel, rfl, by decide +kernel, by decide +kernel⟩
def spCkDeed (T : List (Addr × Str)) : Sp := fun vs H Q _ => ∃ (b fk t : Addr) (n : Nat) (age : Int) (zs : List (Addr × En)) (e : En), vs = [.ref b, .int e.num] ∧ BookAt H b fk t n age zs ∧ Tabs T H ∧ e ∈ ens zs ∧ e.isDeed = true ∧ ∀ H', ExtN H H' → Tabs T H' → Q .non H'
theorem ok_ckDeed {f : Addr} {fd : FuncData} {k : Nat} (F : Fun K "check_deed" "check_deed" sCheckDeed f fd) (DW : Df K mg "is_whole" sWhole ["thing"] fW dW) (mi : mg "isinstance" = none) (mn : mg "int" = none) (mb : mg "bool" = none) (DA : Df K mg "deeds_of" sDeedsOf ["book"] fA dA) (GA : FnOk P w K mg base CX0 (k + 1) fA dA ["book"] (spNums (·.isDeed) T)) :
    FnOk P w K mg base CX0 (k + 2) f fd ["book", "thing"] (spCkDeed T) := by
  have GW : FnOk P w K mg base CX0 (k + 1) fW dW ["thing"] spWholeI := ok_wholeI DW.F mi mn mb
  refine F.ok scCheckDeed (fun vs H Q E h => ?_) (fun cdv A outer s H vs Q E hr h => ?_)
  · obtain ⟨b, fk, t, n, age, zs, e, rfl, _⟩ := h
    rfl
  · obtain ⟨b, fk, t, n, age, zs, e, rfl, hB, hT, he, hφ, q⟩ := h
    refine ⟨_, pss_one (ps_if (PW.pt (pw_or (pt_not (pt_val (pe_call GW hr (by rfl) DW.g DW.F.kp DW.b .nil pass0 (pa_cons (pv 1) pa_nil)))) (pw_or1 (pt_cmpR op_notIn_seq (pv 1) (pe_call GA hr (by rfl) DA.g DA.F.kp DA.b .nil pass0 (pa_cons (pv 0) pa_nil)) (by rfl))))) pss_never pss_nil), ?_⟩
    refine ⟨_, rfl, e.num, rfl, _, rfl, ?_⟩
    refine iteF ?_
    refine ⟨_, rfl, _, rfl, b, fk, t, n, age, zs, rfl, hB, hT, fun p zs' H1 eN T1 _ ep pm so => ?_⟩
    refine ⟨p, _, rfl, .inl (SqL.of ep), rfl, flat_ints _, _, rfl, ?_⟩
    have hm : e.num ∈ (zs'.filter fun z => z.2.isDeed).map fun z => z.2.num := by
      obtain ⟨z, hz, rfl⟩ := List.mem_map.mp he
      exact List.mem_map.mpr ⟨z, List.mem_filter.mpr ⟨pm.mem_iff.mpr hz, hφ⟩, rfl⟩
    rw [mem_inV, decide_eq_true hm]
    exact iteF (q H1 eN T1)
end
end Deed

namespace Deed
open PySem PySem.Spec PyProof.Rows L2 LamX
section
variable {P : Program} {w : World} {K : PySem.W.Frag} {mg : Str → Option Value} {base : Heap} {T : List (Addr × Str)} {fCk fAl : Addr} {dCk dAl : FuncData}
abbrev sStOf : Stmt := topS 56
abbrev pStOf : List Str := ["book", "deed", "d", "k"]
theorem scStOf : FnScope pStOf pStOf (defScope sStOf) := ⟨rfl, rfl, rfl, by decide +kernel, rfl, by decide +kernel, by decide +kernel⟩
def spStOf (T : List (Addr × Str)) : Sp := fun vs H Q _ => ∃ (b fk t : Addr) (n : Nat) (age : Int) (zs : List (Addr × En)) (e : En) (d k : Int), vs = [.ref b, .int e.num, .int d, .int k] ∧ BookAt H b fk t n age zs ∧ Tabs T H ∧ e ∈ ens zs ∧ e.isDeed = true ∧ (0 ≤ d ∧ d ≤ 9999) ∧ (0 ≤ k ∧ k ≤ 9999) ∧
  ∀ H', ExtN H H' → Tabs T H' → Q (.str (st (ens zs) d k e)) H'
theorem ok_stOf {f : Addr} {fd : FuncData} {k : Nat} {dv : List V} (F : FunD K "standing_of" "standing_of" (defArgs sStOf) (defBody sStOf) (defScope sStOf) dv [] f fd)
    (DCk : Df K mg "check_deed" sCheckDeed ["book", "thing"] fCk dCk) (GCk : FnOk P w K mg base CX0 k fCk dCk ["book", "thing"] (spCkDeed T)) (gAl : mg "all_standing" = some (.ref fAl)) (kAl : PySem.W.keepIn K (.ref fAl) = true) (bAl : Binds K dAl pAllSt []) (GAl : FnOk P w K mg base CX0 k fAl dAl pAllSt (spAllSt T)) : FnOk P w K mg base CX0 (k + 1) f fd pStOf (spStOf T) := by
  refine F.ok scStOf (fun vs H Q E h => ?_) (fun cdv A outer s H vs Q E hr h => ?_)
  · obtain ⟨b, fk, t, n, age, zs, e, d, k, rfl, _⟩ := h
    rfl
  · obtain ⟨b, fk, t, n, age, zs, e, d, kk, rfl, hB, hT, he, hd, hd0, hk0, q⟩ := h
    have hu := hu_of hr
    refine ⟨_, PSs.nox (pss_cons (ps_expr (pe_call GCk hr (by rfl) DCk.g DCk.F.kp DCk.b .nil pass0 (pa_cons (pv 0) (pa_cons (pv 1) pa_nil))))
      (pss_one (ps_ret (pe_dget hu (pe_call GAl hr (by rfl) gAl kAl bAl .nil pass0 (pa_cons (pv 0) (pa_cons (pv 2) (pa_cons (pv 3) pa_nil)))) (pv 1) (fun _ _ => rfl))))), ?_⟩
    refine ⟨_, rfl, _, rfl, b, fk, t, n, age, zs, e, rfl, hB, hT, he, hd, fun H1 e1 T1 => ?_⟩
    refine ⟨_, rfl, _, rfl, _, rfl, b, fk, t, n, age, zs, d, kk, rfl, hB.kp (ExtN.tup e1), T1, hd0, hk0, fun p ys H2 e2 T2 fr2 ep hDU => ?_⟩
    have hm : e ∈ ens ys := (hDU.2.1 e).mpr ⟨he, hd⟩
    have dg : DGet H2 p (.int e.num) (some (.str (st (ens zs) d kk e))) := by
      have h1 := DGet.k (k := Sum.inl e.num) ep
      rw [valV_map (f := fun e : En => e.num) (g := fun e : En => V.str (st (ens zs) d kk e)) hDU.nodup hm] at h1
      exact h1
    exact ⟨_, rfl, p, _, rfl, dg, q H2 (e1.trans e2) T2⟩
end
end Deed

namespace Deed
open PySem PySem.Spec PyProof.Rows L2 LamX
theorem wdE_get {H : Hp} {wd : Addr} {es : List En} {d k : Int} {zs ys : List (Addr × En)} (hD : DeedsUp zs ys) (e : H wd = some (.dK (wdE es d k (ens ys)))) {u : En} (hu : u ∈ ens zs) (hd : u.isDeed = true) : DGet H wd (.int u.num) (some (.str (st es d k u))) := by
  obtain ⟨v, hv, rfl⟩ := List.mem_map.mp ((hD.2.1 u).mpr ⟨hu, hd⟩)
  have h4 := DGet.k (k := Sum.inl v.2.num) e
  have hnd := hD.nodup
  rw [show (ens ys).map (·.num) = ys.map (fun z => z.2.num) by simp [ens, List.map_map, Function.comp_def]] at hnd
  have hv1 := valV_map (f := fun z : Addr × En => z.2.num) (g := fun z : Addr × En => V.str (st es d k z.2)) hnd hv
  rw [show wdE es d k (ens ys) = ys.map (fun z : Addr × En => ((Sum.inl z.2.num : Key), V.str (st es d k z.2))) by simp [wdE, ens, List.map_map, Function.comp_def], hv1] at h4
  exact h4
theorem deedsUp_of {zs zs' : List (Addr × En)} (hl : zs.length ≤ 16) (pm : zs'.Perm zs) (so : zs'.Pairwise (fun a b => a.2.num < b.2.num)) : DeedsUp zs (zs'.filter fun z => z.2.isDeed) := by
  refine ⟨so.filter _, fun x => ?_, ?_⟩
  · constructor
    · intro hx
      obtain ⟨z, hz, rfl⟩ := List.mem_map.mp hx
      exact ⟨List.mem_map.mpr ⟨z, pm.mem_iff.mp (List.mem_filter.mp hz).1, rfl⟩, (List.mem_filter.mp hz).2⟩
    · rintro ⟨hx, hd⟩
      obtain ⟨z, hz, rfl⟩ := List.mem_map.mp hx
      exact List.mem_map.mpr ⟨z, List.mem_filter.mpr ⟨pm.mem_iff.mpr hz, hd⟩, rfl⟩
  · have h1 := List.length_filter_le (fun z : Addr × En => z.2.isDeed) zs'
    have h2 := pm.length_eq
    omega
/-- words of a book, at d as known at k -/
def WdD (H : Hp) (a : Addr) (zs : List (Addr × En)) (d k : Int) : Prop := ∃ us, DeedsUp zs us ∧ H a = some (.dK (wdE (ens zs) d k (ens us)))
theorem WdD.ext {H H' : Hp} {a : Addr} {zs : List (Addr × En)} {d k : Int} (h : WdD H a zs d k) (e : ExtN H H') : WdD H' a zs d k := by
  obtain ⟨us, h1, h2⟩ := h
  exact ⟨us, h1, e _ _ h2 fun _ z => by cases z⟩
theorem WdD.get {H : Hp} {a : Addr} {zs : List (Addr × En)} {d k : Int} (h : WdD H a zs d k) {e : En} (he : e ∈ ens zs) (hd : e.isDeed = true) : DGet H a (.int e.num) (some (.str (st (ens zs) d k e))) := by
  obtain ⟨us, h1, h2⟩ := h
  exact wdE_get h1 h2 he hd
/-- rows of a parting -/
abbrev Row4 := Int × Int × Str × Str
def tup4 (r : Row4) : List V := [.int r.1, .int r.2.1, .str r.2.2.1, .str r.2.2.2]
def T4At (H : Hp) (p : Addr) (rs : List Row4) : Prop := ∃ zs : List (Addr × Row4), H p = some (.lst (zs.map fun z => V.ref z.1)) ∧ zs.map (·.2) = rs ∧ ∀ z ∈ zs, H z.1 = some (.tup (tup4 z.2))
theorem T4At.ext {H H' : Hp} {p : Addr} {rs : List Row4} (h : T4At H p rs) (e : ExtN H H') : T4At H' p rs := by
  obtain ⟨zs, h1, h2, h3⟩ := h
  exact ⟨zs, e _ _ h1 (fun _ z => by cases z), h2, fun z hz => e _ _ (h3 z hz) fun _ z => by cases z⟩
def row4D (r : Row4) : PyData := .tuple [.int r.1, .int r.2.1, .str r.2.2.1, .str r.2.2.2]
def rows4D (rs : List Row4) : PyData := .list (rs.map row4D)
theorem dp_rows4 {K : PySem.W.Frag} {H : Hp} : ∀ (zs : List (Addr × Row4)), (∀ z ∈ zs, H z.1 = some (.tup (tup4 z.2))) → DpAll K H (zs.map fun z => V.ref z.1) ((zs.map (·.2)).map row4D)
  | [], _ => .nil
  | z :: r, h => .cons (.tup (SqT.of (h z List.mem_cons_self)) (.cons (.int _) (.cons (.int _) (.cons (.str _) (.cons (.str _) .nil))))) (dp_rows4 r fun x hx => h x (List.mem_cons_of_mem _ hx))
theorem T4At.dp {K : PySem.W.Frag} {H : Hp} {p : Addr} {rs : List Row4} (h : T4At H p rs) : Dp K H (.ref p) (rows4D rs) := by
  obtain ⟨zs, h1, rfl, h3⟩ := h
  exact .lst (SqL.of h1) (dp_rows4 zs h3)
theorem lay_rows4 : ∀ l : List Row4, (∀ q ∈ l, PyData.strOk q.2.2.1 = true ∧ PyData.strOk q.2.2.2 = true) → PyData.canLayAll0 (l.map row4D) = true
  | [], _ => by simp [PyData.canLayAll0]
  | q :: r, h => by
    have h1 := h q List.mem_cons_self
    simp [PyData.canLayAll0, row4D, PyData.canLay0, h1.1, h1.2, lay_rows4 r fun x hx => h x (List.mem_cons_of_mem _ hx)]
theorem depth_rows4 : ∀ l : List Row4, PyData.depthAll (l.map row4D) ≤ 3
  | [] => by simp [PyData.depthAll]
  | q :: r => by
    have h := depth_rows4 r
    simp only [List.map_cons, PyData.depthAll, PyData.depth, row4D]
    omega
theorem shaped_rows4 (l : List Row4) (hok : ∀ q ∈ l, PyData.strOk q.2.2.1 = true ∧ PyData.strOk q.2.2.2 = true) : SeqAt.shaped (rows4D l) = true := by
  have h1 := depth_rows4 l
  have h2 : PyData.depth (rows4D l) ≤ 64 := by
    unfold rows4D
    simp only [PyData.depth]
    omega
  show (PyData.canLay0 (rows4D l) && decide (PyData.depth (rows4D l) ≤ 64)) = true
  rw [Bool.and_eq_true]
  exact ⟨by unfold rows4D; simp only [PyData.canLay0]; exact lay_rows4 l hok, decide_eq_true h2⟩
theorem eqvAll_rows4 : ∀ l : List Row4, PyData.eqvAll (l.map row4D) (l.map row4D) = true
  | [] => by simp [PyData.eqvAll]
  | q :: r => by simp [PyData.eqvAll, row4D, PyData.eqv, eqvAll_rows4 r]
theorem eqv_rows4 (l : List Row4) : PyData.eqv (rows4D l) (rows4D l) = true := by
  unfold rows4D
  simp only [PyData.eqv]
  exact eqvAll_rows4 l
/-! ### what parts two books: the mathematics -/
theorem find_deed2 {n : Nat} {es : List En} (hB : BkOk n es) {e : En} (he : e ∈ es) (hd : e.isDeed = true) : es.find? (isD e.num) = some e := by
  cases hf : es.find? (isD e.num) with
  | none =>
    rw [List.find?_eq_none] at hf
    exact absurd (show isD e.num e = true by unfold isD; rw [hd]; simp) (hf e he)
  | some u =>
    have h1 := List.find?_some hf
    have h2 := List.mem_of_find?_eq_some hf
    unfold isD at h1
    rw [Bool.and_eq_true] at h1
    rw [num_inj hB h2 he (of_decide_eq_true h1.2)]
/-- one deed's row -/
def part1 (es es' : List En) (k : Int) (D : List Int) (e e' : En) : List Row4 :=
  match D.find? fun d => !decide (st es d k e = st es' d k e') with
  | some d => [(e.num, d, st es d k e, st es' d k e')]
  | none => []
def partAt (es es' : List En) (k : Int) (D : List Int) (m : Int) : List Row4 := match es.find? (isD m), es'.find? (isD m) with
  | some e, some e' => part1 es es' k D e e'
  | _, _ => []
def partsAll (es es' : List En) (k : Int) (D : List Int) (ns : List Int) : List Row4 := ns.flatMap (partAt es es' k D)
theorem part1_ok {es es' : List En} {k : Int} {D : List Int} {e e' : En} : ∀ q ∈ part1 es es' k D e e', PyData.strOk q.2.2.1 = true ∧ PyData.strOk q.2.2.2 = true := by
  intro q hq
  unfold part1 at hq
  cases hf : D.find? fun d => !decide (st es d k e = st es' d k e') with
  | none => rw [hf] at hq; cases hq
  | some d =>
    rw [hf] at hq
    rw [List.mem_singleton.mp hq]
    exact ⟨st_ok _ _ _ _, st_ok _ _ _ _⟩
theorem partsAll_ok {es es' : List En} {k : Int} {D ns : List Int} : ∀ q ∈ partsAll es es' k D ns, PyData.strOk q.2.2.1 = true ∧ PyData.strOk q.2.2.2 = true := by
  intro q hq
  obtain ⟨m, _, h⟩ := List.mem_flatMap.mp hq
  unfold partAt at h
  split at h
  · exact part1_ok q h
  · cases h
theorem partAt_len (es es' : List En) (k : Int) (D : List Int) (m : Int) : (partAt es es' k D m).length ≤ 1 := by
  unfold partAt
  split
  · unfold part1
    split <;> simp
  · simp
theorem partsAll_len (es es' : List En) (k : Int) (D : List Int) : ∀ ns : List Int, (partsAll es es' k D ns).length ≤ ns.length
  | [] => by simp [partsAll]
  | n :: r => by
    have h1 := partAt_len es es' k D n
    have h2 := partsAll_len es es' k D r
    unfold partsAll at h2 ⊢
    rw [List.flatMap_cons, List.length_append, List.length_cons]
    omega
/-- the days of both -/
structure Days2 (es es' : List En) (D : List Int) : Prop where
  up : D.Pairwise (· < ·)
  mem : ∀ x, x ∈ D ↔ x = 0 ∨ (∃ e ∈ es, e.day = x) ∨ ∃ e ∈ es', e.day = x
theorem Days2.one {es es' : List En} {D D' : List Int} (h : Days2 es es' D) (h' : Days2 es es' D') : D = D' := up_one h.up h'.up fun x => by rw [h.mem, h'.mem]
end Deed

namespace Deed
open PySem PySem.Spec PyProof.Rows L2 LamX
/-- a list of words of a book, day by day -/
def WdsAt (H : Hp) (l : Addr) (zs : List (Addr × En)) (k : Int) (D : List Int) : Prop := ∃ as : List (Addr × Int), H l = some (.lst (as.map fun z => V.ref z.1)) ∧ as.map (·.2) = D ∧ ∀ z ∈ as, WdD H z.1 zs z.2 k
theorem WdsAt.ext {H H' : Hp} {l : Addr} {zs : List (Addr × En)} {k : Int} {D : List Int} (h : WdsAt H l zs k D) (e : ExtN H H') : WdsAt H' l zs k D := by
  obtain ⟨as, h1, h2, h3⟩ := h
  exact ⟨as, e _ _ h1 (fun _ z => by cases z), h2, fun z hz => (h3 z hz).ext e⟩
section
variable {P : Program} {w : World} {K : PySem.W.Frag} {mg : Str → Option Value} {base : Heap} {T : List (Addr × Str)}
def spFirstP : Sp := fun vs H Q _ => ∃ (dl l1 l2 : Addr) (n n' : Nat) (zs zs' : List (Addr × En)) (e e' : En) (k : Int) (D : List Int), vs = [.int e.num, .ref dl, .ref l1, .ref l2] ∧ BkOk n (ens zs) ∧ BkOk n' (ens zs') ∧ e ∈ ens zs ∧ e.isDeed = true ∧ e' ∈ ens zs' ∧ e'.isDeed = true ∧ e'.num = e.num ∧ H dl = some (.lst (D.map V.int)) ∧ WdsAt H l1 zs k D ∧ WdsAt H l2 zs' k D ∧
  ∀ p H', Same H H' → H p = none → T4At H' p (part1 (ens zs) (ens zs') k D e e') → Q (.ref p) H'
end
end Deed

namespace Deed
open PySem PySem.Spec PyProof.Rows L2 LamX
theorem DaysAt.rng {n : Nat} {es : List En} {pl : Bool} {D : List Int} (h : DaysAt es pl D) (hB : BkOk n es) : ∀ x ∈ D, 0 ≤ x ∧ x ≤ 9999 := fun x hx => by
  rcases (h.2 x).mp hx with rfl | ⟨e, he, rfl⟩
  · exact ⟨Int.le_refl _, by decide⟩
  · have h1 := hB.ok e he
    unfold dayAt
    cases pl with
    | true => exact h1.1
    | false => exact h1.2.1
theorem Days2.rng {n n' : Nat} {es es' : List En} {D : List Int} (h : Days2 es es' D) (hB : BkOk n es) (hB' : BkOk n' es') : ∀ x ∈ D, 0 ≤ x ∧ x ≤ 9999 := fun x hx => by
  rcases (h.mem x).mp hx with rfl | ⟨e, he, rfl⟩ | ⟨e, he, rfl⟩
  · exact ⟨Int.le_refl _, by decide⟩
  · exact (hB.ok e he).1
  · exact (hB'.ok e he).1
theorem T4At.app {H : Hp} {p b : Addr} {rs rs' : List Row4} (h : T4At H p rs) (h' : T4At H b rs') : ∃ xs ys : List V, H p = some (.lst xs) ∧ H b = some (.lst ys) ∧ xs.length = rs.length ∧ ys.length = rs'.length ∧ T4At (upd H p (.lst (xs ++ ys))) p (rs ++ rs') := by
  obtain ⟨zs, h1, rfl, h3⟩ := h
  obtain ⟨zs', g1, rfl, g3⟩ := h'
  refine ⟨_, _, h1, g1, by simp, by simp, zs ++ zs', by rw [upd_same, List.map_append], by rw [List.map_append], fun z hz => ?_⟩
  have hz2 : H z.1 = some (.tup (tup4 z.2)) := by
    rcases List.mem_append.mp hz with hz | hz
    · exact h3 z hz
    · exact g3 z hz
  rw [upd_ne fun q => by rw [q, h1] at hz2; cases hz2]
  exact hz2
section
variable {P : Program} {w : World} {K : PySem.W.Frag} {mg : Str → Option Value} {base : Heap} {T : List (Addr × Str)}
def spPartOf (T : List (Addr × Str)) : Sp := fun vs H Q _ => ∃ (b fk t b' fk' t' : Addr) (n n' : Nat) (age age' : Int) (zs zs' : List (Addr × En)) (k : Int), vs = [.ref b, .ref b', .int k] ∧ BookAt H b fk t n age zs ∧ BookAt H b' fk' t' n' age' zs' ∧ Tabs T H ∧ (0 ≤ k ∧ k ≤ 9999) ∧
  ∀ (p : Addr) (D ns : List Int) (H' : Hp), ExtN H H' → Tabs T H' → Fresh H p → Days2 (ens zs) (ens zs') D → ns.Pairwise (· < ·) → (∀ x, x ∈ ns ↔ x ∈ dn (ens zs)) → T4At H' p (partsAll (ens zs) (ens zs') k D ns) → Q (.ref p) H'
end
end Deed

namespace Deed
open PySem PySem.Spec PyProof.Rows L2 LamX
/-- which acts are in force, as a dict -/
abbrev fks (es : List En) (d k : Int) (us : List (Addr × En)) : List (Key × V) := us.map fun z => (Sum.inl z.2.num, V.bl (frc es d k z.2))
structure ForcesAt (H : Hp) (fa : Addr) (zs us : List (Addr × En)) (d k : Int) : Prop where
  dn : us.Pairwise (fun a b => b.2.num < a.2.num)
  mem : ∀ z, z ∈ us ↔ z ∈ zs ∧ z.2.isDeed = false
  at_ : H fa = some (.dK (fks (ens zs) d k us))
theorem fks_get {es : List En} {d k : Int} {us : List (Addr × En)} (up : us.Pairwise (fun a b => b.2.num < a.2.num)) {z : Addr × En} (hz : z ∈ us) : valV (fks es d k us) (.inl z.2.num) = some (.bl (frc es d k z.2)) :=
  valV_map (f := fun z : Addr × En => z.2.num) (g := fun z : Addr × En => V.bl (frc es d k z.2)) (by
    rw [List.nodup_iff_pairwise_ne, List.pairwise_map]
    exact up.imp fun h => by omega) hz
section
variable {P : Program} {w : World} {K : PySem.W.Frag} {mg : Str → Option Value} {base : Heap} {T : List (Addr × Str)}
def spIsOp : Sp := fun vs H Q _ => ∃ (a : Addr) (e : En) (d k : Int), vs = [.ref a, .int d, .int k] ∧ EntAt H a e ∧ Q (.bl (isOpen d k e)) H
def spForces : Sp := fun vs H Q _ => ∃ (ed : Addr) (n : Nat) (zs : List (Addr × En)) (d k : Int), vs = [.ref ed, .int d, .int k] ∧ EdAt H ed n zs ∧ ∀ fa us H', Same H H' → H fa = none → ForcesAt H' fa zs us d k → Q (.ref fa) H'
end
end Deed

namespace Deed
open PySem PySem.Spec PyProof.Rows L2 LamX
theorem putK_last {kvs : List (Key × V)} {k : Key} {v v' : V} (h : k ∉ kvs.map (·.1)) : putK (kvs ++ [(k, v)]) k v' = kvs ++ [(k, v')] := by
  unfold putK
  rw [if_pos (by simp), List.map_append]
  congr 1
  · refine (List.map_congr_left fun kv hkv => ?_).trans (List.map_id kvs)
    rw [if_neg (fun e => h (List.mem_map.mpr ⟨kv, hkv, e⟩))]
    rfl
  · simp
/-- what the words of acts in force tell -/
def actWds (es : List En) (d k m : Int) (us : List (Addr × En)) : List Str := (us.filter fun u => frc es d k u.2 && decide (u.2.of = m)).map fun u => u.2.word
theorem actWds_in {n : Nat} {zs us : List (Addr × En)} (hB : BkOk n (ens zs)) {d k m : Int} (hu : ∀ z, z ∈ us ↔ z ∈ zs ∧ z.2.isDeed = false) {x : Str} (hx : x ≠ "deed") : decide (x ∈ actWds (ens zs) d k m us) = anyF (ens zs) d k x m := by
  rw [Bool.eq_iff_iff, decide_eq_true_iff]
  unfold actWds anyF
  rw [List.mem_map, List.any_eq_true]
  constructor
  · rintro ⟨u, h, rfl⟩
    obtain ⟨h1, h2⟩ := List.mem_filter.mp h
    rw [Bool.and_eq_true] at h2
    refine ⟨u.2, List.mem_map.mpr ⟨u, ((hu u).mp h1).1, rfl⟩, ?_⟩
    unfold isOn
    rw [h2.1, h2.2]
    simp
  · rintro ⟨e, he, h⟩
    rw [Bool.and_eq_true] at h
    obtain ⟨a1, a2, a3⟩ := isOn_act (hB.ok e he) hx h.1
    obtain ⟨u, hu1, rfl⟩ := List.mem_map.mp he
    refine ⟨u, List.mem_filter.mpr ⟨(hu u).mpr ⟨hu1, a1⟩, ?_⟩, a2⟩
    rw [h.2, decide_eq_true a3]
    rfl
section
variable {P : Program} {w : World} {K : PySem.W.Frag} {mg : Str → Option Value} {base : Heap} {T : List (Addr × Str)}
def spLStanding : Sp := fun vs H Q _ => ∃ (b fk t : Addr) (n : Nat) (age : Int) (zs : List (Addr × En)) (d k : Int), vs = [.ref b, .int d, .int k] ∧ BookAt H b fk t n age zs ∧ ∀ fo H', Same H H' → H fo = none → WdD H' fo zs d k → Q (.ref fo) H'
end
end Deed

namespace Deed
open PySem PySem.Spec PyProof.Rows L2 LamX
section
variable {P : Program} {w : World} {K : PySem.W.Frag} {mg : Str → Option Value} {base : Heap} {T : List (Addr × Str)}
def spLDays2 : Sp := fun vs H Q _ => ∃ (b fk t b' fk' t' : Addr) (n n' : Nat) (age age' : Int) (zs zs' : List (Addr × En)), vs = [.ref b, .ref b'] ∧ BookAt H b fk t n age zs ∧ BookAt H b' fk' t' n' age' zs' ∧
  ∀ (p : Addr) (D : List Int) (H' : Hp), Same H H' → H p = none → Days2 (ens zs) (ens zs') D → D.length ≤ 33 → H' p = some (.lst (D.map V.int)) → Q (.ref p) H'
end
end Deed

namespace Deed
open PySem PySem.Spec PyProof.Rows L2 LamX
/-- (day, what the one's deeds are, what the other's are), for each day -/
abbrev R3 := Int × Addr × Addr
def Rows3 (H : Hp) (M : Addr) (zs zs' : List (Addr × En)) (k : Int) (D : List Int) : Prop := ∃ as : List (Addr × R3), H M = some (.lst (as.map fun a => V.ref a.1)) ∧ as.map (fun a => a.2.1) = D ∧ ∀ a ∈ as, H a.1 = some (.tup [.int a.2.1, .ref a.2.2.1, .ref a.2.2.2]) ∧ WdD H a.2.2.1 zs a.2.1 k ∧ WdD H a.2.2.2 zs' a.2.1 k
theorem WdD.same {H H' : Hp} {a : Addr} {zs : List (Addr × En)} {d k : Int} (h : WdD H a zs d k) (s : Same H H') : WdD H' a zs d k := by
  obtain ⟨us, h1, h2⟩ := h
  exact ⟨us, h1, s _ _ h2⟩
theorem WdD.put {H : Hp} {a M : Addr} {zs : List (Addr × En)} {d k : Int} {xs : List V} {o : HO} (h : WdD H a zs d k) (e : H M = some (.lst xs)) : WdD (upd H M o) a zs d k := by
  obtain ⟨us, h1, h2⟩ := h
  exact ⟨us, h1, by rw [upd_ne fun q => by rw [q, e] at h2; cases h2]; exact h2⟩
theorem T4At.same {H H' : Hp} {p : Addr} {rs : List Row4} (h : T4At H p rs) (s : Same H H') : T4At H' p rs := by
  obtain ⟨zs, h1, h2, h3⟩ := h
  exact ⟨zs, s _ _ h1, h2, fun z hz => s _ _ (h3 z hz)⟩
theorem find_head {α : Type} {p : α → Bool} : ∀ l : List α, (l.filter p).take 1 = match l.find? p with
    | some x => [x]
    | none => []
  | [] => rfl
  | x :: r => by
    rw [List.filter_cons, List.find?_cons]
    cases h : p x with
    | true => rfl
    | false => exact find_head r
section
variable {P : Program} {w : World} {K : PySem.W.Frag} {mg : Str → Option Value} {base : Heap} {T : List (Addr × Str)}
def spLParting : Sp := fun vs H Q _ => ∃ (b fk t b' fk' t' : Addr) (n n' : Nat) (age age' : Int) (zs zs' : List (Addr × En)) (k : Int), vs = [.ref b, .ref b', .int k] ∧ BookAt H b fk t n age zs ∧ BookAt H b' fk' t' n' age' zs' ∧
  ∀ (p : Addr) (D ns : List Int) (H' : Hp), Same H H' → H p = none → Days2 (ens zs) (ens zs') D → ns.Pairwise (· < ·) → (∀ x, x ∈ ns ↔ x ∈ dn (ens zs)) → T4At H' p (partsAll (ens zs) (ens zs') k D ns) → Q (.ref p) H'
end
end Deed

namespace Deed
open PySem PySem.Spec PyProof.Rows L2 LamX
section
variable {P : Program} {w : World} {K : PySem.W.Frag} {mg : Str → Option Value} {base : Heap} {T : List (Addr × Str)}
abbrev sLNamed : Stmt := topS 92
abbrev nLNamed : List Str := ["_law_entry"]
abbrev pLNamed : List Str := ["_law_entry"]
theorem scLNamed : FnScope nLNamed pLNamed (defScope sLNamed) := ⟨rfl, rfl, rfl, by decide +kernel, rfl, by decide +kernel, by decide +kernel⟩
def spLNamed : Sp := fun vs H Q _ => ∃ (a : Addr) (e : En) (n : Nat) (ds as : List Int), vs = [.ref a] ∧ EntAt H a e ∧ EnOk n ds as e ∧ ∀ l H', Same H H' → H' l = some (.lst (e.names.map V.int)) → Q (.ref l) H'
theorem ok_LNamed {f : Addr} {fd : FuncData} {k : Nat} (F : Fun K "_law_named" "_law_named" sLNamed f fd) (m_list : mg "list" = none) : FnOk P w K mg base CX0 (k + 1) f fd pLNamed spLNamed := by
  refine F.ok scLNamed (fun vs H Q E h => ?_) (fun cdv A outer s H vs Q E hr h => ?_)
  · obtain ⟨a, e, n, ds, as, rfl, _⟩ := h
    rfl
  · obtain ⟨a, e, n, ds, as, rfl, hE, hO, q⟩ := h
    have nd := scLNamed.nd
    refine ⟨_, pss_cons (ps_if (pt_cmpR op_eq (pe_ix ix_tup (pv 0) pe_int (fun _ _ => rfl)) pe_str (nomark _)) (pss_one (ps_ret (pe_callTy call_list_of (by rfl) m_list (by decide +kernel) (pa_cons (pe_ix ix_tup (pv 0) pe_int (fun _ _ => rfl)) pa_nil)))) pss_nil)
      (pss_one (ps_ret (pe_lst (pa_cons (pe_ix ix_tup (pv 0) pe_int (fun _ _ => rfl)) pa_nil)))), ?_⟩
    obtain ⟨xs, ex, _, _, _, _, g4⟩ := hE.tup
    refine ⟨_, rfl, a, xs, 4, _, rfl, rfl, SqT.of ex, g4, rfl, _, rfl, ?_⟩
    cases hd : e.isDeed with
    | true =>
      rw [decide_eq_true (congrArg V.str (hO.word.mpr hd))]
      refine iteT ?_
      obtain ⟨xs7, r, ex7, g7, er⟩ := hE.seven hd
      have en : e.names = e.rests := by
        unfold En.names En.rests
        unfold En.isDeed at hd
        cases hk : e.kd with
        | deed g t rs ws => rfl
        | act x o => rw [hk] at hd; cases hd
      rw [en] at q
      refine ⟨_, rfl, a, xs7, 7, _, rfl, rfl, SqT.of ex7, g7, r, _, rfl, .inr (SqT.of er), fun l1 nl1 => ?_⟩
      exact q l1 _ (same_new nl1 _) upd_same
    | false =>
      rw [decide_eq_false (fun z => by
        injection z with z
        rw [hO.word.mp z] at hd
        cases hd)]
      refine iteF ?_
      obtain ⟨xs5, ex5, g5⟩ := hE.five hd
      have en : e.names = [e.of] := by
        unfold En.names En.of
        unfold En.isDeed at hd
        cases hk : e.kd with
        | deed g t rs ws => rw [hk] at hd; cases hd
        | act x o => rfl
      rw [en] at q
      refine ⟨_, rfl, a, xs5, 5, _, rfl, rfl, SqT.of ex5, g5, (by show 1 ≤ sizeLine; decide), fun l2 nl2 => ?_⟩
      exact q l2 _ (same_new nl2 _) upd_same
def spLOther : Sp := fun vs H Q _ => ∃ (p b fk t : Addr) (n : Nat) (age : Int) (zs : List (Addr × En)), vs = [.ref p, .ref b] ∧ PenAt H p ∧ BookAt H b fk t n age zs ∧ ∀ b' t' zs' H', Kp p H H' → PenAt H' p → BookAt H' b' fk t' n age zs' → Q (.ref b') H'
end
end Deed

namespace Deed
open PySem PySem.Spec PyProof.Rows L2 LamX
theorem dec_intE (a b : Int) : decide (V.int a = V.int b) = decide (a = b) := by
  by_cases h : a = b
  · rw [decide_eq_true (by rw [h]), decide_eq_true h]
  · rw [decide_eq_false (fun z => h (by injection z)), decide_eq_false h]
section
variable {P : Program} {w : World} {K : PySem.W.Frag} {mg : Str → Option Value} {base : Heap} {T : List (Addr × Str)}
abbrev sWoutE : Stmt := topS 61
abbrev nWoutE : List Str := ["book", "number", "folk", "age", "entries", "naming", "entry"]
abbrev pWoutE : List Str := ["book", "number"]
theorem scWoutE : FnScope nWoutE pWoutE (defScope sWoutE) := ⟨rfl, rfl, rfl, by decide +kernel, rfl, by decide +kernel, by decide +kernel⟩
def spWoutE : Sp := fun vs H Q _ => ∃ (b fk t : Addr) (n : Nat) (age m : Int) (zs : List (Addr × En)), vs = [.ref b, .int m] ∧ BookAt H b fk t n age zs ∧ m ∈ (ens zs).map (·.num) ∧ (∀ u ∈ ens zs, m ∉ u.names) ∧ BkOk n (ens (zs.filter fun z => !decide (z.2.num = m))) ∧ ∀ b' t' H', Same H H' → BookAt H' b' fk t' n age (zs.filter fun z => !decide (z.2.num = m)) → Q (.ref b') H'
theorem ok_WoutE {f : Addr} {fd : FuncData} {k : Nat} (F : Fun K "without_entry" "without_entry" sWoutE f fd) (C_is_whole : CallOk P w K mg base k "is_whole" pIsWhole (spB1 Tg.isW)) (C_named_in : CallOk P w K mg base k "named_in" pNamedIn spNamedIn) (m_tuple : mg "tuple" = none) (iNUMBER : MgInt mg "NUMBER" 0) : FnOk P w K mg base CX0 (k + 1) f fd pWoutE spWoutE := by
  refine F.ok scWoutE (fun vs H Q E h => ?_) (fun cdv A outer s H vs Q E hr h => ?_)
  · obtain ⟨b, fk, t, n, age, m, zs, rfl, _⟩ := h
    rfl
  · obtain ⟨b, fk, t, n, age, m, zs, rfl, hB, hm, hno, hgo, q⟩ := h
    have nd := scWoutE.nd
    have hu := hu_of hr
    refine ⟨_, pss_cons (ps_asg (pv 0) (pg_tup (by rfl) (pgs_cons (pg_name (i := 2) nd rfl (.inl rfl)) (pgs_cons (pg_name (i := 3) nd rfl (.inl rfl)) (pgs_cons (pg_name (i := 4) nd rfl (.inl rfl)) pgs_nil)))))
      (pss_cons (ps_if (PW.pt (pw_or (pt_not (pt_val (pe_call C_is_whole.ok hr (by rfl) C_is_whole.g C_is_whole.kp C_is_whole.b .nil pass0 (pa_cons (pv 1) pa_nil)))) (pw_or1 (pt_cmpR op_notIn_seq (pv 1) (pe_lc (own := [("entry", 6)]) (g := gName 6) (by rfl) nd (pi_tup (pv 4)) (blkOk_by (own := [("entry", 6)]) (N := nWoutE) (sc := defScope sWoutE) (by decide +kernel)) (fun _ _ _ _ _ => (pg_name (i := 6) nd rfl (.inl rfl))) (fun _ _ _ _ _ => pts_nil)
          (fun _ _ _ _ _ => show PE _ _ (tOp (rIxT K) (tVar 6) (tC (.int 0))) from (pe_ix (ix_tupK (K := K) (by rfl)) (pv 6) (pe_num (by rfl) iNUMBER) (fun _ _ => rfl)))) (by rfl))))) pss_never pss_nil)
      (pss_cons (ps_setLc (i := 5) (own := [("entry", 6)]) (g := gName 6) (by rfl) nd rfl rfl (sw_true rfl rfl rfl (by decide +kernel)) (pi_tup (pv 4)) (blkOk_by (own := [("entry", 6)]) (N := nWoutE) (sc := defScope sWoutE) (by decide +kernel)) (fun _ _ _ _ _ => (pg_name (i := 6) nd rfl (.inl rfl))) (fun _ _ _ _ _ => (pts_one (pt_cmpR (in_seqK (K := K) (by rfl)) (pv 1) (pe_call C_named_in.ok hr (by rfl) C_named_in.g C_named_in.kp C_named_in.b .nil pass0 (pa_cons (pv 6) pa_nil)) (by rfl))))
          (fun _ _ _ _ _ => (pe_ix (ix_tupK (K := K) (by rfl)) (pv 6) (pe_num (by rfl) iNUMBER) (fun _ _ => rfl))))
      (pss_cons (ps_if (pt_truth (pv 5) (fun _ => rfl)) pss_never pss_nil)
      (pss_one (ps_ret (pe_tup (pa_cons (pv 2) (pa_cons (pv 3) (pa_cons (pe_callTy call_tuple_of (by rfl) m_tuple (by decide +kernel) (pa_cons (pe_lc (own := [("entry", 6)]) (g := gName 6) (by rfl) nd (pi_tup (pv 4)) (blkOk_by (own := [("entry", 6)]) (N := nWoutE) (sc := defScope sWoutE) (by decide +kernel)) (fun _ _ _ _ _ => (pg_name (i := 6) nd rfl (.inl rfl))) (fun _ _ _ _ _ => (pts_one (pt_cmpR op_ne (pe_ix (ix_tupK (K := K) (by rfl)) (pv 6) (pe_num (by rfl) iNUMBER) (fun _ _ => rfl)) (pv 1) (nomark _))))
          (fun _ _ _ _ _ => (pv 6))) pa_nil)) pa_nil))))))))), ?_⟩
    have hzl := hB.len
    refine ⟨_, rfl, b, _, rfl, SqT.of hB.at_, rfl, _, _, rfl, _, _, rfl, _, _, rfl, rfl, ?_⟩
    refine ⟨_, rfl, b, .int m, .int m, rfl, .int m, fun H1 s1 => ⟨_, rfl, ?_⟩⟩
    refine iteF ?_
    have et1 := s1 _ _ hB.ents
    refine ⟨_, rfl, _, rfl, t, rfl, ⟨_, SqT.of et1⟩, fun M1 nM1 => ?_⟩
    refine lc_sameM (walk_tup (xs := refs zs)) zs (fun z => .int z.2.num) (by rw [List.length_map]) (by omega) nM1 (fun H s => SqT.of (s _ _ et1)) ?_ ?_
    · rintro i z x H3' H3 hz s3 ⟨rfl, hx⟩ Q1 q1
      rw [List.getElem?_map, hz] at hx
      injection hx with hx
      subst hx
      obtain ⟨xs, ex, g0, _, _, _, g4⟩ := ((hB.ent z (List.mem_of_getElem? hz)).kp (Same.tup (s1.trans s3))).tup
      exact ⟨rfl, _, rfl, z.1, xs, 0, _, rfl, rfl, SqT.of ex, g0, q1 _ (same_refl _)⟩
    intro H2 s2 eM
    have s02 := s1.trans s2
    have hms : zs.map (fun z => V.int z.2.num) = ((ens zs).map (·.num)).map V.int := by simp [ens, List.map_map, Function.comp_def]
    refine ⟨M1, _, rfl, .inl (SqL.of eM), rfl, by rw [hms]; exact flat_ints _, _, rfl, ?_⟩
    rw [hms, mem_inV, decide_eq_true hm]
    refine iteF ?_
    have et2 := s02 _ _ hB.ents
    refine ⟨_, rfl, t, rfl, ⟨_, SqT.of et2⟩, fun M2 nM2 => ?_⟩
    refine lc_sameV (walk_tup (xs := refs zs)) zs (fun _ => false) (fun z => .int z.2.num) (by rw [List.length_map]) (by omega) nM2 (fun H s => SqT.of (s _ _ et2)) ?_ ?_
    · rintro i z x H3' H3 hz s3 ⟨rfl, hx⟩ Q1 Q0 q1 q0
      rw [List.getElem?_map, hz] at hx
      injection hx with hx
      subst hx
      have hzm := List.mem_of_getElem? hz
      have hez : z.2 ∈ ens zs := List.mem_map.mpr ⟨z, hzm, rfl⟩
      have hE3 := (hB.ent z hzm).kp (Same.tup (s02.trans s3))
      refine ⟨rfl, _, rfl, _, rfl, z.1, z.2, rfl, hE3, (hB.ok.ok z.2 hez).word, fun l H4 s4 e4 => ?_⟩
      refine ⟨l, _, rfl, .inr (SqT.of e4), rfl, flat_ints _, _, rfl, ?_⟩
      rw [mem_inV, decide_eq_false (hno z.2 hez)]
      refine iteF ?_
      exact q0 rfl _ s4
    intro H5 s5 eM2
    rw [List.filter_eq_nil_iff.mpr (fun _ _ => by decide)] at eM2
    refine ⟨_, rfl, _, .inl ⟨_, SqL.of eM2, rfl⟩, ?_⟩
    refine iteF ?_
    have s05 := s02.trans s5
    have et5 := s05 _ _ hB.ents
    refine ⟨_, rfl, _, rfl, _, rfl, t, rfl, ⟨_, SqT.of et5⟩, fun M3 nM3 => ?_⟩
    refine lc_sameV (walk_tup (xs := refs zs)) zs (fun z => !decide (z.2.num = m)) (fun z => .ref z.1) (by rw [List.length_map]) (by omega) nM3 (fun H s => SqT.of (s _ _ et5)) ?_ ?_
    · rintro i z x H6' H6 hz s6 ⟨rfl, hx⟩ Q1 Q0 q1 q0
      rw [List.getElem?_map, hz] at hx
      injection hx with hx
      subst hx
      have hzm := List.mem_of_getElem? hz
      obtain ⟨xs, ex, g0, _, _, _, g4⟩ := ((hB.ent z hzm).kp (Same.tup (s05.trans s6))).tup
      refine ⟨rfl, _, rfl, z.1, xs, 0, _, rfl, rfl, SqT.of ex, g0, _, rfl, rfl, _, rfl, ?_⟩
      rw [dec_intE]
      refine ite2 (fun c => ?_) (fun c => ?_)
      · exact ⟨_, rfl, q1 c _ (same_refl _)⟩
      · exact q0 (Bool.eq_false_iff.mpr c) _ (same_refl _)
    intro H7 s7 eM3
    have s07 := s05.trans s7
    refine ⟨M3, _, rfl, .inl ⟨SqL.of eM3, fun t4 nt4 => ?_⟩⟩
    have s8 := same_new nt4 (.tup ((zs.filter fun z => !decide (z.2.num = m)).map fun z => V.ref z.1))
    have e8 : (upd H7 t4 (.tup ((zs.filter fun z => !decide (z.2.num = m)).map fun z => V.ref z.1))) t4 = some (.tup ((zs.filter fun z => !decide (z.2.num = m)).map fun z => V.ref z.1)) := upd_same
    generalize upd H7 t4 (.tup ((zs.filter fun z => !decide (z.2.num = m)).map fun z => V.ref z.1)) = H8 at s8 e8
    refine ⟨(by show 3 ≤ sizeLine; decide), fun t5 nt5 => ?_⟩
    have s9 := same_new nt5 (.tup [.ref fk, .int age, .ref t4])
    have e9 : (upd H8 t5 (.tup [.ref fk, .int age, .ref t4])) t5 = some (.tup [.ref fk, .int age, .ref t4]) := upd_same
    generalize upd H8 t5 (.tup [.ref fk, .int age, .ref t4]) = H9 at s9 e9
    have s09 := s07.trans (s8.trans s9)
    have hB9 := hB.kp (Same.tup s09)
    exact q t5 t4 H9 s09 ⟨e9, hB9.folk, hB9.n2, hB9.n6, hB9.age0, hB9.age1, s9 _ _ e8, fun z hz => hB9.ent z (List.mem_filter.mp hz).1, hgo, Nat.le_trans (List.length_filter_le _ _) hB9.len⟩
def spLateOf (T : List (Addr × Str)) : Sp := fun vs H Q _ => ∃ (b fk t a : Addr) (n : Nat) (age : Int) (zs : List (Addr × En)) (e : En) (k : Int), vs = [.ref b, .ref a, .int k] ∧ BookAt H b fk t n age zs ∧ EntAt H a e ∧ BkOk n (ens zs ++ [e]) ∧ zs.length < 16 ∧ Tabs T H ∧ (0 ≤ k ∧ k ≤ 9999) ∧
  ∀ (p : Addr) (D ns : List Int) (H' : Hp), ExtN H H' → Tabs T H' → Fresh H p → Days2 (ens zs) (ens zs ++ [e]) D → ns.Pairwise (· < ·) → (∀ x, x ∈ ns ↔ x ∈ dn (ens zs)) → T4At H' p (partsAll (ens zs) (ens zs ++ [e]) k D ns) → Q (.ref p) H'
end
end Deed

namespace Deed
open PySem PySem.Spec PyProof.Rows L2 LamX
theorem get_cases {es : List En} (h : EsOk es) (m : Int) : (∃ u ∈ es, u.num = m ∧ valV (wdk es) (.inl m) = some (.str u.word)) ∨ ((∀ u ∈ es, u.num ≠ m) ∧ valV (wdk es) (.inl m) = none) := by
  by_cases hm : ∃ u ∈ es, u.num = m
  · obtain ⟨u, hu, rfl⟩ := hm
    exact .inl ⟨u, hu, rfl, valV_map (f := fun e : En => e.num) (g := fun e : En => V.str e.word) h.nd hu⟩
  · have hn : ∀ u ∈ es, u.num ≠ m := fun u hu e => hm ⟨u, hu, e⟩
    exact .inr ⟨hn, valV_none (f := fun e : En => e.num) (g := fun e : En => V.str e.word) hn⟩
/-- a name of e is what it should be -/
def wantE (es : List En) (e : En) (m : Int) : Bool := if e.word = "undone" then decide (m ∈ an es) else decide (m ∈ dn es)
theorem want_deed {es : List En} (h : EsOk es) (m : Int) : ∃ x : Str, (valV (wdk es) (.inl m)).getD (.str "") = .str x ∧ decide (x = "deed") = decide (m ∈ dn es) := by
  rcases get_cases h m with ⟨u, hu, rfl, e⟩ | ⟨hn, e⟩
  · rw [e]
    refine ⟨_, rfl, decide_eq_decide.mpr ?_⟩
    rw [h.wd u hu, mem_dn]
    exact ⟨fun z => ⟨u, hu, z, rfl⟩, fun ⟨v, hv, z, e2⟩ => by rw [← num_one h.nd hv hu e2]; exact z⟩
  · rw [e]
    refine ⟨_, rfl, ?_⟩
    rw [decide_eq_false (by decide), decide_eq_false fun z => ?_]
    obtain ⟨v, hv, _, e2⟩ := mem_dn.mp z
    exact hn v hv e2
theorem want_act {es : List En} (h : EsOk es) (m : Int) : ∃ x : Str, (valV (wdk es) (.inl m)).getD (.str "deed") = .str x ∧ (!decide (x = "deed")) = decide (m ∈ an es) := by
  rcases get_cases h m with ⟨u, hu, rfl, e⟩ | ⟨hn, e⟩
  · rw [e]
    refine ⟨_, rfl, ?_⟩
    rw [Bool.eq_iff_iff, Bool.not_eq_true', decide_eq_false_iff_not, decide_eq_true_eq, h.wd u hu, mem_an]
    exact ⟨fun z => ⟨u, hu, Bool.eq_false_iff.mpr z, rfl⟩, fun ⟨v, hv, z, e2⟩ => by rw [← num_one h.nd hv hu e2, z]; decide⟩
  · rw [e]
    refine ⟨_, rfl, ?_⟩
    rw [decide_eq_true (by rfl), Bool.eq_iff_iff, decide_eq_true_eq, mem_an]
    exact ⟨fun z => (nomatch z), fun ⟨v, hv, _, e2⟩ => absurd e2 (hn v hv)⟩
theorem fitE_names {es : List En} {e : En} (hw : e.word = "deed" ↔ e.isDeed = true) : fitE es e = e.names.all (wantE es e) := by
  unfold fitE wantE
  cases hd : e.isDeed with
  | true =>
    have hne : ¬ e.word = "undone" := fun z => by
      have := hw.mpr hd
      rw [z] at this
      exact absurd this (by decide)
    have en : e.names = e.rests := by
      unfold En.names En.rests
      unfold En.isDeed at hd
      cases hk : e.kd with
      | deed g t rs ws => rfl
      | act x o => rw [hk] at hd; cases hd
    rw [if_pos rfl, en]
    simp only [if_neg hne]
  | false =>
    have en : e.names = [e.of] := by
      unfold En.names En.of
      unfold En.isDeed at hd
      cases hk : e.kd with
      | deed g t rs ws => rw [hk] at hd; cases hd
      | act x o => rfl
    rw [if_neg (by decide), en, List.all_cons, List.all_nil, Bool.and_true]
/-- what a law's due is for an entry more -/
def dueS (n : Nat) (es : List En) (e : En) : Str :=
  if isEntT n (entT e) = true then if e.num ∈ es.map (·.num) then "twice" else if fitE es e = true then if es.length = 16 then "many" else "ok" else "name" else "entry"
theorem due_good {n : Nat} {es : List En} {e : En} (h : BkOk n (es ++ [e])) (hl : es.length < 16) (hx : ∀ x o, e.kd = .act x o → x ≠ "deed") : dueS n es e = "ok" := by
  obtain ⟨h1, h2, _, h4⟩ := h.less
  unfold dueS
  rw [if_pos ((isEntT_iff hx).mpr h1), if_neg h2, if_pos h4, if_neg (by omega)]
theorem due_ok {n : Nat} {es : List En} {e : En} (hB : BkOk n es) (hlen : es.length ≤ 16) (hw : e.word = "deed" ↔ e.isDeed = true) (hx : ∀ x o, e.kd = .act x o → x ≠ "deed") (h : dueS n es e = "ok") : BkOk n (es ++ [e]) ∧ es.length < 16 ∧ EntOk n e := by
  unfold dueS at h
  split at h
  · next h1 =>
    split at h
    · exact absurd h (by decide)
    · next h2 =>
      split at h
      · next h3 =>
        split at h
        · exact absurd h (by decide)
        · next h4 =>
          have hE := (isEntT_iff hx).mp h1
          refine ⟨⟨?_, fun x hx => ?_, fun x hx => ?_⟩, by omega, hE⟩
          · rw [List.map_append, List.nodup_append]
            refine ⟨hB.nd, by simp, fun a ha b hb => ?_⟩
            rw [List.map_cons, List.map_nil, List.mem_singleton] at hb
            rw [hb]
            exact fun z => h2 (z ▸ ha)
          · rcases List.mem_append.mp hx with hx | hx
            · exact hB.rng x hx
            · rw [List.mem_singleton.mp hx]
              exact hE.1
          · have m1 : ∀ y ∈ dn es, y ∈ dn (es ++ [e]) := fun y hy => by rw [dn_app]; exact List.mem_append.mpr (.inl hy)
            have m2 : ∀ y ∈ an es, y ∈ an (es ++ [e]) := fun y hy => by rw [an_app]; exact List.mem_append.mpr (.inl hy)
            rcases List.mem_append.mp hx with hx | hx
            · exact (hB.ok x hx).mono m1 m2
            · rw [List.mem_singleton.mp hx]
              refine EnOk.mono (ds := dn es) (as := an es) (hE.enOk (fun r hr => ?_) fun hd => ?_) m1 m2
              · unfold fitE at h3
                cases hd : e.isDeed with
                | true =>
                  rw [hd, if_pos rfl, List.all_eq_true] at h3
                  exact of_decide_eq_true (h3 r hr)
                | false =>
                  unfold En.rests at hr
                  unfold En.isDeed at hd
                  cases hk : e.kd with
                  | deed g t rs ws => rw [hk] at hd; cases hd
                  | act x o => rw [hk] at hr; cases hr
              · have hwa : e.word ∈ [("paid" : Str), "void", "undone"] := by
                  have h5 := hE.2.2.2.2
                  unfold En.word
                  unfold En.isDeed at hd
                  cases hk : e.kd with
                  | deed g t rs ws => rw [hk] at hd; cases hd
                  | act x o => rw [hk] at h5; exact h5.1
                unfold fitE at h3
                rw [hd, if_neg (by decide)] at h3
                by_cases hu : e.word = "undone"
                · rw [if_pos hu] at h3
                  exact .inl ⟨hu, of_decide_eq_true h3⟩
                · rw [if_neg hu] at h3
                  refine .inr ⟨?_, of_decide_eq_true h3⟩
                  simp only [List.mem_cons, List.not_mem_nil, or_false] at hwa
                  rcases hwa with z | z | z
                  · exact .inl z
                  · exact .inr z
                  · exact absurd z hu
      · exact absurd h (by decide)
  · exact absurd h (by decide)
end Deed

namespace Deed
open PySem PySem.Spec PyProof.Rows L2 LamX
section
variable {P : Program} {w : World} {K : PySem.W.Frag} {mg : Str → Option Value} {base : Heap} {T : List (Addr × Str)}
def spLNamedW : Sp := fun vs H Q _ => ∃ (a : Addr) (e : En), vs = [.ref a] ∧ EntAt H a e ∧ (e.word = "deed" ↔ e.isDeed = true) ∧ ∀ l H', Same H H' → H' l = some (.lst (e.names.map V.int)) → Q (.ref l) H'
theorem ok_LNamedW {f : Addr} {fd : FuncData} {k : Nat} (F : Fun K "_law_named" "_law_named" sLNamed f fd) (m_list : mg "list" = none) : FnOk P w K mg base CX0 (k + 1) f fd pLNamed spLNamedW := by
  refine F.ok scLNamed (fun vs H Q E h => ?_) (fun cdv A outer s H vs Q E hr h => ?_)
  · obtain ⟨a, e, rfl, _⟩ := h
    rfl
  · obtain ⟨a, e, rfl, hE, hO, q⟩ := h
    have nd := scLNamed.nd
    refine ⟨_, pss_cons (ps_if (pt_cmpR op_eq (pe_ix ix_tup (pv 0) pe_int (fun _ _ => rfl)) pe_str (nomark _)) (pss_one (ps_ret (pe_callTy call_list_of (by rfl) m_list (by decide +kernel) (pa_cons (pe_ix ix_tup (pv 0) pe_int (fun _ _ => rfl)) pa_nil)))) pss_nil)
      (pss_one (ps_ret (pe_lst (pa_cons (pe_ix ix_tup (pv 0) pe_int (fun _ _ => rfl)) pa_nil)))), ?_⟩
    obtain ⟨xs, ex, _, _, _, _, g4⟩ := hE.tup
    refine ⟨_, rfl, a, xs, 4, _, rfl, rfl, SqT.of ex, g4, rfl, _, rfl, ?_⟩
    cases hd : e.isDeed with
    | true =>
      rw [decide_eq_true (congrArg V.str (hO.mpr hd))]
      refine iteT ?_
      obtain ⟨xs7, r, ex7, g7, er⟩ := hE.seven hd
      have en : e.names = e.rests := by
        unfold En.names En.rests
        unfold En.isDeed at hd
        cases hk : e.kd with
        | deed g t rs ws => rfl
        | act x o => rw [hk] at hd; cases hd
      rw [en] at q
      refine ⟨_, rfl, a, xs7, 7, _, rfl, rfl, SqT.of ex7, g7, r, _, rfl, .inr (SqT.of er), fun l1 nl1 => ?_⟩
      exact q l1 _ (same_new nl1 _) upd_same
    | false =>
      rw [decide_eq_false (fun z => by
        injection z with z
        rw [hO.mp z] at hd
        cases hd)]
      refine iteF ?_
      obtain ⟨xs5, ex5, g5⟩ := hE.five hd
      have en : e.names = [e.of] := by
        unfold En.names En.of
        unfold En.isDeed at hd
        cases hk : e.kd with
        | deed g t rs ws => rw [hk] at hd; cases hd
        | act x o => rfl
      rw [en] at q
      refine ⟨_, rfl, a, xs5, 5, _, rfl, rfl, SqT.of ex5, g5, (by show 1 ≤ sizeLine; decide), fun l2 nl2 => ?_⟩
      exact q l2 _ (same_new nl2 _) upd_same
end
end Deed

namespace Deed
open PySem PySem.Spec PyProof.Rows L2 LamX
theorem dec_strE (a b : Str) : decide (V.str a = V.str b) = decide (a = b) := by
  by_cases h : a = b
  · rw [decide_eq_true (by rw [h]), decide_eq_true h]
  · rw [decide_eq_false (fun z => h (by injection z)), decide_eq_false h]
theorem wdk_nodup {es : List En} (nd : (es.map (·.num)).Nodup) : ((wdk es).map (·.1)).Nodup := by
  have e : (wdk es).map (·.1) = (es.map (·.num)).map Sum.inl := by simp [wdk, List.map_map, Function.comp_def]
  rw [e, List.nodup_iff_pairwise_ne, List.pairwise_map]
  exact (List.nodup_iff_pairwise_ne.mp nd).imp fun h z => h (Sum.inl.inj z)
section
variable {P : Program} {w : World} {K : PySem.W.Frag} {mg : Str → Option Value} {base : Heap} {T : List (Addr × Str)}
abbrev sLDueOf : Stmt := topS 93
abbrev nLDueOf : List Str := ["_law_book_here", "_law_entry", "_law_words", "_law_number", "_law_wanted", "_law_one"]
abbrev pLDueOf : List Str := ["_law_book_here", "_law_entry"]
theorem scLDueOf : FnScope nLDueOf pLDueOf (defScope sLDueOf) := ⟨rfl, rfl, rfl, by decide +kernel, rfl, by decide +kernel, by decide +kernel⟩
def spLDueOf : Sp := fun vs H Q _ => ∃ (b fk t a : Addr) (n : Nat) (age : Int) (zs : List (Addr × En)) (e : En), vs = [.ref b, .ref a] ∧ BookAt H b fk t n age zs ∧ EntAt H a e ∧ (e.word = "deed" ↔ e.isDeed = true) ∧ e.names.length ≤ 1000 ∧ ∀ H', Same H H' → Q (.str (dueS n (ens zs) e)) H'
theorem ok_LDueOf {f : Addr} {fd : FuncData} {k : Nat} (F : Fun K "_law_due_of" "_law_due_of" sLDueOf f fd) (C_is_entry : CallOk P w K mg base k "is_entry" pIsEntG spEntG) (C__law_named : CallOk P w K mg base k "_law_named" pLNamed spLNamedW) (m_dict : mg "dict" = none) (m_len : mg "len" = none) (m_int : mg "int" = none) : FnOk P w K mg base CX0 (k + 1) f fd pLDueOf spLDueOf := by
  refine F.ok scLDueOf (fun vs H Q E h => ?_) (fun cdv A outer s H vs Q E hr h => ?_)
  · obtain ⟨b, fk, t, a, n, age, zs, e, rfl, _⟩ := h
    rfl
  · obtain ⟨b, fk, t, a, n, age, zs, e, rfl, hB, hE, hw, hnl, q⟩ := h
    have nd := scLDueOf.nd
    have hu := hu_of hr
    refine ⟨_, pss_cons (ps_if (pt_not (pt_val (pe_call C_is_entry.ok hr (by rfl) C_is_entry.g C_is_entry.kp C_is_entry.b .nil pass0 (pa_cons (pe_ix ix_tup (pv 0) pe_int (fun _ _ => rfl)) (pa_cons (pv 1) pa_nil))))) (pss_one (ps_ret pe_str)) pss_nil)
      (pss_cons (ps_set (i := 2) nd rfl (.inl rfl) (pe_callTy (call_dictP rfl) (by rfl) m_dict (by decide +kernel) (pa_cons (pe_lc (own := [("_law_one", 5)]) (g := gName 5) (by rfl) nd (pi_tup (pe_ix ix_tup (pv 0) pe_int (fun _ _ => rfl))) (blkOk_by (own := [("_law_one", 5)]) (N := nLDueOf) (sc := defScope sLDueOf) (by decide +kernel)) (fun _ _ _ _ _ => (pg_name (i := 5) nd rfl (.inl rfl))) (fun _ _ _ _ _ => pts_nil)
          (fun _ _ _ _ _ => (pe_tup (pa_cons (pe_ix (ix_tupK (K := K) (by rfl)) (pv 5) pe_int (fun _ _ => rfl)) (pa_cons (pe_ix (ix_tupK (K := K) (by rfl)) (pv 5) pe_int (fun _ _ => rfl)) pa_nil))))) pa_nil)))
      (pss_cons (ps_if (pt_cmp (pc_din hu (pe_ix ix_tup (pv 1) pe_int (fun _ _ => rfl)) (pv 2))) (pss_one (ps_ret pe_str)) pss_nil)
      (pss_cons (ps_for PassesOwn.never rfl (pi_list (pe_call C__law_named.ok hr (by rfl) C__law_named.g C__law_named.kp C__law_named.b .nil pass0 (pa_cons (pv 1) pa_nil))) (pg_name (i := 3) nd rfl (.inl rfl))
        (pss_cons (ps_set (i := 4) nd rfl (.inl rfl) (pe_cmpR op_eq (pe_dget2 hu (pv 2) (pv 3) pe_str ⟨rfl, rfl, rfl, rfl⟩) pe_str (nomark _)))
      (pss_cons (ps_if (pt_cmpR op_eq (pe_ix ix_tup (pv 1) pe_int (fun _ _ => rfl)) pe_str (nomark _)) (pss_one (ps_set (i := 4) nd rfl (.inl rfl) (pe_cmpR op_ne (pe_dget2 hu (pv 2) (pv 3) pe_str ⟨rfl, rfl, rfl, rfl⟩) pe_str (nomark _)))) pss_nil)
      (pss_one (ps_if (pt_not (pt_val (pv 4))) (pss_one (ps_ret pe_str)) pss_nil)))))
      (pss_one (ps_ret (pe_ix ix_list (pe_lst (pa_cons pe_str (pa_cons pe_str pa_nil))) (pe_callTy call_int1 (by rfl) m_int (by decide +kernel) (pa_cons (pe_cmpR op_eq (pe_callB call_len_seq (by rfl) m_len (by decide +kernel) (pa_cons (pe_ix ix_tup (pv 0) pe_int (fun _ _ => rfl)) pa_nil)) pe_int (nomark _)) pa_nil)) (fun _ _ => rfl))))))), ?_⟩
    have hzl := hB.len
    have hes := hB.ok.esOk
    obtain ⟨ts, hts, htl, _, hfo⟩ := folk_tg (p := b) hB.folk (by have := hB.n6; omega)
    have hft : isFolkT (.tup ts) = true := by
      show ((decide (1 ≤ ts.length) && decide (ts.length ≤ 6)) && ts.all isPersonT) = true
      rw [hfo, htl, decide_eq_true (by have := hB.n2; omega), decide_eq_true hB.n6]
      rfl
    have hlt : lenT (.tup ts) = n := by
      show ((ts.length : Nat) : Int) = n
      rw [htl]
    refine ⟨_, rfl, b, _, 0, _, rfl, rfl, SqT.of hB.at_, (atI_nat (j := 0) rfl), _, rfl, b, _, _, _, _, rfl, hts, hE.tg, fun H1 s1 => ⟨_, rfl, ?_⟩⟩
    rw [hft, hlt, Bool.true_and]
    unfold dueS at q
    cases hie : isEntT n (entT e) with
    | false =>
      rw [hie, if_neg (by decide)] at q
      exact iteT (q _ s1)
    | true =>
    rw [hie, if_pos rfl] at q
    refine iteF ?_
    have hB1 := hB.kp (Same.tup s1)
    refine ⟨_, rfl, b, _, 2, _, rfl, rfl, SqT.of hB1.at_, (atI_nat (j := 2) rfl), t, rfl, ⟨_, SqT.of hB1.ents⟩, fun D nD => ?_⟩
    refine lc_tup (K := K) (a := t) (xs := refs zs) (fun i H' => ∃ ps : List Addr, H' D = some (.lst (ps.map V.ref)) ∧ Same H1 H' ∧ ps.length = i ∧ Paired (fun p (kv : Key × V) => H' p = some (.tup [kV kv.1, kv.2])) ps (wdk ((ens zs).take i))) ⟨[], upd_same, same_new nD _, rfl, .nil⟩ (fun i H' _ h => ?_) ?_ ?_
    · obtain ⟨_, _, sm, _⟩ := h
      exact SqT.of (sm _ _ hB1.ents)
    · rintro i x H' hx ⟨ps, eD, sm, hpl, hpr⟩
      obtain ⟨z, hz, rfl⟩ := ref_at hx
      have hzm : z ∈ zs := List.mem_of_getElem? hz
      have hi : i < zs.length := (List.getElem?_eq_some_iff.mp hz).1
      obtain ⟨xs, ex, g0, _, _, _, g4⟩ := ((hB1.ent z hzm).kp (Same.tup sm)).tup
      refine ⟨rfl, ?_⟩
      unfold tYes
      dsimp only
      rw [if_pos rfl]
      refine ⟨_, rfl, z.1, xs, 0, _, rfl, rfl, SqT.of ex, g0, _, rfl, z.1, xs, 4, _, rfl, rfl, SqT.of ex, g4, (by show 2 ≤ sizeLine; decide), fun r nr => ?_⟩
      have nrD : D ≠ r := ne_of_none eD nr
      refine ⟨_, by rw [upd_ne nrD]; exact eD, small1000 (by rw [List.length_map]; omega), ps ++ [r], ?_, fun b o e => ?_, ?_, ?_⟩
      · rw [upd_same, List.map_append]
        rfl
      · rw [upd_ne (ne_of_none e nD), upd_ne (ne_of_none (sm _ _ e) nr)]
        exact sm _ _ e
      · rw [List.length_append, hpl]
        rfl
      · have hz2 : (ens zs)[i]? = some z.2 := by rw [List.getElem?_map, hz]; rfl
        have e1 : wdk ((ens zs).take (i + 1)) = wdk ((ens zs).take i) ++ [(Sum.inl z.2.num, V.str z.2.word)] := by
          rw [take_more hz2]
          exact List.map_append
        rw [e1]
        refine Paired.snoc (paired_mono hpr fun p kv hp => ?_) ?_
        · rw [upd_ne (fun z0 => by rw [z0, eD] at hp; cases hp), upd_ne (ne_of_none hp nr)]
          exact hp
        · rw [upd_ne nrD.symm, upd_same]
          rfl
    · rintro H' ⟨ps, eD, sm, hpl, hpr⟩
      have el : (ens zs).take (refs zs).length = ens zs := List.take_of_length_le (by rw [List.length_map, List.length_map]; exact Nat.le_refl _)
      rw [el] at hpr
      refine ⟨D, ps, wdk (ens zs), rfl, SqL.of eD, paired_mono hpr fun p kv hp => SqT.of hp, fun W nW => ?_⟩
      have e2 : mergeK [] (wdk (ens zs)) = wdk (ens zs) := mergeK_new (wdk (ens zs)) [] (by rw [List.nil_append]; exact wdk_nodup hB.ok.nd)
      have s2 : Same H' (upd H' W (.dK (mergeK [] (wdk (ens zs))))) := same_new nW _
      have eW : (upd H' W (.dK (mergeK [] (wdk (ens zs))))) W = some (.dK (wdk (ens zs))) := by rw [upd_same, e2]
      generalize upd H' W (.dK (mergeK [] (wdk (ens zs)))) = H2 at s2 eW
      have s02 := s1.trans (sm.trans s2)
      obtain ⟨xe, exe, g0, _, _, _, g4⟩ := (hE.kp (Same.tup s02)).tup
      by_cases hnm : e.num ∈ (ens zs).map (·.num)
      · rw [if_pos hnm] at q
        obtain ⟨u, hu1, hu2⟩ := List.mem_map.mp hnm
        have hg : DGet H2 W (.int e.num) (some (.str u.word)) := by
          have h4 := DGet.k (k := Sum.inl e.num) eW
          rcases get_cases hes e.num with ⟨v, hv, e3, e4⟩ | ⟨hn, _⟩
          · rw [e4, num_one hes.nd hv hu1 (e3.trans hu2.symm)] at h4
            exact h4
          · exact absurd hu2 (hn u hu1)
        refine ⟨_, rfl, a, xe, 0, _, rfl, rfl, SqT.of exe, g0, _, rfl, W, _, rfl, hg, _, rfl, ?_⟩
        exact iteT (q _ s02)
      · rw [if_neg hnm] at q
        have hg : DGet H2 W (.int e.num) none := by
          have h4 := DGet.k (k := Sum.inl e.num) eW
          rw [valV_none (fun q hq => ?_)] at h4
          · exact h4
          · exact fun z => hnm (List.mem_map.mpr ⟨q, hq, z⟩)
        refine ⟨_, rfl, a, xe, 0, _, rfl, rfl, SqT.of exe, g0, _, rfl, W, _, rfl, hg, _, rfl, ?_⟩
        refine iteF ?_
        refine ⟨_, rfl, a, e, rfl, hE.kp (Same.tup s02), hw, fun l H3 s3 el3 => ?_⟩
        refine ⟨l, rfl, ⟨_, SqL.of el3⟩, ?_⟩
        rw [fitE_names hw] at q
        refine for_list (K := K) (a := l) (xs := e.names.map V.int) (fun i σ H' => ∃ y3 y4 y5, σ = [some (.ref b), some (.ref a), some (.ref W), y3, y4, y5] ∧ Same H3 H' ∧ ((e.names.take i).all (wantE (ens zs) e)) = true) ⟨_, _, _, rfl, same_refl _, rfl⟩ (fun i σ H' _ h => ?_) ?_ ?_
        · obtain ⟨_, _, _, _, sm, _⟩ := h
          exact SqL.of (sm _ _ el3)
        · rintro i x σ H4 hx ⟨y3, y4, y5, rfl, s4, hall⟩
          rw [List.getElem?_map] at hx
          cases hm : e.names[i]? with
          | none => rw [hm] at hx; cases hx
          | some m =>
            rw [hm] at hx
            injection hx with hx
            subst hx
            have eW4 := s4 _ _ (s3 _ _ eW)
            have hgW : ∀ H', Same H4 H' → DGet H' W (.int m) (valV (wdk (ens zs)) (.inl m)) := fun H' s' => DGet.k (k := Sum.inl m) (s' _ _ eW4)
            have s04 := s02.trans (s3.trans s4)
            obtain ⟨xe4, exe4, _, _, _, _, g44⟩ := (hE.kp (Same.tup s04)).tup
            obtain ⟨xd, ed1, ed2⟩ := want_deed hes m
            obtain ⟨xa, ea1, ea2⟩ := want_act hes m
            refine ⟨_, rfl, W, rfl, .inl ⟨_, .inl eW4⟩, _, rfl, _, hgW _ (same_refl _), ?_⟩
            rw [ed1]
            refine ⟨rfl, ?_⟩
            refine ⟨_, rfl, a, xe4, 4, _, rfl, rfl, SqT.of exe4, g44, rfl, _, rfl, ?_⟩
            have hstep : ∀ v : Bool, v = wantE (ens zs) e m → (v = true → ((e.names.take (i + 1)).all (wantE (ens zs) e)) = true) ∧ (v = false → e.names.all (wantE (ens zs) e) = false) := fun v hv => by
              refine ⟨fun c => ?_, fun c => ?_⟩
              · rw [take_more hm, List.all_append, hall, Bool.true_and, List.all_cons, List.all_nil, ← hv, c]
                rfl
              · rw [List.all_eq_false]
                exact ⟨m, List.mem_of_getElem? hm, by rw [← hv, c]; decide⟩
            by_cases hun : e.word = "undone"
            · rw [decide_eq_true (congrArg V.str hun)]
              refine iteT ?_
              refine ⟨_, rfl, W, rfl, .inl ⟨_, .inl eW4⟩, _, rfl, _, hgW _ (same_refl _), ?_⟩
              rw [ea1]
              refine ⟨rfl, ?_⟩
              refine ⟨_, rfl, _, rfl, ?_⟩
              rw [dec_strE xa]
              have hv : (!decide (xa = "deed")) = wantE (ens zs) e m := by
                unfold wantE
                rw [if_pos hun]
                exact ea2
              obtain ⟨a1, a2⟩ := hstep _ hv
              show if (!(!decide (xa = ("deed" : Str)))) = true then _ else _
              generalize (!decide (xa = "deed")) = vb at a1 a2 ⊢
              cases vb with
              | true => exact iteF ⟨_, _, _, rfl, s4, a1 rfl⟩
              | false =>
                refine iteT ?_
                rw [a2 rfl] at q
                exact q _ s04
            · rw [decide_eq_false (show ¬ V.str e.word = V.str "undone" from fun z => hun (by injection z))]
              refine iteF ?_
              refine ⟨_, rfl, _, rfl, ?_⟩
              rw [dec_strE]
              have hv : decide (xd = "deed") = wantE (ens zs) e m := by
                unfold wantE
                rw [if_neg hun]
                exact ed2
              obtain ⟨a1, a2⟩ := hstep _ hv
              generalize decide (xd = "deed") = vb at a1 a2 ⊢
              cases vb with
              | true => exact iteF ⟨_, _, _, rfl, s4, a1 rfl⟩
              | false =>
                refine iteT ?_
                rw [a2 rfl] at q
                exact q _ s04
        · rintro σ H4 ⟨y3, y4, y5, rfl, s4, hall⟩
          rw [List.length_map, List.take_length] at hall
          rw [if_pos hall] at q
          have s04 := s02.trans (s3.trans s4)
          have hB4 := hB.kp (Same.tup s04)
          refine ⟨(by show 2 ≤ sizeLine; decide), fun l3 nl3 => ?_⟩
          have s5 := same_new nl3 (.lst [.str "ok", .str "many"])
          have el : (upd H4 l3 (.lst [.str "ok", .str "many"])) l3 = some (.lst [.str "ok", .str "many"]) := upd_same
          generalize upd H4 l3 (.lst [.str "ok", .str "many"]) = H5 at s5 el
          refine ⟨_, rfl, b, _, 2, _, rfl, rfl, SqT.of (s5 _ _ hB4.at_), (atI_nat (j := 2) rfl), t, _, rfl, .inr (SqT.of (s5 _ _ hB4.ents)), rfl, .inr ⟨_, rfl, ?_⟩⟩
          rw [dec_intE]
          have hll : ((refs zs).length : Int) = ((ens zs).length : Int) := by rw [List.length_map, List.length_map]
          rw [hll]
          by_cases h16 : (ens zs).length = 16
          · rw [if_pos h16] at q
            rw [decide_eq_true (show (((ens zs).length : Nat) : Int) = 16 by omega)]
            exact ⟨l3, _, 1, .str "many", rfl, rfl, SqL.of el, (atI_nat (j := 1) rfl), q _ (s04.trans s5)⟩
          · rw [if_neg h16] at q
            rw [decide_eq_false (show ¬ (((ens zs).length : Nat) : Int) = 16 by omega)]
            exact ⟨l3, _, 0, .str "ok", rfl, rfl, SqL.of el, (atI_nat (j := 0) rfl), q _ (s04.trans s5)⟩
end
end Deed

namespace TX
open PySem PySem.Spec PyProof.Rows L2 TL
/-! ### numbers written and read -/
abbrev intT (i : Int) : Str := PySem.Str.ofString (toString i)
def intL : Int → List Nat
  | .ofNat n => numL n
  | .negSucc n => 45 :: numL (n + 1)
theorem tl_int : ∀ i : Int, tl (intT i) = intL i
  | .ofNat n => tl_num n
  | .negSucc n => by
    show (PySem.Str.ofString ("-" ++ Nat.repr (n + 1))).cps.toList = 45 :: numL (n + 1)
    rw [PyProof.Rows.signs_ofString, String.toList_append, List.map_append, Nat.toList_repr]
    rfl
def sgn (c : Nat) : Prop := c = 45 ∨ (48 ≤ c ∧ c ≤ 57)
theorem intL_sgn : ∀ (i : Int) (c : Nat), c ∈ intL i → sgn c
  | .ofNat n, c, h => .inr (numL_digits n c h)
  | .negSucc n, c, h => by
    rcases List.mem_cons.mp h with rfl | h
    · exact .inl rfl
    · exact .inr (numL_digits (n + 1) c h)
theorem intL_ne : ∀ i : Int, intL i ≠ []
  | .ofNat n => numL_ne n
  | .negSucc n => List.cons_ne_nil _ _
theorem intL_dash : ∀ i : Int, intL i ≠ [45]
  | .ofNat n => fun h => by
    have := numL_digits n 45 (by show 45 ∈ intL (.ofNat n); rw [h]; exact List.mem_singleton.mpr rfl)
    omega
  | .negSucc n => fun h => by
    injection h with _ h
    exact numL_ne _ h
theorem intL_free {i : Int} {s : Nat} (h : s ≠ 45) (h2 : s < 48 ∨ 57 < s) : s ∉ intL i := fun hm => by
  rcases intL_sgn i s hm with h3 | h3 <;> omega
theorem intL_len : ∀ {i : Int} {k : Nat}, 0 < k → i.natAbs < 10 ^ k → (intL i).length ≤ k + 1
  | .ofNat n, k, hk, h => Nat.le_succ_of_le (numL_len hk h)
  | .negSucc n, k, hk, h => Nat.succ_le_succ (numL_len hk h)
theorem reads : ∀ {i : Int}, i.natAbs < 10 ^ 30 → PySem.intText? (intT i) = some i
  | .ofNat n, h => int_num (Nat.le_trans (numL_len (by decide) h) (by decide))
  | .negSucc n, h => by
    have hl : (numL (n + 1)).length ≤ 30 := numL_len (by decide) h
    have e := PySem.intText_neg (x := intT (.negSucc n)) (cs := numL (n + 1)) (tl_int _) (numL_digits _) (numL_ne _) (by
      rw [len_tl, tl_int]
      show (numL (n + 1)).length + 1 ≤ 4300
      omega)
    rw [numL_val] at e
    exact e
/-! ### texts of numbers, told by their signs -/
def figL (l : List Nat) : List Nat := if l[0]? = some 45 then l.drop 1 else l
def numOk (l : List Nat) : Bool := (decide (1 ≤ (figL l).length) && decide ((figL l).length ≤ 40)) && ((figL l).all fun c => decide (48 ≤ c) && decide (c ≤ 57)) && (decide ((figL l)[0]? ≠ some 48) || decide (l = [48]))
theorem starts1 (x : Str) (c : Nat) : Txt.startswith x ⟨#[c]⟩ = decide ((tl x)[0]? = some c) := by
  have h := PySem.StrLaws.subAt_one x c 0
  rw [Bool.eq_iff_iff, decide_eq_true_eq]
  refine Iff.trans ?_ h
  show ((decide (0 + (⟨#[c]⟩ : Str).length ≤ x.length) && Builtin.Str.subAt x ⟨#[c]⟩ 0) = true) ↔ _
  rw [Bool.and_eq_true, decide_eq_true_eq]
theorem tl_cut1 (x : Str) : tl (cutS x (some 1) none) = (tl x).drop 1 := by
  show ((x.cps.toList.drop (HT.sIx x.length 0 (some 1))).take (HT.sIx x.length x.length none - HT.sIx x.length 0 (some 1))) = x.cps.toList.drop 1
  have e : HT.sIx x.length x.length none = x.length := rfl
  have e1 : HT.sIx x.length 0 (some 1) = min 1 x.length := by
    simp [HT.sIx]
  rw [e, e1]
  have hl : x.cps.toList.length = x.length := by rw [len_tl]
  rcases Nat.lt_or_ge x.length 1 with h | h
  · rw [List.eq_nil_of_length_eq_zero (l := x.cps.toList) (by omega)]
    simp
  · rw [Nat.min_eq_left h, List.take_of_length_le]
    rw [List.length_drop]
    omega
theorem figL_num (n : Nat) : figL (numL n) = numL n := by
  unfold figL
  rw [if_neg]
  intro h
  have := numL_digits n 45 (List.mem_of_getElem? h)
  omega
/-- no digits more than asked for -/
theorem numL_first : ∀ n : Nat, (numL n)[0]? = some 48 → n = 0 := by
  intro n
  induction n using Nat.strongRecOn with
  | _ n ih =>
    intro h
    by_cases hn : n < 10
    · rw [numL_lt hn] at h
      injection h with h
      omega
    · rw [numL_step (by omega), List.getElem?_append_left (List.length_pos_iff.mpr (numL_ne _))] at h
      have := ih (n / 10) (by omega) h
      omega
theorem numOk_int : ∀ {i : Int}, i.natAbs < 10 ^ 30 → numOk (intL i) = true
  | .ofNat n, h => by
    have hl : (numL n).length ≤ 30 := numL_len (by decide) h
    have h0 := List.length_pos_iff.mpr (numL_ne n)
    unfold numOk
    rw [show intL (.ofNat n) = numL n from rfl, figL_num, decide_eq_true (by omega), decide_eq_true (show (numL n).length ≤ 40 by omega)]
    have ha : ((numL n).all fun c => decide (48 ≤ c) && decide (c ≤ 57)) = true := List.all_eq_true.mpr fun c hc => by
      have := numL_digits n c hc
      rw [decide_eq_true this.1, decide_eq_true this.2]
      rfl
    rw [ha]
    by_cases h1 : (numL n)[0]? = some 48
    · rw [numL_first n h1]
      decide
    · rw [decide_eq_true h1]
      rfl
  | .negSucc n, h => by
    have hl : (numL (n + 1)).length ≤ 30 := numL_len (by decide) h
    have h0 := List.length_pos_iff.mpr (numL_ne (n + 1))
    have hf : figL (intL (.negSucc n)) = numL (n + 1) := rfl
    unfold numOk
    rw [hf, decide_eq_true (by omega), decide_eq_true (show (numL (n + 1)).length ≤ 40 by omega)]
    have ha : ((numL (n + 1)).all fun c => decide (48 ≤ c) && decide (c ≤ 57)) = true := List.all_eq_true.mpr fun c hc => by
      have := numL_digits (n + 1) c hc
      rw [decide_eq_true this.1, decide_eq_true this.2]
      rfl
    rw [ha, decide_eq_true (p := (numL (n + 1))[0]? ≠ some 48) (fun h1 => absurd (numL_first _ h1) (by omega))]
    rfl
end TX

namespace Deed
open PySem PySem.Spec PyProof.Rows L2 LamX TL TX
theorem lt1 (a b : Nat) : decide ([a] < [b]) = decide (a < b) := by
  rw [Bool.eq_iff_iff, decide_eq_true_eq, decide_eq_true_eq, List.cons_lt_cons_iff]
  simp
theorem strE (x : Str) (l : List Nat) : decide (V.str x = V.str ⟨l.toArray⟩) = decide (tl x = l) := by
  rw [Bool.eq_iff_iff, decide_eq_true_eq, decide_eq_true_eq]
  constructor
  · intro h
    injection h with h
    rw [h]
  · intro h
    rw [← h, mk_tl]
section
variable {P : Program} {w : World} {K : PySem.W.Frag} {mg : Str → Option Value} {base : Heap} {T : List (Addr × Str)}
/-! ### texts of numbers -/
abbrev sIsNumT : Stmt := topS 67
abbrev nIsNumT : List Str := ["text", "figures", "sign"]
abbrev pIsNumT : List Str := ["text"]
theorem scIsNumT : FnScope nIsNumT pIsNumT (defScope sIsNumT) := ⟨rfl, rfl, rfl, by decide +kernel, rfl, by decide +kernel, by decide +kernel⟩
def spIsNumT : Sp := fun vs H Q _ => ∃ x : Str, vs = [.str x] ∧ x.length ≤ 999 ∧ ∀ H', Same H H' → Q (.bl (numOk (tl x))) H'
theorem ok_IsNumT {f : Addr} {fd : FuncData} {k : Nat} (F : Fun K "is_number_text" "is_number_text" sIsNumT f fd) (m_len : mg "len" = none) (m_all : mg "all" = none) (iMOST_FIGURES : MgInt mg "MOST_FIGURES" 40) : FnOk P w K mg base CX0 (k + 1) f fd pIsNumT spIsNumT := by
  refine F.ok scIsNumT (fun vs H Q E h => ?_) (fun cdv A outer s H vs Q E hr h => ?_)
  · obtain ⟨x, rfl, _⟩ := h
    rfl
  · obtain ⟨x, rfl, hl, q⟩ := h
    have nd := scIsNumT.nd
    refine ⟨_, C8.pss_cut (ps_set (i := 1) nd rfl (.inl rfl) (pe_ifExp (pt_val (pe_bm PySem.F.plainAttrs_str PySem.F.slot_str_startswith PySem.F.type_str_startswith mt_startswith (pv 0) (pa_cons pe_str pa_nil))) (pe_slice sl_str (pv 0) (po_some pe_int) po_none) (pv 0)))
      (pss_cons (ps_if (pt_not (pt_chain op_le op_le pe_int (pe_callB call_len_str (by rfl) m_len (by decide +kernel) (pa_cons (pv 1) pa_nil)) (pe_num (by rfl) iMOST_FIGURES))) (pss_one (ps_ret pe_bl)) pss_nil)
      (pss_cons (ps_if (pt_not (pt_val (pe_callB (cr_all rfl) (by rfl) m_all (by decide +kernel) (pa_cons (pe_lc (own := [("sign", 2)]) (g := gName 2) (by rfl) nd (pi_str (pv 1)) (blkOk_by (own := [("sign", 2)]) (N := nIsNumT) (sc := defScope sIsNumT) (by decide +kernel)) (fun _ _ _ _ _ => (pg_name (i := 2) nd rfl (.inl rfl))) (fun _ _ _ _ _ => pts_nil)
          (fun _ _ _ _ _ => (pe_chain op_le_str op_le_str pe_str (pv 2) pe_str))) pa_nil)))) (pss_one (ps_ret pe_bl)) pss_nil)
      (pss_one (ps_ret (pe_or (pe_cmpR op_ne (pe_ix ix_str (pv 1) pe_int (fun _ _ => rfl)) pe_str (nomark _)) (pe_one (pe_cmpR op_eq (pv 0) pe_str (nomark _)))))))), ?_⟩
    refine ⟨fun σ' H' => ∃ y : Str, σ' = [some (.str x), some (.str y), none] ∧ H = H' ∧ tl y = figL (tl x) ∧ y.length ≤ 999, ?_, ?_⟩
    · refine ⟨_, rfl, rfl, x, _, rfl, rfl, _, rfl, ?_⟩
      rw [show ("-" : Str) = ⟨#[45]⟩ by decide +kernel, starts1]
      refine ite2 (fun c => ?_) (fun c => ?_)
      · refine ⟨_, rfl, _, rfl, ?_⟩
        dsimp only [tNoPart]
        refine ⟨x, rfl, Nat.le_trans hl (by show 999 ≤ sizeLine; decide), _, rfl, rfl, ?_, Nat.le_trans (cutS_length _ _ _) hl⟩
        rw [tl_cut1]
        unfold figL
        rw [if_pos (of_decide_eq_true c)]
      · refine ⟨_, rfl, _, rfl, rfl, ?_, hl⟩
        unfold figL
        rw [if_neg (of_decide_eq_false (Bool.eq_false_iff.mpr c))]
    rintro _ _ ⟨y, rfl, rfl, hy, hyl⟩
    have eyl : y.length = (figL (tl x)).length := by rw [len_tl, hy]
    refine ⟨_, rfl, y, rfl, Nat.le_trans hyl (by show 999 ≤ sizeLine; decide), ?_⟩
    unfold numOk at q
    by_cases h1 : 1 ≤ y.length
    · refine ⟨_, _, rfl, rfl, _, rfl, ?_⟩
      rw [decide_eq_true (show (1 : Int) ≤ (y.length : Int) by omega), if_pos rfl]
      refine ⟨_, _, rfl, rfl, _, rfl, ?_⟩
      by_cases h2 : y.length ≤ 40
      · rw [decide_eq_true (show (y.length : Int) ≤ 40 by omega)]
        refine iteF ?_
        rw [decide_eq_true (show 1 ≤ (figL (tl x)).length by omega), decide_eq_true (show (figL (tl x)).length ≤ 40 by omega)] at q
        refine ⟨_, rfl, y, rfl, fun M nM => ?_⟩
        refine lc_sameM (walk_str (z := y)) (tl y) (fun c => .bl (decide (48 ≤ c) && decide (c ≤ 57))) (by rw [Array.length_toList]) (by rw [← len_tl]; omega) nM (fun _ _ => True.intro) ?_ ?_
        · rintro i c v H3 H4 hc s3 ⟨rfl, c', hc', rfl⟩ Q1 q1
          rw [Array.getElem?_toList] at hc
          rw [hc] at hc'
          injection hc' with hc'
          subst hc'
          refine ⟨rfl, _, rfl, _, _, rfl, rfl, _, rfl, ?_⟩
          have q2 := q1 _ (same_refl _)
          rw [show (("0" : Str).cps.toList) = [48] by decide +kernel]
          show if (!decide ([c] < [48])) = true then _ else _
          rw [lt1]
          by_cases g1 : 48 ≤ c
          · rw [decide_eq_false (show ¬ c < 48 by omega)]
            rw [decide_eq_true g1] at q2
            refine iteT ?_
            refine ⟨_, _, rfl, rfl, ?_⟩
            show Q1 (.bl (!decide ((("9" : Str).cps.toList) < [c]))) _
            rw [show (("9" : Str).cps.toList) = [57] by decide +kernel, lt1]
            by_cases g2 : c ≤ 57
            · rw [decide_eq_false (show ¬ 57 < c by omega)]
              rw [decide_eq_true g2] at q2
              exact q2
            · rw [decide_eq_true (show 57 < c by omega)]
              rw [decide_eq_false g2] at q2
              exact q2
          · rw [decide_eq_true (show c < 48 by omega)]
            rw [decide_eq_false g1] at q2
            exact iteF q2
        intro H2 s2 eM
        refine ⟨M, (tl y).map (fun c => decide (48 ≤ c) && decide (c ≤ 57)), rfl, SqL.of (by rw [eM, List.map_map]; rfl), _, rfl, ?_⟩
        rw [show ((tl y).map fun c => decide (48 ≤ c) && decide (c ≤ 57)).all id = (figL (tl x)).all fun c => decide (48 ≤ c) && decide (c ≤ 57) from by rw [hy, List.all_map]; rfl]
        cases ha : (figL (tl x)).all fun c => decide (48 ≤ c) && decide (c ≤ 57) with
        | false =>
          rw [ha] at q
          refine iteT ?_
          exact q _ s2
        | true =>
          rw [ha] at q
          refine iteF ?_
          obtain ⟨c0, hc0⟩ : ∃ c0, (tl y)[0]? = some c0 := by
            have : 0 < (tl y).length := by rw [← len_tl]; omega
            exact ⟨_, List.getElem?_eq_getElem this⟩
          refine ⟨_, rfl, y, 0, c0, rfl, rfl, Nat.le_trans hyl (by show 999 ≤ sizeLine; decide), (atI_nat (j := 0) hc0), rfl, _, rfl, ?_⟩
          rw [← hy, hc0] at q
          rw [show ("0" : Str) = ⟨#[48]⟩ by decide +kernel]
          have e0 : decide (V.str ⟨#[c0]⟩ = V.str ⟨#[48]⟩) = decide (c0 = 48) := by
            rw [strE ⟨#[c0]⟩ [48], Bool.eq_iff_iff, decide_eq_true_eq, decide_eq_true_eq]
            show [c0] = [48] ↔ _
            simp
          rw [e0]
          by_cases g : c0 = 48
          · rw [decide_eq_true g]
            refine iteF ?_
            refine ⟨_, rfl, rfl, ?_⟩
            rw [strE x [48]]
            rw [decide_eq_false (show ¬ (some c0 ≠ some 48) by simp [g])] at q
            have := q _ s2
            simpa using this
          · rw [decide_eq_false g]
            refine iteT ?_
            rw [decide_eq_true (show some c0 ≠ some 48 by simp [g])] at q
            have := q _ s2
            simpa using this
      · rw [decide_eq_false (show ¬ (y.length : Int) ≤ 40 by omega)]
        refine iteT ?_
        rw [decide_eq_false (show ¬ (figL (tl x)).length ≤ 40 by omega), Bool.and_false, Bool.false_and, Bool.false_and] at q
        exact q _ (same_refl _)
    · refine ⟨_, _, rfl, rfl, _, rfl, ?_⟩
      rw [decide_eq_false (show ¬ (1 : Int) ≤ (y.length : Int) by omega)]
      refine iteF ?_
      refine ⟨_, rfl, ?_⟩
      refine iteT ?_
      rw [decide_eq_false (show ¬ 1 ≤ (figL (tl x)).length by omega), Bool.false_and, Bool.false_and, Bool.false_and] at q
      exact q _ (same_refl _)
end
end Deed

namespace Deed
open PySem PySem.Spec PyProof.Rows L2 LamX TL TX
/-! ### lists of numbers, written and read -/
abbrev com : Str := ("," : Str)
abbrev dash : Str := ("-" : Str)
theorem tl_com : tl com = [44] := by decide +kernel
theorem tl_dash : tl dash = [45] := by decide +kernel
theorem tl_spc : tl (" " : Str) = [32] := by decide +kernel
theorem tl_nl : tl ("\n" : Str) = [10] := by decide +kernel
theorem tl_col : tl (":" : Str) = [58] := by decide +kernel
theorem k_com : com.cps.all (· < 256) = true := by decide +kernel
theorem k_spc : (" " : Str).cps.all (· < 256) = true := by decide +kernel
theorem k_nl : ("\n" : Str).cps.all (· < 256) = true := by decide +kernel
def rowT (ns : List Int) : Str := if ns = [] then dash else Txt.join com (ns.map intT)
theorem split_row {ns : List Int} (h : ns ≠ []) : Txt.split (Txt.join com (ns.map intT)) com = ns.map intT :=
  split_join tl_com k_com (fun e => h (List.map_eq_nil_iff.mp e)) fun p hp => by
    obtain ⟨i, _, rfl⟩ := List.mem_map.mp hp
    rw [tl_int]
    exact intL_free (by decide) (by decide)
theorem joinL_len (s : Nat) (m : Nat) : ∀ parts : List (List Nat), (∀ p ∈ parts, p.length ≤ m) → (joinL [s] parts).length ≤ parts.length * (m + 1)
  | [], _ => Nat.zero_le _
  | [p], h => by
    have := h p List.mem_cons_self
    show p.length ≤ 1 * (m + 1)
    omega
  | p :: q :: r, h => by
    have h1 := h p List.mem_cons_self
    have h2 := joinL_len s m (q :: r) fun z hz => h z (List.mem_cons_of_mem _ hz)
    show (p ++ ([s] ++ joinL [s] (q :: r))).length ≤ (r.length + 1 + 1) * (m + 1)
    rw [List.length_append, List.length_append]
    show p.length + (1 + (joinL [s] (q :: r)).length) ≤ _
    have e : (r.length + 1 + 1) * (m + 1) = (r.length + 1) * (m + 1) + (m + 1) := by rw [Nat.succ_mul]
    have h3 : (joinL [s] (q :: r)).length ≤ (r.length + 1) * (m + 1) := h2
    omega
theorem join_len {y : Str} {s : Nat} (ey : tl y = [s]) {m : Nat} {parts : List Str} (h : ∀ p ∈ parts, p.length ≤ m) : (Txt.join y parts).length ≤ parts.length * (m + 1) := by
  rw [len_tl, join_eq, tl_join, ey]
  have := joinL_len s m (parts.map tl) fun p hp => by
    obtain ⟨z, hz, rfl⟩ := List.mem_map.mp hp
    rw [← len_tl]
    exact h z hz
  rw [List.length_map] at this
  exact this
theorem numT_len {i : Int} {k : Nat} (hk : 0 < k) (h : i.natAbs < 10 ^ k) : (intT i).length ≤ k + 1 := by
  rw [len_tl, tl_int]
  exact intL_len hk h
def small (i : Int) : Prop := i.natAbs < 10 ^ 6
theorem small.len {i : Int} (h : small i) : (intT i).length ≤ 7 := numT_len (by decide) h
theorem small.big {i : Int} (h : small i) : i.natAbs < 10 ^ 30 := Nat.lt_of_lt_of_le h (by decide)
theorem small.log {i : Int} (h : small i) : i.natAbs.log2 < 1920 := by
  refine Nat.lt_of_le_of_lt (Nat.log2_le_self i.natAbs |> fun _ => ?_) (show 30 < 1920 by decide)
  by_cases h0 : i.natAbs = 0
  · rw [h0]; decide
  · have := (Nat.log2_lt h0 (k := 30)).mpr (Nat.lt_of_lt_of_le h (by decide))
    omega
theorem small.reads {i : Int} (h : small i) : PySem.intText? (intT i) = some i := TX.reads h.big
theorem small.ok {i : Int} (h : small i) : numOk (tl (intT i)) = true := by
  rw [tl_int]
  exact numOk_int h.big
theorem row_dash {ns : List Int} (h : ns ≠ []) : Txt.join com (ns.map intT) ≠ dash := fun e => by
  have h1 := split_row h
  have h2 : Txt.split (Txt.join com [dash]) com = [dash] := split_join tl_com k_com (List.cons_ne_nil _ _) fun p hp => by
    rw [List.mem_singleton.mp hp, tl_dash]
    decide
  rw [show Txt.join com [dash] = dash from by rw [join_eq]; rfl] at h2
  rw [e, h2] at h1
  cases ns with
  | nil => exact h rfl
  | cons i r =>
    injection h1 with h1 _
    refine intL_dash i ?_
    rw [← tl_int, ← h1, tl_dash]
theorem row_len {ns : List Int} (hl : ns.length ≤ 99) (hs : ∀ i ∈ ns, small i) : (rowT ns).length ≤ 999 := by
  unfold rowT
  split
  · exact Nat.le_trans (show dash.length ≤ 1 by decide +kernel) (by decide)
  · have := join_len tl_com (m := 7) (parts := ns.map intT) fun p hp => by
      obtain ⟨i, hi, rfl⟩ := List.mem_map.mp hp
      exact (hs i hi).len
    rw [List.length_map] at this
    omega
section
variable {P : Program} {w : World} {K : PySem.W.Frag} {mg : Str → Option Value} {base : Heap} {T : List (Addr × Str)}
abbrev sAreNumT : Stmt := topS 68
abbrev nAreNumT : List Str := ["texts", "text"]
abbrev pAreNumT : List Str := ["texts"]
theorem scAreNumT : FnScope nAreNumT pAreNumT (defScope sAreNumT) := ⟨rfl, rfl, rfl, by decide +kernel, rfl, by decide +kernel, by decide +kernel⟩
def spAreNumT : Sp := fun vs H Q _ => ∃ (p : Addr) (xs : List Str), vs = [.ref p] ∧ H p = some (.lst (xs.map V.str)) ∧ xs.length ≤ 999 ∧ (∀ x ∈ xs, x.length ≤ 999) ∧ ∀ H', Same H H' → Q (.bl (xs.all fun x => numOk (tl x))) H'
theorem ok_AreNumT {f : Addr} {fd : FuncData} {k : Nat} (F : Fun K "are_number_texts" "are_number_texts" sAreNumT f fd) (C_is_number_text : CallOk P w K mg base k "is_number_text" pIsNumT spIsNumT) (m_all : mg "all" = none) : FnOk P w K mg base CX0 (k + 1) f fd pAreNumT spAreNumT := by
  refine F.ok scAreNumT (fun vs H Q E h => ?_) (fun cdv A outer s H vs Q E hr h => ?_)
  · obtain ⟨p, xs, rfl, _⟩ := h
    rfl
  · obtain ⟨p, xs, rfl, hp, hl, hx, q⟩ := h
    have nd := scAreNumT.nd
    refine ⟨_, pss_one (ps_ret (pe_callB (cr_all rfl) (by rfl) m_all (by decide +kernel) (pa_cons (pe_lc (own := [("text", 1)]) (g := gName 1) (by rfl) nd (pi_list (pv 0)) (blkOk_by (own := [("text", 1)]) (N := nAreNumT) (sc := defScope sAreNumT) (by decide +kernel)) (fun _ _ _ _ _ => (pg_name (i := 1) nd rfl (.inl rfl))) (fun _ _ _ _ _ => pts_nil)
          (fun _ _ _ _ _ => (pe_call C_is_number_text.ok hr (by rfl) C_is_number_text.g C_is_number_text.kp C_is_number_text.b .nil pass0 (pa_cons (pv 1) pa_nil)))) pa_nil))), ?_⟩
    refine ⟨_, rfl, _, rfl, ⟨_, SqL.of hp⟩, fun M1 nM1 => ?_⟩
    refine lc_sameM (walk_list (xs := xs.map V.str)) xs (fun y => .bl (numOk (tl y))) (by rw [List.length_map]) (by omega) nM1 (fun H s => SqL.of (s _ _ hp)) ?_ ?_
    · rintro i y x H3 H4 hy s3 ⟨rfl, hx1⟩ Q1 q1
      rw [List.getElem?_map, hy] at hx1
      injection hx1 with hx1
      subst hx1
      exact ⟨rfl, _, rfl, y, rfl, hx y (List.mem_of_getElem? hy), fun H' s' => q1 _ s'⟩
    intro H2 s2 eM
    refine ⟨M1, xs.map fun x => numOk (tl x), rfl, SqL.of (by rw [eM, List.map_map]; rfl), ?_⟩
    rw [List.all_map]
    exact q _ s2
abbrev sIsListT : Stmt := topS 69
abbrev nIsListT : List Str := ["text"]
abbrev pIsListT : List Str := ["text"]
theorem scIsListT : FnScope nIsListT pIsListT (defScope sIsListT) := ⟨rfl, rfl, rfl, by decide +kernel, rfl, by decide +kernel, by decide +kernel⟩
def spIsListT : Sp := fun vs H Q _ => ∃ ns : List Int, vs = [.str (rowT ns)] ∧ ns.length ≤ 99 ∧ (∀ i ∈ ns, small i) ∧ ∀ H', Same H H' → Q (.bl true) H'
theorem ok_IsListT {f : Addr} {fd : FuncData} {k : Nat} (F : Fun K "is_list_text" "is_list_text" sIsListT f fd) (C_are_number_texts : CallOk P w K mg base k "are_number_texts" pAreNumT spAreNumT) : FnOk P w K mg base CX0 (k + 1) f fd pIsListT spIsListT := by
  refine F.ok scIsListT (fun vs H Q E h => ?_) (fun cdv A outer s H vs Q E hr h => ?_)
  · obtain ⟨ns, rfl, _⟩ := h
    rfl
  · obtain ⟨ns, rfl, hl, hs, q⟩ := h
    have nd := scIsListT.nd
    refine ⟨_, pss_one (ps_ret (pe_or (pe_cmpR op_eq (pv 0) pe_str (nomark _)) (pe_one (pe_call C_are_number_texts.ok hr (by rfl) C_are_number_texts.g C_are_number_texts.kp C_are_number_texts.b .nil pass0 (pa_cons (pe_bm PySem.F.plainAttrs_str PySem.F.slot_str_split PySem.F.type_str_split mt_split (pv 0) (pa_cons pe_str pa_nil)) pa_nil))))), ?_⟩
    refine ⟨_, rfl, rfl, _, rfl, ?_⟩
    have hsz : (rowT ns).length + 2 ≤ sizeLine := by
      have := row_len hl hs
      rw [sizeLine_eq]
      omega
    by_cases h0 : ns = []
    · rw [decide_eq_true (show V.str (rowT ns) = V.str dash by unfold rowT; rw [if_pos h0])]
      exact iteT (q H (same_refl _))
    · have e0 : rowT ns = Txt.join com (ns.map intT) := by unfold rowT; rw [if_neg h0]
      rw [decide_eq_false (show ¬ V.str (rowT ns) = V.str dash from fun z => by
        injection z with z
        exact row_dash h0 (e0.symm.trans z))]
      refine iteF ?_
      refine ⟨_, rfl, rfl, rowT ns, _, rfl, rfl, by decide +kernel, hsz, fun p np => ?_⟩
      have es : Txt.split (rowT ns) com = ns.map intT := by rw [e0]; exact split_row h0
      rw [es]
      refine ⟨p, ns.map intT, rfl, upd_same, by rw [List.length_map]; omega, fun x hx => ?_, fun H' s' => ?_⟩
      · obtain ⟨i, hi, rfl⟩ := List.mem_map.mp hx
        exact Nat.le_trans (hs i hi).len (by decide)
      · rw [show (ns.map intT).all (fun x => numOk (tl x)) = true from by
          rw [List.all_map, List.all_eq_true]
          exact fun i hi => (hs i hi).ok]
        exact q H' ((same_new np _).trans s')
abbrev sListRd : Stmt := topS 70
abbrev nListRd : List Str := ["text", "number"]
abbrev pListRd : List Str := ["text"]
theorem scListRd : FnScope nListRd pListRd (defScope sListRd) := ⟨rfl, rfl, rfl, by decide +kernel, rfl, by decide +kernel, by decide +kernel⟩
def spListRd : Sp := fun vs H Q _ => ∃ ns : List Int, vs = [.str (rowT ns)] ∧ ns.length ≤ 99 ∧ (∀ i ∈ ns, small i) ∧ ∀ t H', Same H H' → H' t = some (.tup (ns.map V.int)) → Q (.ref t) H'
theorem ok_ListRd {f : Addr} {fd : FuncData} {k : Nat} (F : Fun K "list_read" "list_read" sListRd f fd) (m_int : mg "int" = none) (m_tuple : mg "tuple" = none) : FnOk P w K mg base CX0 (k + 1) f fd pListRd spListRd := by
  refine F.ok scListRd (fun vs H Q E h => ?_) (fun cdv A outer s H vs Q E hr h => ?_)
  · obtain ⟨ns, rfl, _⟩ := h
    rfl
  · obtain ⟨ns, rfl, hl, hs, q⟩ := h
    have nd := scListRd.nd
    refine ⟨_, pss_cons (ps_if (pt_cmpR op_eq (pv 0) pe_str (nomark _)) (pss_one (ps_ret (pe_tup pa_nil))) pss_nil)
      (pss_one (ps_ret (pe_callTy call_tuple_of (by rfl) m_tuple (by decide +kernel) (pa_cons (pe_lc (own := [("number", 1)]) (g := gName 1) (by rfl) nd (pi_list (pe_bm PySem.F.plainAttrs_str PySem.F.slot_str_split PySem.F.type_str_split mt_split (pv 0) (pa_cons pe_str pa_nil))) (blkOk_by (own := [("number", 1)]) (N := nListRd) (sc := defScope sListRd) (by decide +kernel)) (fun _ _ _ _ _ => (pg_name (i := 1) nd rfl (.inl rfl))) (fun _ _ _ _ _ => pts_nil)
          (fun _ _ _ _ _ => (pe_callTy call_int_str (by rfl) m_int (by decide +kernel) (pa_cons (pv 1) pa_nil)))) pa_nil)))), ?_⟩
    have hsz : (rowT ns).length + 2 ≤ sizeLine := by
      have := row_len hl hs
      rw [sizeLine_eq]
      omega
    refine ⟨_, rfl, rfl, _, rfl, ?_⟩
    by_cases h0 : ns = []
    · rw [decide_eq_true (show V.str (rowT ns) = V.str dash by unfold rowT; rw [if_pos h0])]
      refine iteT ⟨Nat.zero_le _, fun t1 nt1 => ?_⟩
      subst h0
      exact q t1 _ (same_new nt1 _) upd_same
    · have e0 : rowT ns = Txt.join com (ns.map intT) := by unfold rowT; rw [if_neg h0]
      rw [decide_eq_false (show ¬ V.str (rowT ns) = V.str dash from fun z => by
        injection z with z
        exact row_dash h0 (e0.symm.trans z))]
      refine iteF ?_
      refine ⟨_, rfl, rfl, rowT ns, _, rfl, rfl, by decide +kernel, hsz, fun p np => ?_⟩
      have es : Txt.split (rowT ns) com = ns.map intT := by rw [e0]; exact split_row h0
      rw [es]
      have s1 := same_new np (.lst ((ns.map intT).map V.str))
      have e1 : (upd H p (.lst ((ns.map intT).map V.str))) p = some (.lst ((ns.map intT).map V.str)) := upd_same
      generalize (upd H p (.lst ((ns.map intT).map V.str))) = H1 at s1 e1
      refine ⟨p, rfl, ⟨_, SqL.of e1⟩, fun M2 nM2 => ?_⟩
      refine lc_sameM (walk_list (xs := (ns.map intT).map V.str)) ns V.int (by rw [List.length_map, List.length_map]) (by omega) nM2 (fun H s => SqL.of (s _ _ e1)) ?_ ?_
      · rintro i y x H3 H4 hy s3 ⟨rfl, hx1⟩ Q1 q1
        rw [List.getElem?_map, List.getElem?_map, hy] at hx1
        injection hx1 with hx1
        subst hx1
        have hsy := hs y (List.mem_of_getElem? hy)
        exact ⟨rfl, _, rfl, intT y, y, rfl, hsy.reads, Nat.le_trans hsy.len (by decide), q1 _ (same_refl _)⟩
      intro H2 s2 eM
      refine ⟨M2, _, rfl, .inl ⟨SqL.of eM, fun t3 nt3 => ?_⟩⟩
      exact q t3 _ (s1.trans (s2.trans (same_new nt3 _))) upd_same
end
end Deed

namespace Deed
open PySem PySem.Spec PyProof.Rows L2 LamX TL TX
/-! ### persons, written and read -/
def dV : Option Int → V
  | none => .non
  | some i => .int i
def perT (b : Int) : Option Int → Str
  | none => ⟨(intL b ++ [58, 45]).toArray⟩
  | some i => ⟨(intL b ++ 58 :: intL i).toArray⟩
theorem ext_str {a b : Str} (h : tl a = tl b) : a = b := by rw [← mk_tl a, ← mk_tl b, h]
theorem tl_empty : tl PySem.Str.empty = [] := by decide +kernel
theorem tl_cd : tl (":-" : Str) = [58, 45] := by decide +kernel
theorem ecast {Q : V → Hp → Prop} {H : Hp} {a b : Str} (q : Q (.str a) H) (e : a = b) : Q (.str b) H := e ▸ q
section
variable {P : Program} {w : World} {K : PySem.W.Frag} {mg : Str → Option Value} {base : Heap} {T : List (Addr × Str)}
abbrev sPerT : Stmt := topS 64
abbrev nPerT : List Str := ["person", "born", "died"]
abbrev pPerT : List Str := ["person"]
theorem scPerT : FnScope nPerT pPerT (defScope sPerT) := ⟨rfl, rfl, rfl, by decide +kernel, rfl, by decide +kernel, by decide +kernel⟩
def spPerT : Sp := fun vs H Q _ => ∃ (a : Addr) (b : Int) (d : Option Int), vs = [.ref a] ∧ H a = some (.tup [.int b, dV d]) ∧ small b ∧ (∀ i, d = some i → small i) ∧ Q (.str (perT b d)) H
theorem ok_PerT {f : Addr} {fd : FuncData} {k : Nat} (F : Fun K "person_text" "person_text" sPerT f fd) : FnOk P w K mg base CX0 (k + 1) f fd pPerT spPerT := by
  refine F.ok scPerT (fun vs H Q E h => ?_) (fun cdv A outer s H vs Q E hr h => ?_)
  · obtain ⟨a, b, d, rfl, _⟩ := h
    rfl
  · obtain ⟨a, b, d, rfl, ha, hb, hd, q⟩ := h
    have nd := scPerT.nd
    refine ⟨_, pss_cons (ps_asg (pv 0) (pg_tup (by rfl) (pgs_cons (pg_name (i := 1) nd rfl (.inl rfl)) (pgs_cons (pg_name (i := 2) nd rfl (.inl rfl)) pgs_nil))))
      (pss_one (ps_ret (pe_ifExp (pt_cmpR op_isN (pv 2) pe_non (nomark _)) (pe_joined (.cons (pe_fmt (pv 1)) (.cons pe_str .nil))) (pe_joined (.cons (pe_fmt (pv 1)) (.cons pe_str (.cons (pe_fmt (pv 2)) .nil))))))), ?_⟩
    refine ⟨_, rfl, _, _, rfl, SqT.of ha, rfl, _, _, rfl, _, _, rfl, rfl, ?_⟩
    have lb : (PySem.Str.ofString (toString b)).length ≤ 7 := hb.len
    have l0 : PySem.Str.empty.length = 0 := by decide +kernel
    have l1 : (":-" : Str).length = 2 := by decide +kernel
    have l2 : (":" : Str).length = 1 := by decide +kernel
    refine ⟨_, rfl, rfl, _, rfl, ?_⟩
    cases d with
    | none =>
      refine iteT ?_
      refine ⟨_, rfl, .inr ⟨b, rfl, hb.log, _, rfl, ?_, _, rfl, ?_, ?_⟩⟩
      · simp only [strLen_append]
        rw [l0, sizeLine_eq]
        omega
      · simp only [strLen_append]
        rw [l0, l1, sizeLine_eq]
        omega
      · refine ecast q ?_
        refine ext_str ?_
        rw [tl_append, tl_append, tl_empty, List.nil_append, tl_cd]
        show intL b ++ [58, 45] = tl (intT b) ++ [58, 45]
        rw [tl_int]
    | some i =>
      refine iteF ?_
      have hi := hd i rfl
      have li : (PySem.Str.ofString (toString i)).length ≤ 7 := hi.len
      refine ⟨_, rfl, .inr ⟨b, rfl, hb.log, _, rfl, ?_, _, rfl, ?_, _, rfl, .inr ⟨i, rfl, hi.log, _, rfl, ?_, ?_⟩⟩⟩
      · simp only [strLen_append]
        rw [l0, sizeLine_eq]
        omega
      · simp only [strLen_append]
        rw [l0, l2, sizeLine_eq]
        omega
      · simp only [strLen_append]
        rw [l0, l2, sizeLine_eq]
        omega
      · refine ecast q ?_
        refine ext_str ?_
        rw [tl_append, tl_append, tl_append, tl_empty, List.nil_append, tl_col]
        show intL b ++ 58 :: intL i = (tl (intT b) ++ [58]) ++ tl (intT i)
        rw [tl_int, tl_int, List.append_assoc]
        rfl
def restT : Option Int → Str
  | none => dash
  | some i => intT i
theorem per_parts (b : Int) (d : Option Int) : Txt.partition (perT b d) (":" : Str) = (intT b, (":" : Str), restT d) := by
  have h : perT b d = intT b ++ (":" : Str) ++ restT d := by
    refine ext_str ?_
    rw [tl_append, tl_append, tl_col, tl_int]
    cases d with
    | none =>
      show intL b ++ [58, 45] = (intL b ++ [58]) ++ tl dash
      rw [tl_dash, List.append_assoc]
      rfl
    | some i =>
      show intL b ++ 58 :: intL i = (intL b ++ [58]) ++ tl (intT i)
      rw [tl_int, List.append_assoc]
      rfl
  rw [h]
  exact partition_app tl_col (by rw [tl_int]; exact intL_free (by decide) (by decide))
theorem per_len {b : Int} {d : Option Int} (hb : small b) (hd : ∀ i, d = some i → small i) : (perT b d).length ≤ 20 := by
  have h1 := hb.len
  rw [len_tl, tl_int] at h1
  rw [len_tl]
  cases d with
  | none =>
    show (intL b ++ [58, 45]).length ≤ 20
    rw [List.length_append]
    show _ + 2 ≤ 20
    omega
  | some i =>
    have h2 := (hd i rfl).len
    rw [len_tl, tl_int] at h2
    show (intL b ++ 58 :: intL i).length ≤ 20
    rw [List.length_append, List.length_cons]
    omega
abbrev sPerRd : Stmt := topS 71
abbrev nPerRd : List Str := ["text", "born", "colon", "died"]
abbrev pPerRd : List Str := ["text"]
theorem scPerRd : FnScope nPerRd pPerRd (defScope sPerRd) := ⟨rfl, rfl, rfl, by decide +kernel, rfl, by decide +kernel, by decide +kernel⟩
def spPerRd : Sp := fun vs H Q _ => ∃ (b : Int) (d : Option Int), vs = [.str (perT b d)] ∧ small b ∧ (∀ i, d = some i → small i) ∧ ∀ t H', Same H H' → H' t = some (.tup [.int b, dV d]) → Q (.ref t) H'
theorem ok_PerRd {f : Addr} {fd : FuncData} {k : Nat} (F : Fun K "person_read" "person_read" sPerRd f fd) (C_is_number_text : CallOk P w K mg base k "is_number_text" pIsNumT spIsNumT) (m_int : mg "int" = none) : FnOk P w K mg base CX0 (k + 1) f fd pPerRd spPerRd := by
  refine F.ok scPerRd (fun vs H Q E h => ?_) (fun cdv A outer s H vs Q E hr h => ?_)
  · obtain ⟨b, d, rfl, _⟩ := h
    rfl
  · obtain ⟨b, d, rfl, hb, hd, q⟩ := h
    have nd := scPerRd.nd
    refine ⟨_, pss_cons (ps_asg (pe_bm PySem.F.plainAttrs_str PySem.F.slot_str_partition PySem.F.type_str_partition mt_partition (pv 0) (pa_cons pe_str pa_nil)) (pg_tup (by rfl) (pgs_cons (pg_name (i := 1) nd rfl (.inl rfl)) (pgs_cons (pg_name (i := 2) nd rfl (.inl rfl)) (pgs_cons (pg_name (i := 3) nd rfl (.inl rfl)) pgs_nil)))))
      (pss_cons (ps_if (pt_not (pt_val (pe_call C_is_number_text.ok hr (by rfl) C_is_number_text.g C_is_number_text.kp C_is_number_text.b .nil pass0 (pa_cons (pv 1) pa_nil)))) (pss_one (ps_ret pe_non)) pss_nil)
      (pss_cons (ps_if (pt_cmpR op_eq (pv 3) pe_str (nomark _)) (pss_one (ps_ret (pe_tup (pa_cons (pe_callTy call_int_str (by rfl) m_int (by decide +kernel) (pa_cons (pv 1) pa_nil)) (pa_cons pe_non pa_nil))))) pss_nil)
      (pss_one (ps_ret (pe_ifExp (pt_val (pe_call C_is_number_text.ok hr (by rfl) C_is_number_text.g C_is_number_text.kp C_is_number_text.b .nil pass0 (pa_cons (pv 3) pa_nil))) (pe_tup (pa_cons (pe_callTy call_int_str (by rfl) m_int (by decide +kernel) (pa_cons (pv 1) pa_nil)) (pa_cons (pe_callTy call_int_str (by rfl) m_int (by decide +kernel) (pa_cons (pv 3) pa_nil)) pa_nil))) pe_non))))), ?_⟩
    refine ⟨_, rfl, rfl, perT b d, _, rfl, rfl, by decide +kernel, ?_, fun t1 nt1 => ?_⟩
    · have := per_len hb hd
      rw [sizeLine_eq]
      omega
    rw [per_parts]
    have s1 := same_new nt1 (.tup [.str (intT b), .str (":" : Str), .str (restT d)])
    have e1 : (upd H t1 (.tup [.str (intT b), .str (":" : Str), .str (restT d)])) t1 = some (.tup [.str (intT b), .str (":" : Str), .str (restT d)]) := upd_same
    generalize (upd H t1 (.tup [.str (intT b), .str (":" : Str), .str (restT d)])) = H1 at s1 e1
    refine ⟨t1, _, rfl, SqT.of e1, rfl, _, _, rfl, _, _, rfl, _, _, rfl, rfl, ?_⟩
    refine ⟨_, rfl, intT b, rfl, Nat.le_trans hb.len (by decide), fun H2 s2 => ⟨_, rfl, ?_⟩⟩
    rw [hb.ok]
    refine iteF ?_
    refine ⟨_, rfl, rfl, _, rfl, ?_⟩
    cases d with
    | none =>
      rw [decide_eq_true (show V.str (restT none) = V.str ("-" : Str) from rfl)]
      refine iteT ?_
      refine ⟨_, rfl, intT b, b, rfl, hb.reads, Nat.le_trans hb.len (by decide), (by show 2 ≤ sizeLine; decide), fun t3 nt3 => ?_⟩
      exact q t3 _ (s1.trans (s2.trans (same_new nt3 _))) upd_same
    | some i =>
      have hi := hd i rfl
      rw [decide_eq_false (show ¬ V.str (restT (some i)) = V.str ("-" : Str) from fun z => by
        injection z with z
        refine intL_dash i ?_
        rw [← tl_int]
        show tl (restT (some i)) = [45]
        rw [z]
        exact tl_dash)]
      refine iteF ?_
      refine ⟨_, rfl, intT i, rfl, Nat.le_trans hi.len (by decide), fun H3 s3 => ⟨_, rfl, ?_⟩⟩
      rw [hi.ok]
      refine iteT ?_
      refine ⟨_, rfl, intT b, b, rfl, hb.reads, Nat.le_trans hb.len (by decide), _, rfl, intT i, i, rfl, hi.reads, Nat.le_trans hi.len (by decide), (by show 2 ≤ sizeLine; decide), fun t3 nt3 => ?_⟩
      exact q t3 _ (s1.trans (s2.trans (s3.trans (same_new nt3 _)))) upd_same
end
end Deed

namespace Deed
open PySem PySem.Spec PyProof.Rows L2 LamX TL TX
/-! ### parts of entries, entries and books as texts -/
inductive Pt where
  | int (i : Int)
  | str (x : Str)
  | row (ns : List Int)
def Pt.txt : Pt → Str
  | .int i => intT i
  | .str x => x
  | .row ns => rowT ns
def Pt.at_ (H : Hp) : V → Pt → Prop
  | v, .int i => v = .int i ∧ small i
  | v, .str x => v = .str x ∧ x.length ≤ 20
  | v, .row ns => ∃ a, v = .ref a ∧ H a = some (.tup (ns.map V.int)) ∧ ns.length ≤ 99 ∧ ∀ i ∈ ns, small i
theorem Pt.at_.kp {H H' : Hp} {v : V} {p : Pt} (h : p.at_ H v) (k : KpT H H') : p.at_ H' v := by
  cases p with
  | int i => exact h
  | str x => exact h
  | row ns =>
    obtain ⟨a, h1, h2, h3⟩ := h
    exact ⟨a, h1, k _ _ h2, h3⟩
theorem Pt.at_.len {H : Hp} {v : V} {p : Pt} (h : p.at_ H v) : p.txt.length ≤ 999 := by
  cases p with
  | int i => exact Nat.le_trans h.2.len (by decide)
  | str x => exact Nat.le_trans h.2 (by decide)
  | row ns =>
    obtain ⟨a, _, _, h3, h4⟩ := h
    exact row_len h3 h4
theorem sum_len {m : Nat} : ∀ {ys : List Str}, (∀ y ∈ ys, y.length ≤ m) → (ys.map (·.length)).sum ≤ ys.length * m
  | [], _ => Nat.zero_le _
  | y :: r, h => by
    have h1 := h y List.mem_cons_self
    have h2 := sum_len (ys := r) fun z hz => h z (List.mem_cons_of_mem _ hz)
    rw [List.map_cons, List.sum_cons, List.length_cons, Nat.succ_mul]
    omega
section
variable {P : Program} {w : World} {K : PySem.W.Frag} {mg : Str → Option Value} {base : Heap} {T : List (Addr × Str)}
abbrev sPartT : Stmt := topS 65
abbrev nPartT : List Str := ["part", "number"]
abbrev pPartT : List Str := ["part"]
theorem scPartT : FnScope nPartT pPartT (defScope sPartT) := ⟨rfl, rfl, rfl, by decide +kernel, rfl, by decide +kernel, by decide +kernel⟩
def spPartT : Sp := fun vs H Q _ => ∃ (v : V) (p : Pt), vs = [v] ∧ p.at_ H v ∧ ∀ H', Same H H' → Q (.str p.txt) H'
theorem ok_PartT {f : Addr} {fd : FuncData} {k : Nat} (F : Fun K "part_text" "part_text" sPartT f fd) (m_isinstance : mg "isinstance" = none) (m_tuple : mg "tuple" = none) (m_str : mg "str" = none) : FnOk P w K mg base CX0 (k + 1) f fd pPartT spPartT := by
  refine F.ok scPartT (fun vs H Q E h => ?_) (fun cdv A outer s H vs Q E hr h => ?_)
  · obtain ⟨v, p, rfl, _⟩ := h
    rfl
  · obtain ⟨v, p, rfl, hp, q⟩ := h
    have nd := scPartT.nd
    refine ⟨_, pss_cons (ps_if (pt_val (pe_callB call_isi (by rfl) m_isinstance (by decide +kernel) (pa_cons (pv 0) (pa_cons (pe_bltn (v := .ty "tuple") (by rfl) m_tuple (by decide +kernel) rfl) pa_nil)))) (pss_one (ps_ret (pe_ifExp (pt_truth (pv 0) (fun _ => rfl)) (pe_bm PySem.F.plainAttrs_str PySem.F.slot_str_join PySem.F.type_str_join mt_join pe_str (pa_cons (pe_lc (own := [("number", 1)]) (g := gName 1) (by rfl) nd (pi_tup (pv 0)) (blkOk_by (own := [("number", 1)]) (N := nPartT) (sc := defScope sPartT) (by decide +kernel)) (fun _ _ _ _ _ => (pg_name (i := 1) nd rfl (.inl rfl))) (fun _ _ _ _ _ => pts_nil)
          (fun _ _ _ _ _ => (pe_callTy call_str_int (by rfl) m_str (by decide +kernel) (pa_cons (pv 1) pa_nil)))) pa_nil)) pe_str))) pss_nil)
      (pss_one (ps_ret (pe_callTy (CallR.or call_str_int SkE.call_str_str) (by rfl) m_str (by decide +kernel) (pa_cons (pv 0) pa_nil)))), ?_⟩
    cases p with
    | int i =>
      obtain ⟨rfl, hi⟩ := hp
      refine ⟨_, rfl, _, _, .type "int", .type "tuple", false, rfl, .ty "tuple", .base (.int i), kit_ty (by decide +kernel), _, rfl, ?_⟩
      refine iteF ?_
      exact ⟨_, rfl, .inl ⟨i, rfl, hi.log, q H (same_refl _)⟩⟩
    | str x =>
      obtain ⟨rfl, hx⟩ := hp
      refine ⟨_, rfl, _, _, .type "str", .type "tuple", false, rfl, .ty "tuple", .base (.str x), kit_ty (by decide +kernel), _, rfl, ?_⟩
      refine iteF ?_
      exact ⟨_, rfl, .inr ⟨x, rfl, q H (same_refl _)⟩⟩
    | row ns =>
      obtain ⟨a, rfl, ha, hl, hs⟩ := hp
      refine ⟨_, rfl, _, _, .type "tuple", .type "tuple", true, rfl, .ty "tuple", .base (.tup ha), kit_ty (by decide +kernel), _, rfl, ?_⟩
      refine iteT ?_
      refine ⟨_, rfl, !(ns.map V.int).isEmpty, ?_, ?_⟩
      · exact .inr (.inl ⟨_, SqT.of ha, rfl⟩)
      by_cases h0 : ns = []
      · subst h0
        refine iteF ?_
        exact q H (same_refl _)
      · have hne : (!(ns.map V.int).isEmpty) = true := by
          cases ns with
          | nil => exact absurd rfl h0
          | cons i r => rfl
        rw [hne]
        refine iteT ?_
        refine ⟨rfl, _, rfl, _, rfl, ⟨_, SqT.of ha⟩, fun M nM => ?_⟩
        refine lc_sameM (walk_tup (xs := ns.map V.int)) ns (fun i => .str (intT i)) (by rw [List.length_map]) (by omega) nM (fun H s => SqT.of (s _ _ ha)) ?_ ?_
        · rintro i y x H3 H4 hy s3 ⟨rfl, hx1⟩ Q1 q1
          rw [List.getElem?_map, hy] at hx1
          injection hx1 with hx1
          subst hx1
          exact ⟨rfl, _, rfl, y, rfl, (hs y (List.mem_of_getElem? hy)).log, q1 _ (same_refl _)⟩
        intro H2 s2 eM
        refine ⟨com, M, ns.map intT, rfl, rfl, .inl (SqL.of (by rw [eM, List.map_map]; rfl)), ?_, ?_⟩
        · have := sum_len (m := 7) (ys := ns.map intT) fun y hy => by
            obtain ⟨i, hi, rfl⟩ := List.mem_map.mp hy
            exact (hs i hi).len
          have l1 : com.length = 1 := by decide +kernel
          rw [List.length_map] at this ⊢
          rw [l1]
          omega
        · have e0 : rowT ns = Txt.join com (ns.map intT) := by unfold rowT; rw [if_neg h0]
          have := q H2 s2
          show Q (.str (Txt.join com (ns.map intT))) H2
          rw [← e0]
          exact this
end
end Deed

namespace Deed
open PySem PySem.Spec PyProof.Rows L2 LamX TL TX
def ptsE (e : En) : List Pt := match e.kd with
  | .deed g t rs ws => [.int e.num, .int e.day, .int e.wri, .int e.hand, .str "deed", .int g, .int t, .row rs, .row ws]
  | .act x o => [.int e.num, .int e.day, .int e.wri, .int e.hand, .str x, .int o]
def lineT (e : En) : Str := Txt.join (" " : Str) ((ptsE e).map Pt.txt)
def headT (ps : List (Int × Option Int)) : Str := Txt.join (" " : Str) (("folk" : Str) :: ps.map fun q => perT q.1 q.2)
def ageTx (age : Int) : Str := ⟨(tl ("age " : Str) ++ intL age).toArray⟩
def bookT (ps : List (Int × Option Int)) (age : Int) (es : List En) : Str := Txt.join ("\n" : Str) (headT ps :: ageTx age :: es.map lineT)
theorem small_of {i : Int} (h0 : -999999 ≤ i) (h1 : i ≤ 999999) : small i := by
  unfold small
  have : i.natAbs < 1000000 := by omega
  exact this
/-- an entry's parts -/
theorem EntAt.pts {H : Hp} {a : Addr} {n : Nat} {es : List En} {e : En} (h : EntAt H a e) (hb : BkOk n es) (he : e ∈ es) (hn : n ≤ 6) : ∃ zs : List (V × Pt), H a = some (.tup (zs.map (·.1))) ∧ zs.map (·.2) = ptsE e ∧ zs.length ≤ 9 ∧ ∀ z ∈ zs, z.2.at_ H z.1 := by
  have hr := hb.rng e he
  obtain ⟨⟨a1, a2⟩, ⟨b1, b2⟩, ⟨c1, c2⟩, hk⟩ := hb.ok e he
  have in_dn : ∀ x ∈ dn es, small x := fun x hx => by
    obtain ⟨e', h1, h2⟩ := mem_dn.mp hx
    have := hb.rng e' h1
    rw [h2.2] at this
    exact small_of (by omega) (by omega)
  have in_an : ∀ x ∈ an es, small x := fun x hx => by
    obtain ⟨e', h1, h2⟩ := mem_an.mp hx
    have := hb.rng e' h1
    rw [h2.2] at this
    exact small_of (by omega) (by omega)
  unfold EntAt at h
  unfold ptsE
  cases hd : e.kd with
  | deed g t rs ws =>
    rw [hd] at h hk
    obtain ⟨r, w, h1, h2, h3⟩ := h
    obtain ⟨⟨g1, g2⟩, ⟨t1, t2⟩, _, r1, _, r2, w1, _, w2⟩ := hk
    refine ⟨[(.int e.num, .int e.num), (.int e.day, .int e.day), (.int e.wri, .int e.wri), (.int e.hand, .int e.hand), (.str "deed", .str "deed"), (.int g, .int g), (.int t, .int t), (.ref r, .row rs), (.ref w, .row ws)], h1, rfl, Nat.le_refl _, fun z hz => ?_⟩
    simp only [List.mem_cons, List.not_mem_nil, or_false] at hz
    rcases hz with rfl | rfl | rfl | rfl | rfl | rfl | rfl | rfl | rfl
    · exact ⟨rfl, small_of (by omega) (by omega)⟩
    · exact ⟨rfl, small_of (by omega) (by omega)⟩
    · exact ⟨rfl, small_of (by omega) (by omega)⟩
    · exact ⟨rfl, small_of (by omega) (by omega)⟩
    · exact ⟨rfl, by decide +kernel⟩
    · exact ⟨rfl, small_of (by omega) (by omega)⟩
    · exact ⟨rfl, small_of (by omega) (by omega)⟩
    · exact ⟨r, rfl, h2, by omega, fun i hi => in_dn i (r2 i hi).1⟩
    · exact ⟨w, rfl, h3, by omega, fun i hi => by
        have := w2 i hi
        exact small_of (by omega) (by omega)⟩
  | act x o =>
    rw [hd] at h hk
    obtain ⟨hx, _⟩ := hk
    refine ⟨[(.int e.num, .int e.num), (.int e.day, .int e.day), (.int e.wri, .int e.wri), (.int e.hand, .int e.hand), (.str x, .str x), (.int o, .int o)], h, rfl, by show 6 ≤ 9; decide, fun z hz => ?_⟩
    simp only [List.mem_cons, List.not_mem_nil, or_false] at hz
    rcases hz with rfl | rfl | rfl | rfl | rfl | rfl
    · exact ⟨rfl, small_of (by omega) (by omega)⟩
    · exact ⟨rfl, small_of (by omega) (by omega)⟩
    · exact ⟨rfl, small_of (by omega) (by omega)⟩
    · exact ⟨rfl, small_of (by omega) (by omega)⟩
    · refine ⟨rfl, ?_⟩
      rcases hx with ⟨rfl, _⟩ | ⟨rfl | rfl, _⟩ <;> decide +kernel
    · refine ⟨rfl, ?_⟩
      rcases hx with ⟨_, ho⟩ | ⟨_, ho⟩
      · exact in_an o ho
      · exact in_dn o ho
def PerZ (H : Hp) (z : Addr × Int × Option Int) : Prop := H z.1 = some (.tup [.int z.2.1, dV z.2.2]) ∧ small z.2.1 ∧ ∀ i, z.2.2 = some i → small i
structure FolkZ (H : Hp) (fk : Addr) (pz : List (Addr × Int × Option Int)) : Prop where
  at_ : H fk = some (.tup (pz.map fun z => V.ref z.1))
  len : pz.length ≤ 6
  per : ∀ z ∈ pz, PerZ H z
theorem FolkZ.kp {H H' : Hp} {fk : Addr} {pz : List (Addr × Int × Option Int)} (h : FolkZ H fk pz) (k : KpT H H') : FolkZ H' fk pz := ⟨k _ _ h.at_, h.len, fun z hz => ⟨k _ _ (h.per z hz).1, (h.per z hz).2⟩⟩
theorem pers_z {H : Hp} : ∀ xs : List V, (∀ x ∈ xs, PersonAt H x) → ∃ pz : List (Addr × Int × Option Int), xs = pz.map (fun z => V.ref z.1) ∧ ∀ z ∈ pz, PerZ H z
  | [], _ => ⟨[], rfl, fun _ h => nomatch h⟩
  | x :: r, h => by
    obtain ⟨pz, e, hp⟩ := pers_z r fun y hy => h y (List.mem_cons_of_mem _ hy)
    obtain ⟨a, b, d, rfl, h1, h2, h3, h4⟩ := h x List.mem_cons_self
    have hb : small b := small_of (by omega) (by omega)
    rcases h4 with rfl | ⟨i, rfl, h5, h6⟩
    · refine ⟨(a, b, none) :: pz, by rw [e]; rfl, fun z hz => ?_⟩
      rcases List.mem_cons.mp hz with rfl | hz
      · exact ⟨h1, hb, fun i z => nomatch z⟩
      · exact hp z hz
    · refine ⟨(a, b, some i) :: pz, by rw [e]; rfl, fun z hz => ?_⟩
      rcases List.mem_cons.mp hz with rfl | hz
      · refine ⟨h1, hb, fun j z => ?_⟩
        injection z with z
        subst z
        exact small_of (by omega) (by omega)
      · exact hp z hz
theorem FolkAt.z {H : Hp} {fk : Addr} {n : Nat} (h : FolkAt H fk n) (hn : n ≤ 6) : ∃ pz, FolkZ H fk pz := by
  obtain ⟨xs, ef, hl, hx⟩ := h
  obtain ⟨pz, e, hp⟩ := pers_z xs hx
  exact ⟨pz, by rw [← e]; exact ef, by rw [← hl, e, List.length_map] at hn; exact hn, hp⟩
theorem line_len {H : Hp} {zs : List (V × Pt)} {e : En} (h : zs.map (·.2) = ptsE e) (hl : zs.length ≤ 9) (hz : ∀ z ∈ zs, z.2.at_ H z.1) : (lineT e).length ≤ 9000 := by
  unfold lineT
  rw [← h, List.map_map]
  have := join_len tl_spc (m := 999) (parts := zs.map (Pt.txt ∘ fun z => z.2)) fun p hp => by
    obtain ⟨z, hm, rfl⟩ := List.mem_map.mp hp
    exact (hz z hm).len
  rw [List.length_map] at this
  omega
theorem head_len {H : Hp} {fk : Addr} {pz : List (Addr × Int × Option Int)} (h : FolkZ H fk pz) : (headT (pz.map (·.2))).length ≤ 147 := by
  unfold headT
  have := join_len tl_spc (m := 20) (parts := ("folk" : Str) :: (pz.map (·.2)).map fun q => perT q.1 q.2) fun p hp => by
    rcases List.mem_cons.mp hp with rfl | hp
    · decide +kernel
    · rw [List.map_map] at hp
      obtain ⟨z, hm, rfl⟩ := List.mem_map.mp hp
      exact per_len (h.per z hm).2.1 (h.per z hm).2.2
  rw [List.length_cons, List.length_map, List.length_map] at this
  have := h.len
  omega
theorem age_len {age : Int} (h : small age) : (ageTx age).length ≤ 11 := by
  have h1 := h.len
  rw [len_tl, tl_int] at h1
  have h2 : (tl ("age " : Str)).length = 4 := by decide +kernel
  rw [len_tl]
  show (tl ("age " : Str) ++ intL age).length ≤ 11
  rw [List.length_append, h2]
  omega
end Deed

namespace Deed
open PySem PySem.Spec PyProof.Rows L2 LamX TL TX
section
variable {P : Program} {w : World} {K : PySem.W.Frag} {mg : Str → Option Value} {base : Heap} {T : List (Addr × Str)}
abbrev sBookTx : Stmt := topS 66
abbrev nBookTx : List Str := ["book", "folk", "age", "entries", "lines", "entry", "person", "part"]
abbrev pBookTx : List Str := ["book"]
theorem scBookTx : FnScope nBookTx pBookTx (defScope sBookTx) := ⟨rfl, rfl, rfl, by decide +kernel, rfl, by decide +kernel, by decide +kernel⟩
def spBookTx (T : List (Addr × Str)) : Sp := fun vs H Q _ => ∃ (b fk t : Addr) (n : Nat) (age : Int) (zs : List (Addr × En)) (pz : List (Addr × Int × Option Int)), vs = [.ref b] ∧ BookAt H b fk t n age zs ∧ FolkZ H fk pz ∧ Tabs T H ∧
  ∀ (zs' : List (Addr × En)) H', ExtN H H' → Tabs T H' → zs'.Perm zs → zs'.Pairwise (fun u v => u.2.num < v.2.num) → Q (.str (bookT (pz.map (·.2)) age (ens zs'))) H'
theorem ok_BookTx {f : Addr} {fd : FuncData} {k : Nat} (F : Fun K "book_text" "book_text" sBookTx f fd) (C_person_text : CallOk P w K mg base k "person_text" pPerT spPerT) (C_entries_rising : CallOk P w K mg base k "entries_rising" ["book"] (spRising T)) (C_part_text : CallOk P w K mg base k "part_text" pPartT spPartT) : FnOk P w K mg base CX0 (k + 1) f fd pBookTx (spBookTx T) := by
  refine F.ok scBookTx (fun vs H Q E h => ?_) (fun cdv A outer s H vs Q E hr h => ?_)
  · obtain ⟨b, fk, t, n, age, zs, pz, rfl, _⟩ := h
    rfl
  · obtain ⟨b, fk, t, n, age, zs, pz, rfl, hB, hF, hT, q⟩ := h
    have nd := scBookTx.nd
    refine ⟨_, pss_cons (ps_asg (pv 0) (pg_tup (by rfl) (pgs_cons (pg_name (i := 1) nd rfl (.inl rfl)) (pgs_cons (pg_name (i := 2) nd rfl (.inl rfl)) (pgs_cons (pg_name (i := 3) nd rfl (.inl rfl)) pgs_nil)))))
      (pss_cons (ps_set (i := 4) nd rfl (.inl rfl) (pe_lst (pa_cons (pe_bm PySem.F.plainAttrs_str PySem.F.slot_str_join PySem.F.type_str_join mt_join pe_str (pa_cons (pe_op op_cat (pe_lst (pa_cons pe_str pa_nil)) (pe_lc (own := [("person", 6)]) (g := gName 6) (by rfl) nd (pi_tup (pv 1)) (blkOk_by (own := [("person", 6)]) (N := nBookTx) (sc := defScope sBookTx) (by decide +kernel)) (fun _ _ _ _ _ => (pg_name (i := 6) nd rfl (.inl rfl))) (fun _ _ _ _ _ => pts_nil)
          (fun _ _ _ _ _ => (pe_call C_person_text.ok hr (by rfl) C_person_text.g C_person_text.kp C_person_text.b .nil pass0 (pa_cons (pv 6) pa_nil))))) pa_nil)) (pa_cons (pe_joined (.cons pe_str (.cons (pe_fmt (pv 2)) .nil))) pa_nil))))
      (pss_cons (ps_for PassesOwn.never rfl (pi_list (pe_call C_entries_rising.ok hr (by rfl) C_entries_rising.g C_entries_rising.kp C_entries_rising.b .nil pass0 (pa_cons (pv 0) pa_nil))) (pg_name (i := 5) nd rfl (.inl rfl))
        (pss_one (ps_expr (pe_bm PySem.F.plainAttrs_list PySem.F.slot_list_append PySem.F.type_list_append mt_append (pv 4) (pa_cons (pe_bm PySem.F.plainAttrs_str PySem.F.slot_str_join PySem.F.type_str_join mt_join pe_str (pa_cons (pe_lc (own := [("part", 7)]) (g := gName 7) (by rfl) nd (pi_tup (pv 5)) (blkOk_by (own := [("part", 7)]) (N := nBookTx) (sc := defScope sBookTx) (by decide +kernel)) (fun _ _ _ _ _ => (pg_name (i := 7) nd rfl (.inl rfl))) (fun _ _ _ _ _ => pts_nil)
          (fun _ _ _ _ _ => (pe_call C_part_text.ok hr (by rfl) C_part_text.g C_part_text.kp C_part_text.b .nil pass0 (pa_cons (pv 7) pa_nil)))) pa_nil)) pa_nil)))))
      (pss_one (ps_ret (pe_bm PySem.F.plainAttrs_str PySem.F.slot_str_join PySem.F.type_str_join mt_join pe_str (pa_cons (pv 4) pa_nil)))))), ?_⟩
    have hage : small age := small_of (by have := hB.age0; omega) (by have := hB.age1; omega)
    have l4 : ("folk" : Str).length = 4 := by decide +kernel
    have lsp : (" " : Str).length = 1 := by decide +kernel
    have lnl : ("\n" : Str).length = 1 := by decide +kernel
    refine ⟨_, rfl, b, _, rfl, SqT.of hB.at_, rfl, _, _, rfl, _, _, rfl, _, _, rfl, rfl, ?_⟩
    refine ⟨rfl, (by show 1 ≤ sizeLine; decide), fun l1 nl1 => ?_⟩
    have s1 := same_new nl1 (.lst [.str ("folk" : Str)])
    have e1 : (upd H l1 (.lst [.str ("folk" : Str)])) l1 = some (.lst [.str ("folk" : Str)]) := upd_same
    generalize (upd H l1 (.lst [.str ("folk" : Str)])) = H1 at s1 e1
    have hF1 := hF.kp (Same.tup s1)
    refine ⟨_, rfl, _, rfl, ⟨_, SqT.of hF1.at_⟩, fun M2 nM2 => ?_⟩
    refine lc_sameM (walk_tup (xs := pz.map fun z => V.ref z.1)) pz (fun z => .str (perT z.2.1 z.2.2)) (by rw [List.length_map]) (by have := hF.len; omega) nM2 (fun H s => SqT.of (s _ _ hF1.at_)) ?_ ?_
    · rintro i y x H3 H4 hy s3 ⟨rfl, hx1⟩ Q1 q1
      rw [List.getElem?_map, hy] at hx1
      injection hx1 with hx1
      subst hx1
      have hp := hF1.per y (List.mem_of_getElem? hy)
      exact ⟨rfl, _, rfl, y.1, y.2.1, y.2.2, rfl, s3 _ _ hp.1, hp.2.1, hp.2.2, q1 _ (same_refl _)⟩
    intro H2 s2 eM
    have eqp : ([V.str ("folk" : Str)] ++ pz.map fun z => V.str (perT z.2.1 z.2.2)) = (("folk" : Str) :: (pz.map (·.2)).map fun q => perT q.1 q.2).map V.str := by
      rw [List.map_cons, List.map_map, List.map_map]
      rfl
    refine ⟨l1, M2, _, _, rfl, rfl, s2 _ _ e1, eM, ?_, fun q3 nq3 => ?_⟩
    · rw [List.length_map, sizeLine_eq]
      have := hF.len
      show 1 + pz.length ≤ _
      omega
    rw [eqp]
    have s3 := same_new nq3 (.lst ((("folk" : Str) :: (pz.map (·.2)).map fun q => perT q.1 q.2).map V.str))
    have e3 : (upd H2 q3 (.lst ((("folk" : Str) :: (pz.map (·.2)).map fun q => perT q.1 q.2).map V.str))) q3 = some (.lst ((("folk" : Str) :: (pz.map (·.2)).map fun q => perT q.1 q.2).map V.str)) := upd_same
    generalize (upd H2 q3 (.lst ((("folk" : Str) :: (pz.map (·.2)).map fun q => perT q.1 q.2).map V.str))) = H3 at s3 e3
    refine ⟨(" " : Str), q3, _, rfl, rfl, .inl (SqL.of e3), ?_, ?_⟩
    · have := sum_len (m := 20) (ys := ("folk" : Str) :: (pz.map (·.2)).map fun q => perT q.1 q.2) fun y hy => by
        rcases List.mem_cons.mp hy with rfl | hy
        · rw [l4]; decide
        · rw [List.map_map] at hy
          obtain ⟨z, hm, rfl⟩ := List.mem_map.mp hy
          exact per_len (hF.per z hm).2.1 (hF.per z hm).2.2
      have h6 := hF.len
      rw [lsp]
      rw [List.length_cons, List.length_map, List.length_map] at this ⊢
      omega
    have lag := hage.len
    have lage : ("age " : Str).length = 4 := by decide +kernel
    have l0 : PySem.Str.empty.length = 0 := by decide +kernel
    refine ⟨_, rfl, ?_, _, rfl, .inr ⟨age, rfl, hage.log, _, rfl, ?_, ?_⟩⟩
    · simp only [strLen_append]
      rw [l0, lage, sizeLine_eq]
      omega
    · simp only [strLen_append]
      rw [l0, lage, sizeLine_eq]
      have : (PySem.Str.ofString (toString age)).length ≤ 7 := lag
      omega
    rw [show PySem.Str.empty ++ ("age " : Str) ++ PySem.Str.ofString (toString age) = ageTx age from by
      refine ext_str ?_
      rw [tl_append, tl_append, tl_empty, List.nil_append]
      show tl ("age " : Str) ++ tl (intT age) = tl ("age " : Str) ++ intL age
      rw [tl_int]]
    refine ⟨(by show 2 ≤ sizeLine; decide), fun l5 nl5 => ?_⟩
    have s5 := same_new nl5 (.lst [.str (headT (pz.map (·.2))), .str (ageTx age)])
    have e5 : (upd H3 l5 (.lst [.str (headT (pz.map (·.2))), .str (ageTx age)])) l5 = some (.lst [.str (headT (pz.map (·.2))), .str (ageTx age)]) := upd_same
    show _
    have s05 := s1.trans (s2.trans (s3.trans s5))
    generalize hH5 : (upd H3 l5 (.lst [.str (headT (pz.map (·.2))), .str (ageTx age)])) = H5 at s5 e5 s05
    refine ⟨_, rfl, b, fk, t, n, age, zs, rfl, by rw [← hH5] at s05; exact hB.kp (Same.tup s05), by rw [← hH5] at s05; exact hT.ext s05, fun p zs' H6 e6 T6 fr el pm so => ?_⟩
    have e6' : ExtN H5 H6 := hH5 ▸ e6
    have fr' : Fresh H5 p := hH5 ▸ fr
    clear e6 fr
    have hB6 := (hB.kp (Same.tup s05)).kp (ExtN.tup e6')
    have e56 := e6' _ _ e5 fun ps z => by cases z
    have npl : p ≠ l5 := fun z => by
      obtain ⟨ps, h⟩ := fr' _ (z ▸ e5)
      cases h
    have hlen : zs'.length ≤ 16 := by rw [pm.length_eq]; exact hB.len
    have hok' : BkOk n (ens zs') := hB.ok.perm (pm.map _)
    refine ⟨p, rfl, ⟨_, SqL.of el⟩, ?_⟩
    refine for_list (xs := refs zs') (fun i σ H' => ∃ y5, σ = [some (.ref b), some (.ref fk), some (.int age), some (.ref t), some (.ref l5), y5, none, none] ∧ XP l5 H6 H' ∧ Tabs T H' ∧ H' l5 = some (.lst ((headT (pz.map (·.2)) :: ageTx age :: ((ens zs').take i).map lineT).map V.str))) ⟨_, rfl, XP.refl _ _, T6, e56⟩ (fun i σ H' _ h => ?_) ?_ ?_
    · obtain ⟨_, _, x, _, _⟩ := h
      exact SqL.of (x _ _ npl el fun ps z => by cases z)
    · rintro i v σ H7 hv ⟨y5, rfl, x7, T7, e7⟩
      have k7 : KpT H6 H7 := fun c xs e => x7 _ _ (fun z => by rw [z, e56] at e; cases e) e fun ps z => by cases z
      obtain ⟨z, hz, rfl⟩ : ∃ z, zs'[i]? = some z ∧ v = .ref z.1 := by
        rw [show refs zs' = zs'.map fun z => V.ref z.1 from rfl, List.getElem?_map] at hv
        cases hzi : zs'[i]? with
        | none => rw [hzi] at hv; cases hv
        | some z =>
          rw [hzi] at hv
          injection hv with hv
          exact ⟨z, rfl, hv.symm⟩
      have mz := List.mem_of_getElem? hz
      have hi : i < zs'.length := (List.getElem?_eq_some_iff.mp hz).1
      have me : z.2 ∈ ens zs' := List.mem_map_of_mem (f := (·.2)) mz
      obtain ⟨ps, ep, hm, hl9, hat⟩ := ((hB6.ent z (pm.mem_iff.mp mz)).kp k7).pts hok' me hB.n6
      refine ⟨_, rfl, .inl ⟨rfl, _, SqL.of e7⟩, rfl, _, rfl, _, rfl, ⟨_, SqT.of ep⟩, fun M8 nM8 => ?_⟩
      refine lc_sameM (walk_tup (xs := ps.map (·.1))) ps (fun z => .str z.2.txt) (by rw [List.length_map]) (by omega) nM8 (fun H s => SqT.of (s _ _ ep)) ?_ ?_
      · rintro i y x H3 H4 hy s3 ⟨rfl, hx1⟩ Q1 q1
        rw [List.getElem?_map, hy] at hx1
        injection hx1 with hx1
        subst hx1
        exact ⟨rfl, _, rfl, y.1, y.2, rfl, (hat y (List.mem_of_getElem? hy)).kp (Same.tup s3), fun H' s' => q1 _ s'⟩
      intro H8 s8 eM8
      have eqq : (ps.map fun z => V.str z.2.txt) = ((ptsE z.2).map Pt.txt).map V.str := by
        rw [← hm, List.map_map, List.map_map]
        rfl
      rw [eqq] at eM8
      have e8 := s8 _ _ e7
      refine ⟨(" " : Str), M8, _, rfl, rfl, .inl (SqL.of eM8), ?_, l5, _, _, rfl, rfl, e8, small1000 ?_, ?_⟩
      · have := sum_len (m := 999) (ys := (ptsE z.2).map Pt.txt) fun y hy => by
          rw [← hm, List.map_map] at hy
          obtain ⟨u, hu, rfl⟩ := List.mem_map.mp hy
          exact (hat u hu).len
        have h9 : (ptsE z.2).length ≤ 9 := by rw [← hm, List.length_map]; exact hl9
        rw [lsp]
        rw [List.length_map] at this ⊢
        omega
      · rw [List.length_map, List.length_cons, List.length_cons, List.length_map, List.length_take]
        have : (ens zs').length = zs'.length := List.length_map _
        omega
      · have hlin : ((headT (pz.map (·.2)) :: ageTx age :: ((ens zs').take i).map lineT).map V.str) ++ [V.str (Txt.join (" " : Str) ((ptsE z.2).map Pt.txt))] = (headT (pz.map (·.2)) :: ageTx age :: ((ens zs').take (i + 1)).map lineT).map V.str := by
          have hzi : (ens zs')[i]? = some z.2 := by
            show (zs'.map (·.2))[i]? = _
            rw [List.getElem?_map, hz]
            rfl
          rw [List.take_add_one, hzi]
          simp [lineT]
        rw [hlin]
        refine ⟨_, rfl, ?_, Tabs.put (T7.ext s8) e8 _, upd_same⟩
        intro c o n1 h t
        rw [upd_ne n1]
        exact s8 _ _ (x7 c o n1 h t)
    rintro σ H7 ⟨y5, rfl, x7, T7, e7⟩
    have e7' : H7 l5 = some (.lst ((headT (pz.map (·.2)) :: ageTx age :: (ens zs').map lineT).map V.str)) := by
      rw [e7, show (refs zs').length = (ens zs').length from by rw [List.length_map, List.length_map], List.take_length]
    refine ⟨rfl, _, rfl, ("\n" : Str), l5, _, rfl, rfl, .inl (SqL.of e7'), ?_, ?_⟩
    · have := sum_len (m := 9000) (ys := headT (pz.map (·.2)) :: ageTx age :: (ens zs').map lineT) fun y hy => by
        rcases List.mem_cons.mp hy with rfl | hy
        · exact Nat.le_trans (head_len hF) (by decide)
        rcases List.mem_cons.mp hy with rfl | hy
        · exact Nat.le_trans (age_len hage) (by decide)
        obtain ⟨e, he, rfl⟩ := List.mem_map.mp hy
        obtain ⟨z, hz, rfl⟩ := List.mem_map.mp he
        obtain ⟨ps, ep, hm, hl9, hat⟩ := (hB6.ent z (pm.mem_iff.mp hz)).pts hok' he hB.n6
        exact line_len hm hl9 hat
      rw [lnl]
      rw [List.length_cons, List.length_cons, List.length_map, List.length_map] at this ⊢
      omega
    · exact q zs' H7 (XP.toN ((ExtN.of s05).trans e6') (none_back (s1.trans (s2.trans s3)) nl5) x7) T7 pm so
end
end Deed

namespace Deed
open PySem PySem.Spec PyProof.Rows L2 LamX TL TX
theorem row_int {ns : List Int} (hl : ns.length ≤ 99) (hs : ∀ i ∈ ns, small i) : (rowT ns).length ≤ 999 := row_len hl hs
section
variable {P : Program} {w : World} {K : PySem.W.Frag} {mg : Str → Option Value} {base : Heap} {T : List (Addr × Str)}
abbrev sDeedTl : Stmt := topS 73
abbrev nDeedTl : List Str := ["words", "giver", "taker", "rests", "witnesses"]
abbrev pDeedTl : List Str := ["words"]
theorem scDeedTl : FnScope nDeedTl pDeedTl (defScope sDeedTl) := ⟨rfl, rfl, rfl, by decide +kernel, rfl, by decide +kernel, by decide +kernel⟩
def spDeedTl : Sp := fun vs H Q _ => ∃ (p : Addr) (g t : Int) (rs ws : List Int), vs = [.ref p] ∧ H p = some (.lst ([intT g, intT t, rowT rs, rowT ws].map V.str)) ∧ small g ∧ small t ∧ (rs.length ≤ 99 ∧ ∀ i ∈ rs, small i) ∧ (ws.length ≤ 99 ∧ ∀ i ∈ ws, small i) ∧
  ∀ o r u H', Same H H' → H' o = some (.tup [.int g, .int t, .ref r, .ref u]) → H' r = some (.tup (rs.map V.int)) → H' u = some (.tup (ws.map V.int)) → Q (.ref o) H'
theorem ok_DeedTl {f : Addr} {fd : FuncData} {k : Nat} (F : Fun K "deed_tail_read" "deed_tail_read" sDeedTl f fd) (C_are_number_texts : CallOk P w K mg base k "are_number_texts" pAreNumT spAreNumT) (C_is_list_text : CallOk P w K mg base k "is_list_text" pIsListT spIsListT) (C_list_read : CallOk P w K mg base k "list_read" pListRd spListRd) (m_len : mg "len" = none) (m_int : mg "int" = none) : FnOk P w K mg base CX0 (k + 1) f fd pDeedTl spDeedTl := by
  refine F.ok scDeedTl (fun vs H Q E h => ?_) (fun cdv A outer s H vs Q E hr h => ?_)
  · obtain ⟨p, g, t, rs, ws, rfl, _⟩ := h
    rfl
  · obtain ⟨p, g, t, rs, ws, rfl, hp, hg, ht, ⟨hr1, hr2⟩, ⟨hw1, hw2⟩, q⟩ := h
    have nd := scDeedTl.nd
    refine ⟨_, pss_cons (ps_if (PW.pt (pw_or (pt_cmpR op_ne (pe_callB call_len_seq (by rfl) m_len (by decide +kernel) (pa_cons (pv 0) pa_nil)) pe_int (nomark _)) (pw_or1 (pt_not (pt_val (pe_call C_are_number_texts.ok hr (by rfl) C_are_number_texts.g C_are_number_texts.kp C_are_number_texts.b .nil pass0 (pa_cons (pe_slice sl_list (pv 0) po_none (po_some pe_int)) pa_nil))))))) (pss_one (ps_ret pe_non)) pss_nil)
      (pss_cons (ps_asg (pv 0) (L2.pg_lst (by rfl) (pgs_cons (pg_name (i := 1) nd rfl (.inl rfl)) (pgs_cons (pg_name (i := 2) nd rfl (.inl rfl)) (pgs_cons (pg_name (i := 3) nd rfl (.inl rfl)) (pgs_cons (pg_name (i := 4) nd rfl (.inl rfl)) pgs_nil))))))
      (pss_cons (ps_if (PW.pt (pw_or (pt_not (pt_val (pe_call C_is_list_text.ok hr (by rfl) C_is_list_text.g C_is_list_text.kp C_is_list_text.b .nil pass0 (pa_cons (pv 3) pa_nil)))) (pw_or1 (pt_not (pt_val (pe_call C_is_list_text.ok hr (by rfl) C_is_list_text.g C_is_list_text.kp C_is_list_text.b .nil pass0 (pa_cons (pv 4) pa_nil))))))) (pss_one (ps_ret pe_non)) pss_nil)
      (pss_one (ps_ret (pe_tup (pa_cons (pe_callTy call_int_str (by rfl) m_int (by decide +kernel) (pa_cons (pv 1) pa_nil)) (pa_cons (pe_callTy call_int_str (by rfl) m_int (by decide +kernel) (pa_cons (pv 2) pa_nil)) (pa_cons (pe_call C_list_read.ok hr (by rfl) C_list_read.g C_list_read.kp C_list_read.b .nil pass0 (pa_cons (pv 3) pa_nil)) (pa_cons (pe_call C_list_read.ok hr (by rfl) C_list_read.g C_list_read.kp C_list_read.b .nil pass0 (pa_cons (pv 4) pa_nil)) pa_nil))))))))), ?_⟩
    refine ⟨_, rfl, p, _, rfl, .inl (SqL.of hp), rfl, _, rfl, ?_⟩
    refine iteF ?_
    refine ⟨_, rfl, ?_⟩
    dsimp only [tNoPart]
    refine ⟨_, rfl, p, _, rfl, SqL.of hp, fun q1 nq1 => ?_⟩
    rw [show cutV ([intT g, intT t, rowT rs, rowT ws].map V.str) none (some 2) = [intT g, intT t].map V.str from cutTake V.str [intT g, intT t, rowT rs, rowT ws] (by decide)]
    have s1 := same_new nq1 (.lst ([intT g, intT t].map V.str))
    have e1 : (upd H q1 (.lst ([intT g, intT t].map V.str))) q1 = some (.lst ([intT g, intT t].map V.str)) := upd_same
    generalize (upd H q1 (.lst ([intT g, intT t].map V.str))) = H1 at s1 e1
    refine ⟨q1, _, rfl, e1, by show 2 ≤ 999; decide, fun x hx => ?_, fun H2 s2 => ⟨_, rfl, ?_⟩⟩
    · rcases List.mem_cons.mp hx with rfl | hx
      · exact Nat.le_trans hg.len (by decide)
      · rw [List.mem_singleton.mp hx]
        exact Nat.le_trans ht.len (by decide)
    rw [show [intT g, intT t].all (fun x => numOk (tl x)) = true from by
      rw [List.all_cons, List.all_cons, hg.ok, ht.ok]
      rfl]
    refine iteF ?_
    have s02 := s1.trans s2
    refine ⟨_, rfl, p, _, rfl, SqL.of (s02 _ _ hp), rfl, _, _, rfl, _, _, rfl, _, _, rfl, _, _, rfl, rfl, ?_⟩
    refine ⟨_, rfl, rs, rfl, hr1, hr2, fun H3 s3 => ⟨_, rfl, ?_⟩⟩
    refine iteF ?_
    refine ⟨_, rfl, ws, rfl, hw1, hw2, fun H4 s4 => ⟨_, rfl, ?_⟩⟩
    refine iteF ?_
    refine ⟨_, rfl, intT g, g, rfl, hg.reads, Nat.le_trans hg.len (by decide), _, rfl, intT t, t, rfl, ht.reads, Nat.le_trans ht.len (by decide), ?_⟩
    refine ⟨_, rfl, rs, rfl, hr1, hr2, fun r H5 s5 er => ?_⟩
    refine ⟨_, rfl, ws, rfl, hw1, hw2, fun u H6 s6 eu => ⟨(by show 4 ≤ sizeLine; decide), fun o no => ?_⟩⟩
    have s7 := same_new no (.tup [.int g, .int t, .ref r, .ref u])
    exact q o r u _ (s02.trans (s3.trans (s4.trans (s5.trans (s6.trans s7))))) upd_same (s7 _ _ (s6 _ _ er)) (s7 _ _ eu)
/-! the tails of entries -/
def tailP (e : En) : List Str := match e.kd with
  | .deed g t rs ws => [intT g, intT t, rowT rs, rowT ws]
  | .act _ o => [intT o]
def TailAt (H : Hp) (o : Addr) (e : En) : Prop := match e.kd with
  | .deed g t rs ws => ∃ r u, H o = some (.tup [.int g, .int t, .ref r, .ref u]) ∧ H r = some (.tup (rs.map V.int)) ∧ H u = some (.tup (ws.map V.int))
  | .act _ i => H o = some (.tup [.int i])
def TailOk (e : En) : Prop := match e.kd with
  | .deed g t rs ws => small g ∧ small t ∧ (rs.length ≤ 99 ∧ ∀ i ∈ rs, small i) ∧ (ws.length ≤ 99 ∧ ∀ i ∈ ws, small i)
  | .act x o => small o ∧ (x = "paid" ∨ x = "void" ∨ x = "undone")
abbrev sTailRd : Stmt := topS 74
abbrev nTailRd : List Str := ["word", "words"]
abbrev pTailRd : List Str := ["word", "words"]
theorem scTailRd : FnScope nTailRd pTailRd (defScope sTailRd) := ⟨rfl, rfl, rfl, by decide +kernel, rfl, by decide +kernel, by decide +kernel⟩
def spTailRd : Sp := fun vs H Q _ => ∃ (p : Addr) (e : En), vs = [.str e.word, .ref p] ∧ H p = some (.lst ((tailP e).map V.str)) ∧ TailOk e ∧ ∀ o H', Same H H' → TailAt H' o e → Q (.ref o) H'
theorem ok_TailRd {f aw : Addr} {fd : FuncData} {k : Nat} (F : Fun K "tail_read" "tail_read" sTailRd f fd) (AW : ActWG K mg aw) (C_deed_tail_read : CallOk P w K mg base k "deed_tail_read" pDeedTl spDeedTl) (C_is_number_text : CallOk P w K mg base k "is_number_text" pIsNumT spIsNumT) (m_len : mg "len" = none) (m_int : mg "int" = none) : FnOk P w K mg base CX0 (k + 1) f fd pTailRd spTailRd := by
  refine F.ok scTailRd (fun vs H Q E h => ?_) (fun cdv A outer s H vs Q E hr h => ?_)
  · obtain ⟨p, e, rfl, _⟩ := h
    rfl
  · obtain ⟨p, e, rfl, hp, he, q⟩ := h
    have nd := scTailRd.nd
    refine ⟨_, pss_cons (ps_if (pt_cmpR op_eq (pv 0) pe_str (nomark _)) (pss_one (ps_ret (pe_call C_deed_tail_read.ok hr (by rfl) C_deed_tail_read.g C_deed_tail_read.kp C_deed_tail_read.b .nil pass0 (pa_cons (pv 1) pa_nil)))) pss_nil)
      (pss_cons (ps_if (PW.pt (pw_and (pt_cmpR op_in_seq (pv 0) (pe_glob (v := .ref aw) (by rfl) AW.1 rfl) (by rfl)) (pw_and (pt_cmpR op_eq (pe_callB call_len_seq (by rfl) m_len (by decide +kernel) (pa_cons (pv 1) pa_nil)) pe_int (nomark _)) (pw_and1 (pt_val (pe_call C_is_number_text.ok hr (by rfl) C_is_number_text.g C_is_number_text.kp C_is_number_text.b .nil pass0 (pa_cons (pe_ix ix_list (pv 1) pe_int (fun _ _ => rfl)) pa_nil))))))) (pss_one (ps_ret (pe_tup (pa_cons (pe_callTy call_int_str (by rfl) m_int (by decide +kernel) (pa_cons (pe_ix ix_list (pv 1) pe_int (fun _ _ => rfl)) pa_nil)) pa_nil)))) pss_nil)
      (pss_one (ps_ret pe_non))), ?_⟩
    refine ⟨_, rfl, rfl, _, rfl, ?_⟩
    unfold tailP at hp
    unfold TailOk at he
    unfold TailAt at q
    cases hk : e.kd with
    | deed g t rs ws =>
      rw [hk] at hp he q
      rw [show e.word = ("deed" : Str) from by unfold En.word; rw [hk]]
      rw [decide_eq_true rfl]
      refine iteT ?_
      exact ⟨_, rfl, p, g, t, rs, ws, rfl, hp, he.1, he.2.1, he.2.2.1, he.2.2.2, fun o r u H' s' h1 h2 h3 => q o H' s' ⟨r, u, h1, h2, h3⟩⟩
    | act x i =>
      rw [hk] at hp he q
      rw [show e.word = x from by unfold En.word; rw [hk]]
      obtain ⟨hi, hx⟩ := he
      have nx : x ≠ ("deed" : Str) := by rcases hx with rfl | rfl | rfl <;> decide +kernel
      rw [decide_eq_false (show ¬ V.str x = V.str ("deed" : Str) from fun z => nx (by injection z))]
      refine iteF ?_
      refine ⟨_, rfl, aw, _, rfl, .inr (AW.2 H), rfl, rfl, _, rfl, ?_⟩
      have hin : inV (V.str x) ((([("paid" : Str), "void", "undone"] : List Str)).map V.str) = true := by rcases hx with rfl | rfl | rfl <;> decide +kernel
      show if inV (V.str x) ((([("paid" : Str), "void", "undone"] : List Str)).map V.str) = true then _ else _
      rw [hin]
      refine iteT ?_
      refine ⟨_, rfl, p, _, rfl, .inl (SqL.of hp), rfl, _, rfl, ?_⟩
      refine iteT ?_
      refine ⟨_, rfl, p, _, _, _, rfl, rfl, SqL.of hp, (atI_nat (j := 0) rfl), intT i, rfl, Nat.le_trans hi.len (by decide), fun H2 s2 => ⟨_, rfl, ?_⟩⟩
      rw [hi.ok]
      refine iteT ?_
      refine ⟨_, rfl, p, _, _, _, rfl, rfl, SqL.of (s2 _ _ hp), (atI_nat (j := 0) rfl), intT i, i, rfl, hi.reads, Nat.le_trans hi.len (by decide), (by show 1 ≤ sizeLine; decide), fun t1 nt1 => ?_⟩
      exact q t1 _ (s2.trans (same_new nt1 _)) upd_same
end
end Deed

namespace Deed
open PySem PySem.Spec PyProof.Rows L2 LamX TL TX
def wordsE (e : En) : List Str := [intT e.num, intT e.day, intT e.wri, intT e.hand, e.word] ++ tailP e
theorem words_pts (e : En) : wordsE e = (ptsE e).map Pt.txt := by
  unfold wordsE tailP ptsE En.word
  cases e.kd <;> rfl
def EntS (e : En) : Prop := small e.num ∧ small e.day ∧ small e.wri ∧ small e.hand ∧ TailOk e
section
variable {P : Program} {w : World} {K : PySem.W.Frag} {mg : Str → Option Value} {base : Heap} {T : List (Addr × Str)}
abbrev sEntRd : Stmt := topS 75
abbrev nEntRd : List Str := ["words", "tail", "number"]
abbrev pEntRd : List Str := ["words"]
theorem scEntRd : FnScope nEntRd pEntRd (defScope sEntRd) := ⟨rfl, rfl, rfl, by decide +kernel, rfl, by decide +kernel, by decide +kernel⟩
def spEntRd : Sp := fun vs H Q _ => ∃ (p : Addr) (e : En), vs = [.ref p] ∧ H p = some (.lst ((wordsE e).map V.str)) ∧ EntS e ∧ ∀ o H', Same H H' → EntAt H' o e → Q (.ref o) H'
theorem ok_EntRd {f : Addr} {fd : FuncData} {k : Nat} (F : Fun K "entry_read" "entry_read" sEntRd f fd) (C_are_number_texts : CallOk P w K mg base k "are_number_texts" pAreNumT spAreNumT) (C_tail_read : CallOk P w K mg base k "tail_read" pTailRd spTailRd) (m_len : mg "len" = none) (m_int : mg "int" = none) (m_tuple : mg "tuple" = none) (iWORD : MgInt mg "WORD" 4) (iOF : MgInt mg "OF" 5) : FnOk P w K mg base CX0 (k + 1) f fd pEntRd spEntRd := by
  refine F.ok scEntRd (fun vs H Q E h => ?_) (fun cdv A outer s H vs Q E hr h => ?_)
  · obtain ⟨p, e, rfl, _⟩ := h
    rfl
  · obtain ⟨p, e, rfl, hp, ⟨h1, h2, h3, h4, h5⟩, q⟩ := h
    have nd := scEntRd.nd
    refine ⟨_, pss_cons (ps_if (PW.pt (pw_or (pt_cmpR op_le (pe_callB call_len_seq (by rfl) m_len (by decide +kernel) (pa_cons (pv 0) pa_nil)) (pe_num (by rfl) iOF) (nomark _)) (pw_or1 (pt_not (pt_val (pe_call C_are_number_texts.ok hr (by rfl) C_are_number_texts.g C_are_number_texts.kp C_are_number_texts.b .nil pass0 (pa_cons (pe_slice sl_list (pv 0) po_none (po_some (pe_num (by rfl) iWORD))) pa_nil))))))) (pss_one (ps_ret pe_non)) pss_nil)
      (pss_cons (ps_set (i := 1) nd rfl (.inl rfl) (pe_call C_tail_read.ok hr (by rfl) C_tail_read.g C_tail_read.kp C_tail_read.b .nil pass0 (pa_cons (pe_ix ix_list (pv 0) (pe_num (by rfl) iWORD) (fun _ _ => rfl)) (pa_cons (pe_slice sl_list (pv 0) (po_some (pe_num (by rfl) iOF)) po_none) pa_nil))))
      (pss_cons (ps_if (pt_cmpR op_isN (pv 1) pe_non (nomark _)) (pss_one (ps_ret pe_non)) pss_nil)
      (pss_one (ps_ret (pe_op op_catA (pe_op op_catA (pe_callTy call_tuple_of (by rfl) m_tuple (by decide +kernel) (pa_cons (pe_lc (own := [("number", 2)]) (g := gName 2) (by rfl) nd (pi_list (pe_slice sl_list (pv 0) po_none (po_some (pe_num (by rfl) iWORD)))) (blkOk_by (own := [("number", 2)]) (N := nEntRd) (sc := defScope sEntRd) (by decide +kernel)) (fun _ _ _ _ _ => (pg_name (i := 2) nd rfl (.inl rfl))) (fun _ _ _ _ _ => pts_nil)
          (fun _ _ _ _ _ => (pe_callTy call_int_str (by rfl) m_int (by decide +kernel) (pa_cons (pv 2) pa_nil)))) pa_nil)) (pe_tup (pa_cons (pe_ix ix_list (pv 0) (pe_num (by rfl) iWORD) (fun _ _ => rfl)) pa_nil))) (pv 1)))))), ?_⟩
    have hlen : 6 ≤ (wordsE e).length := by
      unfold wordsE tailP
      cases e.kd
      · show 6 ≤ 9; decide
      · show 6 ≤ 6; decide
    have hcut : ∀ v : Int, v = 4 → cutV ((wordsE e).map V.str) none (some v) = [intT e.num, intT e.day, intT e.wri, intT e.hand].map V.str := fun v hv => by
      subst hv
      rw [cutTake V.str (wordsE e) (by decide)]
      rfl
    have hdrop : cutV ((wordsE e).map V.str) (some 5) none = (tailP e).map V.str := by
      have := cutDrop V.str (wordsE e) 5
      exact this
    have hat4 : ((wordsE e).map V.str)[4]? = some (.str e.word) := rfl
    refine ⟨_, rfl, p, _, rfl, .inl (SqL.of hp), _, _, rfl, rfl, _, rfl, ?_⟩
    rw [List.length_map, decide_eq_false (show ¬ ((wordsE e).length : Int) ≤ 5 by omega)]
    refine iteF ?_
    refine ⟨_, rfl, ?_⟩
    dsimp only [tNoPart]
    refine ⟨_, rfl, p, _, rfl, SqL.of hp, fun q1 nq1 => ?_⟩
    rw [hcut 4 rfl]
    have s1 := same_new nq1 (.lst ([intT e.num, intT e.day, intT e.wri, intT e.hand].map V.str))
    have e1 : (upd H q1 (.lst ([intT e.num, intT e.day, intT e.wri, intT e.hand].map V.str))) q1 = some (.lst ([intT e.num, intT e.day, intT e.wri, intT e.hand].map V.str)) := upd_same
    generalize (upd H q1 (.lst ([intT e.num, intT e.day, intT e.wri, intT e.hand].map V.str))) = H1 at s1 e1
    refine ⟨q1, _, rfl, e1, by show 4 ≤ 999; decide, fun x hx => ?_, fun H2 s2 => ⟨_, rfl, ?_⟩⟩
    · simp only [List.mem_cons, List.not_mem_nil, or_false] at hx
      rcases hx with rfl | rfl | rfl | rfl
      · exact Nat.le_trans h1.len (by decide)
      · exact Nat.le_trans h2.len (by decide)
      · exact Nat.le_trans h3.len (by decide)
      · exact Nat.le_trans h4.len (by decide)
    rw [show [intT e.num, intT e.day, intT e.wri, intT e.hand].all (fun x => numOk (tl x)) = true from by
      rw [List.all_cons, List.all_cons, List.all_cons, List.all_cons, h1.ok, h2.ok, h3.ok, h4.ok]
      rfl]
    refine iteF ?_
    have s02 := s1.trans s2
    have hp2 := s02 _ _ hp
    refine ⟨_, rfl, p, _, _, _, rfl, rfl, SqL.of hp2, (atI_nat (j := 4) hat4), _, rfl, _, rfl, ?_⟩
    dsimp only [tNoPart]
    refine ⟨p, _, rfl, SqL.of hp2, fun q3 nq3 => ?_⟩
    rw [hdrop]
    have s3 := same_new nq3 (.lst ((tailP e).map V.str))
    have e3 : (upd H2 q3 (.lst ((tailP e).map V.str))) q3 = some (.lst ((tailP e).map V.str)) := upd_same
    generalize (upd H2 q3 (.lst ((tailP e).map V.str))) = H3 at s3 e3
    refine ⟨q3, e, rfl, e3, h5, fun o H4 s4 ho => ?_⟩
    have s04 := s02.trans (s3.trans s4)
    have hp4 := s04 _ _ hp
    refine ⟨_, rfl, rfl, _, rfl, ?_⟩
    refine iteF ?_
    refine ⟨_, rfl, ?_⟩
    dsimp only [tNoPart]
    refine ⟨_, rfl, p, _, rfl, SqL.of hp4, fun q5 nq5 => ?_⟩
    rw [hcut 4 rfl]
    have s5 := same_new nq5 (.lst ([intT e.num, intT e.day, intT e.wri, intT e.hand].map V.str))
    have e5 : (upd H4 q5 (.lst ([intT e.num, intT e.day, intT e.wri, intT e.hand].map V.str))) q5 = some (.lst ([intT e.num, intT e.day, intT e.wri, intT e.hand].map V.str)) := upd_same
    generalize (upd H4 q5 (.lst ([intT e.num, intT e.day, intT e.wri, intT e.hand].map V.str))) = H5 at s5 e5
    refine ⟨q5, rfl, ⟨_, SqL.of e5⟩, fun M6 nM6 => ?_⟩
    refine lc_sameM (walk_list (xs := [intT e.num, intT e.day, intT e.wri, intT e.hand].map V.str)) [e.num, e.day, e.wri, e.hand] V.int rfl (by show 4 ≤ 1000; decide) nM6 (fun H s => SqL.of (s _ _ e5)) ?_ ?_
    · rintro i y x H7 H8 hy s7 ⟨rfl, hx1⟩ Q1 q1
      have hsy : small y := by
        have := List.mem_of_getElem? hy
        simp only [List.mem_cons, List.not_mem_nil, or_false] at this
        rcases this with rfl | rfl | rfl | rfl
        · exact h1
        · exact h2
        · exact h3
        · exact h4
      have hx2 : ([e.num, e.day, e.wri, e.hand].map fun i => V.str (intT i))[i]? = some x := hx1
      rw [List.getElem?_map, hy] at hx2
      injection hx2 with hx2
      subst hx2
      exact ⟨rfl, _, rfl, intT y, y, rfl, hsy.reads, Nat.le_trans hsy.len (by decide), q1 _ (same_refl _)⟩
    intro H6 s6 eM6
    refine ⟨M6, _, rfl, .inl ⟨SqL.of eM6, fun t7 nt7 => ?_⟩⟩
    have s7 := same_new nt7 (.tup ([e.num, e.day, e.wri, e.hand].map V.int))
    have e7 : (upd H6 t7 (.tup ([e.num, e.day, e.wri, e.hand].map V.int))) t7 = some (.tup ([e.num, e.day, e.wri, e.hand].map V.int)) := upd_same
    generalize (upd H6 t7 (.tup ([e.num, e.day, e.wri, e.hand].map V.int))) = H7 at s7 e7
    have s47 := s5.trans (s6.trans s7)
    refine ⟨_, rfl, p, _, _, _, rfl, rfl, SqL.of (s47 _ _ hp4), (atI_nat (j := 4) hat4), (by show 1 ≤ sizeLine; decide), fun t8 nt8 => ?_⟩
    have s8 := same_new nt8 (.tup [.str e.word])
    have e8 : (upd H7 t8 (.tup [.str e.word])) t8 = some (.tup [.str e.word]) := upd_same
    generalize (upd H7 t8 (.tup [.str e.word])) = H8 at s8 e8
    refine catA_same (s8 _ _ e7) e8 (by show 5 ≤ 1000; decide) fun t9 H9 s9 e9 => ?_
    have s49 := s47.trans (s8.trans s9)
    refine ⟨_, rfl, ?_⟩
    unfold TailAt at ho
    unfold EntAt En.word at *
    cases hk : e.kd with
    | deed g t rs ws =>
      rw [hk] at ho e9 q
      obtain ⟨r, u, ho1, ho2, ho3⟩ := ho
      refine catA_same e9 (s49 _ _ ho1) (by show 9 ≤ 1000; decide) fun ta Ha sa ea => ?_
      have s4a := s49.trans sa
      exact q ta Ha (s04.trans s4a) ⟨r, u, ea, s4a _ _ ho2, s4a _ _ ho3⟩
    | act x i =>
      rw [hk] at ho e9 q
      refine catA_same e9 (s49 _ _ ho) (by show 6 ≤ 1000; decide) fun ta Ha sa ea => ?_
      exact q ta Ha (s04.trans (s49.trans sa)) ea
end
end Deed

namespace Deed
open PySem PySem.Spec PyProof.Rows L2 LamX
theorem eqv_ent_self (e : En) : PyData.eqv (entD e) (entD e) = true := by
  unfold entD
  cases e.kd <;> simp [PyData.eqv, PyData.eqvAll, eqvAll_ints]
end Deed

namespace Deed
open PySem PySem.Spec PyProof.Rows L2 LamX
/-! ### books as data -/
def perD (q : Int × Option Int) : PyData := .tuple [.int q.1, match q.2 with | none => .none | some i => .int i]
def bkD (ps : List (Int × Option Int)) (age : Int) (es : List En) : PyData := .tuple [.tuple (ps.map perD), .int age, .tuple (es.map entD)]
theorem PersonAt.dp {K : PySem.W.Frag} {H : Hp} {x : V} (h : PersonAt H x) : ∃ q, Dp K H x (perD q) := by
  obtain ⟨a, b, d, rfl, h1, _, _, h2⟩ := h
  rcases h2 with rfl | ⟨i, rfl, _⟩
  · exact ⟨(b, none), .tup (SqT.of h1) (.cons (.int _) (.cons .non .nil))⟩
  · exact ⟨(b, some i), .tup (SqT.of h1) (.cons (.int _) (.cons (.int _) .nil))⟩
theorem dp_folk {K : PySem.W.Frag} {H : Hp} : ∀ xs : List V, (∀ x ∈ xs, PersonAt H x) → ∃ ps : List (Int × Option Int), DpAll K H xs (ps.map perD)
  | [], _ => ⟨[], .nil⟩
  | x :: r, h => by
    obtain ⟨q, hq⟩ := (h x List.mem_cons_self).dp (K := K)
    obtain ⟨ps, hp⟩ := dp_folk (K := K) r fun y hy => h y (List.mem_cons_of_mem _ hy)
    exact ⟨q :: ps, .cons hq hp⟩
theorem BookAt.dp {K : PySem.W.Frag} {H : Hp} {b b' fk t t' : Addr} {n : Nat} {age : Int} {zs zs' : List (Addr × En)} (h : BookAt H b fk t n age zs) (h' : BookAt H b' fk t' n age zs') : ∃ ps, Dp K H (.ref b) (bkD ps age (ens zs)) ∧ Dp K H (.ref b') (bkD ps age (ens zs')) := by
  obtain ⟨xs, ef, _, hx⟩ := h.folk
  obtain ⟨ps, hp⟩ := dp_folk (K := K) xs hx
  exact ⟨ps, .tup (SqT.of h.at_) (.cons (.tup (SqT.of ef) hp) (.cons (.int _) (.cons (.tup (SqT.of h.ents) (dp_ents zs h.ent)) .nil))), .tup (SqT.of h'.at_) (.cons (.tup (SqT.of ef) hp) (.cons (.int _) (.cons (.tup (SqT.of h'.ents) (dp_ents zs' h'.ent)) .nil)))⟩
theorem depth_per (q : Int × Option Int) : (perD q).depth ≤ 3 := by
  unfold perD
  obtain ⟨b, o⟩ := q
  cases o <;> simp [PyData.depth, PyData.depthAll]
theorem depth_pers : ∀ ps : List (Int × Option Int), PyData.depthAll (ps.map perD) ≤ 4
  | [] => by simp [PyData.depthAll]
  | q :: r => by
    have h1 := depth_per q
    have h2 := depth_pers r
    simp only [List.map_cons, PyData.depthAll]
    omega
theorem lay_pers : ∀ ps : List (Int × Option Int), PyData.canLayAll0 (ps.map perD) = true
  | [] => by simp [PyData.canLayAll0]
  | q :: r => by
    obtain ⟨b, o⟩ := q
    have h := lay_pers r
    cases o <;> simp [perD, PyData.canLayAll0, PyData.canLay0, h]
theorem shaped_bk {n : Nat} {ds as : List Int} (ps : List (Int × Option Int)) (age : Int) (es : List En) (h : ∀ e ∈ es, EnOk n ds as e) : SeqAt.shaped (bkD ps age es) = true := by
  have h1 := depth_ents es
  have h0 := depth_pers ps
  have h2 : PyData.depth (bkD ps age es) ≤ 64 := by
    unfold bkD
    simp only [PyData.depth, PyData.depthAll]
    omega
  show (PyData.canLay0 (bkD ps age es) && decide (PyData.depth (bkD ps age es) ≤ 64)) = true
  rw [Bool.and_eq_true]
  refine ⟨?_, decide_eq_true h2⟩
  have h3 := lay_ents es h
  have h4 := lay_pers ps
  simp [bkD, PyData.canLay0, PyData.canLayAll0, h3, h4]
theorem eqv_pers : ∀ ps : List (Int × Option Int), PyData.eqvAll (ps.map perD) (ps.map perD) = true
  | [] => by simp [PyData.eqvAll]
  | q :: r => by
    obtain ⟨b, o⟩ := q
    have h := eqv_pers r
    cases o <;> simp [perD, PyData.eqvAll, PyData.eqv, h]
theorem eqv_entsA : ∀ es : List En, PyData.eqvAll (es.map entD) (es.map entD) = true
  | [] => by simp [PyData.eqvAll]
  | e :: r => by
    have h := eqv_entsA r
    simp [PyData.eqvAll, eqv_ent_self e, h]
theorem eqv_bk (ps : List (Int × Option Int)) (age : Int) (es : List En) : PyData.eqv (bkD ps age es) (bkD ps age es) = true := by
  simp [bkD, PyData.eqv, PyData.eqvAll, eqv_pers, eqv_entsA]
end Deed

namespace Deed
open PySem PySem.Spec PyProof.Rows L2 LamX TL TX
def PerS (q : Int × Option Int) : Prop := small q.1 ∧ ∀ i, q.2 = some i → small i
theorem perD_dp {K : PySem.W.Frag} {H : Hp} {a : Addr} {q : Int × Option Int} (h : H a = some (.tup [.int q.1, dV q.2])) : Dp K H (.ref a) (perD q) := by
  obtain ⟨b, d⟩ := q
  cases d with
  | none => exact .tup (SqT.of h) (.cons (.int _) (.cons .non .nil))
  | some i => exact .tup (SqT.of h) (.cons (.int _) (.cons (.int _) .nil))
theorem pers_any (ps : List (Int × Option Int)) : ((ps.map perD).any fun z => PyData.eqv z .none) = false := by
  rw [List.any_eq_false]
  intro z hz
  obtain ⟨q, _, rfl⟩ := List.mem_map.mp hz
  simp [perD, PyData.eqv]
theorem shaped_pers (ps : List (Int × Option Int)) : SeqAt.shaped (.list (ps.map perD)) = true := by
  have h1 := lay_pers ps
  have h2 := depth_pers ps
  unfold SeqAt.shaped
  rw [Bool.and_eq_true]
  exact ⟨by rw [PyData.canLay0]; exact h1, decide_eq_true (by rw [PyData.depth]; omega)⟩
section
variable {P : Program} {w : World} {K : PySem.W.Frag} {mg : Str → Option Value} {base : Heap} {T : List (Addr × Str)}
abbrev sFolkRd : Stmt := topS 72
abbrev nFolkRd : List Str := ["words", "persons", "word"]
abbrev pFolkRd : List Str := ["words"]
theorem scFolkRd : FnScope nFolkRd pFolkRd (defScope sFolkRd) := ⟨rfl, rfl, rfl, by decide +kernel, rfl, by decide +kernel, by decide +kernel⟩
def spFolkRd : Sp := fun vs H Q _ => ∃ (p : Addr) (ps : List (Int × Option Int)), vs = [.ref p] ∧ H p = some (.lst ((ps.map fun q => perT q.1 q.2).map V.str)) ∧ ps.length ≤ 6 ∧ (∀ q ∈ ps, PerS q) ∧ ∀ t pz H', Same H H' → FolkZ H' t pz → pz.map (·.2) = ps → Q (.ref t) H'
theorem ok_FolkRd {f : Addr} {fd : FuncData} {k : Nat} (F : Fun K "folk_read" "folk_read" sFolkRd f fd) (C_person_read : CallOk P w K mg base k "person_read" pPerRd spPerRd) (m_tuple : mg "tuple" = none) : FnOk P w K mg base CX0 (k + 1) f fd pFolkRd spFolkRd := by
  refine F.ok scFolkRd (fun vs H Q E h => ?_) (fun cdv A outer s H vs Q E hr h => ?_)
  · obtain ⟨p, ps, rfl, _⟩ := h
    rfl
  · obtain ⟨p, ps, rfl, hp, hl, hs, q⟩ := h
    have nd := scFolkRd.nd
    have h65 := Nat.lt_of_le_of_lt (Nat.add_le_add_left (show 65 ≤ 16 * k + 200 by omega) _) (show _ + (16 * k + 200) < cLine from by have h := hr.un; rw [Nat.add_assoc] at h; exact h)
    refine ⟨_, pss_cons (ps_setLc (i := 1) (own := [("word", 2)]) (g := gName 2) (by rfl) nd rfl rfl (sw_true rfl rfl rfl (by decide +kernel)) (pi_list (pv 0)) (blkOk_by (own := [("word", 2)]) (N := nFolkRd) (sc := defScope sFolkRd) (by decide +kernel)) (fun _ _ _ _ _ => (pg_name (i := 2) nd rfl (.inl rfl))) (fun _ _ _ _ _ => pts_nil)
          (fun _ _ _ _ _ => (pe_call C_person_read.ok hr (by rfl) C_person_read.g C_person_read.kp C_person_read.b .nil pass0 (pa_cons (pv 2) pa_nil))))
      (pss_one (ps_ret (pe_ifExp (pt_cmpR (op_inD h65) pe_non (pv 1) (by rfl)) pe_non (pe_callTy call_tuple_of (by rfl) m_tuple (by decide +kernel) (pa_cons (pv 1) pa_nil))))), ?_⟩
    refine ⟨_, rfl, _, rfl, ⟨_, SqL.of hp⟩, fun M1 nM1 => ?_⟩
    refine lc_sameT (walk_list (xs := (ps.map fun q => perT q.1 q.2).map V.str)) ps (fun _ => true) (fun q => [.int q.1, dV q.2]) (by rw [List.length_map, List.length_map]) (by omega) nM1 (fun H s => SqL.of (s _ _ hp)) ?_ ?_
    · rintro i y x H3 H4 hy s3 ⟨rfl, hx1⟩ Q1 Q0 q1 q0
      rw [List.getElem?_map, List.getElem?_map, hy] at hx1
      injection hx1 with hx1
      subst hx1
      have hsy := hs y (List.mem_of_getElem? hy)
      refine ⟨rfl, ?_⟩
      refine iteT (B := Q0 H4) ?_
      exact ⟨_, rfl, y.1, y.2, rfl, hsy.1, hsy.2, fun t H' s' e' => q1 rfl t H' s' e'⟩
    intro H2 zs s2 eM hz hat
    have hz' : zs.map (·.2) = ps := by rw [hz, List.filter_eq_self.mpr fun _ _ => rfl]
    have hdp : Dp K H2 (.ref M1) (.list (ps.map perD)) := .lst (SqL.of eM) (by
      have := dp_all (K := K) (H := H2) (enc := perD) (zs.map fun z => (V.ref z.1, z.2)) fun y hy => by
        obtain ⟨z, hm, rfl⟩ := List.mem_map.mp hy
        exact perD_dp (hat z hm)
      rw [← hz']
      simpa [List.map_map, Function.comp_def] using this)
    refine ⟨_, rfl, .none, ps.map perD, .non, hdp, by decide, shaped_pers ps, _, rfl, ?_⟩
    rw [pers_any]
    refine iteF ?_
    refine ⟨_, rfl, M1, _, rfl, .inl ⟨SqL.of eM, fun t3 nt3 => ?_⟩⟩
    have s3 := same_new nt3 (.tup (zs.map fun z => V.ref z.1))
    refine q t3 zs _ (s2.trans s3) ⟨upd_same, ?_, fun z hm => ⟨s3 _ _ (hat z hm), ?_⟩⟩ hz'
    · have := congrArg List.length hz'
      rw [List.length_map] at this
      omega
    · exact hs z.2 (by rw [← hz']; exact List.mem_map_of_mem (f := (·.2)) hm)
end
end Deed

namespace Deed
open PySem PySem.Spec PyProof.Rows L2 LamX TL TX
section
variable {J : It} {n : Nat} {G : Hp → Prop} {Y : Nat → Hp → V → Hp → Prop} {g : TG} {te : TE} {vs : List Nat} {σ : L2.St} {H1 : Hp} {D : Addr} {Qd : Hp → Prop} {α : Type}
/-- new objects of whatever kind -/
theorem lc_newG (w : Walk J n G Y) (ys : List α) (O : α → Addr → Hp → Prop) (hO : ∀ y t H H' xs, H D = some (.lst xs) → (∀ a o, a ≠ D → H a = some o → H' a = some o) → O y t H → O y t H') (hn : ys.length = n) (hlen : ys.length ≤ 1000) (nD : H1 D = none) (hG : ∀ H, Same H1 H → G H)
    (hs : ∀ i y x H H', ys[i]? = some y → Same H1 H → (∃ xs, H D = some (.lst xs)) → Y i H x H' → ∀ (Q1 : V → Hp → Prop), (∀ t H4, Same H H4 → O y t H4 → Q1 (.ref t) H4) →
      g x (wipe σ vs) H' fun σ2 H2 => wipe σ2 vs = wipe σ vs ∧ te σ2 H2 Q1)
    (hd : ∀ H (zs : List (Addr × α)), Same H1 H → H D = some (.lst (zs.map fun z => .ref z.1)) → zs.map (·.2) = ys → (∀ z ∈ zs, O z.2 z.1 H) → Qd H) : LcGoal J g tYes te vs σ H1 D Qd := by
  refine lc_gen w ys (fun _ => true) (fun H => Same H1 H ∧ ∃ xs, H D = some (.lst xs)) Same (fun H y u => ∃ t, u = .ref t ∧ O y t H) hn hlen ⟨same_new nD _, _, upd_same⟩ (fun H h => hG H h.1) (fun H H' h1 h2 => ⟨⟨h1.1.trans h2, h1.2.imp fun xs e => h2 _ _ e⟩, fun xs e => h2 _ _ e⟩) (fun H xs l h1 _ => ⟨same_put nD h1.1 _, _, upd_same⟩) (fun H H' y u h1 h2 e => ?_) (fun H xs l y u h1 h2 e => ?_) (fun i y x H H' hy h1 hY Q1 Q0 q1 q0 => ?_) (fun H zs h1 e ez hz => ?_)
  · obtain ⟨t, e1, e2⟩ := e
    obtain ⟨xs, hx⟩ := h1.2
    exact ⟨t, e1, hO y t H H' xs hx (fun a o _ h => h2 a o h) e2⟩
  · obtain ⟨t, e1, e2⟩ := e
    exact ⟨t, e1, hO y t H _ xs h2 (fun a o n h => by rw [upd_ne n]; exact h) e2⟩
  · exact hs i y x H H' hy h1.1 h1.2 hY Q1 (fun t H4 s4 e4 => q1 rfl _ H4 s4 ⟨t, rfl, e4⟩)
  · have key : ∀ zs : List (V × α), (∀ z ∈ zs, ∃ t, z.1 = .ref t ∧ O z.2 t H) → ∃ ws : List (Addr × α), zs.map (·.1) = ws.map (fun z => V.ref z.1) ∧ ws.map (·.2) = zs.map (·.2) ∧ ∀ z ∈ ws, O z.2 z.1 H := by
      intro zs
      induction zs with
      | nil => exact fun _ => ⟨[], rfl, rfl, fun _ h => nomatch h⟩
      | cons z r ih =>
        intro h
        obtain ⟨ws, a1, a2, a3⟩ := ih fun x hx => h x (List.mem_cons_of_mem _ hx)
        obtain ⟨t, e1, e2⟩ := h z List.mem_cons_self
        refine ⟨(t, z.2) :: ws, ?_, ?_, fun x hx => ?_⟩
        · rw [List.map_cons, List.map_cons, a1, e1]
        · rw [List.map_cons, List.map_cons, a2]
        · rcases List.mem_cons.mp hx with h | h
          · rw [h]
            exact e2
          · exact a3 x h
    obtain ⟨ws, a1, a2, a3⟩ := key zs hz
    exact hd H ws h1.1 (by rw [e, a1]) (by rw [a2, ez, List.filter_eq_self.mpr fun _ _ => rfl]) a3
end
/-! ### the rows of a book's text -/
theorem joinL_free {s c : Nat} (hc : c ≠ s) : ∀ parts : List (List Nat), (∀ p ∈ parts, c ∉ p) → c ∉ joinL [s] parts
  | [], _ => List.not_mem_nil
  | [p], h => h p List.mem_cons_self
  | p :: q :: r, h => by
    show c ∉ p ++ ([s] ++ joinL [s] (q :: r))
    rw [List.mem_append, List.mem_append, List.mem_singleton]
    have h2 := joinL_free hc (q :: r) fun z hz => h z (List.mem_cons_of_mem _ hz)
    have h1 := h p List.mem_cons_self
    exact fun z => z.elim h1 fun z => z.elim hc h2
theorem join_free {y : Str} {s c : Nat} (ey : tl y = [s]) (hc : c ≠ s) {parts : List Str} (h : ∀ p ∈ parts, c ∉ tl p) : c ∉ tl (Txt.join y parts) := by
  rw [join_eq, tl_join, ey]
  refine joinL_free hc _ fun p hp => ?_
  obtain ⟨z, hz, rfl⟩ := List.mem_map.mp hp
  exact h z hz
/-- neither a blank nor a new line -/
def Bl (c : Nat) : Prop := c = 32 ∨ c = 10
theorem Bl.int {c : Nat} (h : Bl c) (i : Int) : c ∉ tl (intT i) := by
  rw [tl_int]
  rcases h with rfl | rfl <;> exact intL_free (by decide) (by decide)
theorem Bl.row {c : Nat} (h : Bl c) (ns : List Int) : c ∉ tl (rowT ns) := by
  unfold rowT
  split
  · rw [tl_dash]
    rcases h with rfl | rfl <;> decide
  · refine join_free tl_com (by rcases h with rfl | rfl <;> decide) fun p hp => ?_
    obtain ⟨i, _, rfl⟩ := List.mem_map.mp hp
    exact h.int i
def WordOk (e : En) : Prop := e.word = ("deed" : Str) ∨ e.word = ("paid" : Str) ∨ e.word = ("void" : Str) ∨ e.word = ("undone" : Str)
theorem Bl.words {c : Nat} (h : Bl c) {e : En} (hw : WordOk e) : ∀ p ∈ wordsE e, c ∉ tl p := by
  intro p hp
  unfold wordsE at hp
  rw [List.mem_append] at hp
  rcases hp with hp | hp
  · simp only [List.mem_cons, List.not_mem_nil, or_false] at hp
    rcases hp with rfl | rfl | rfl | rfl | rfl
    · exact h.int _
    · exact h.int _
    · exact h.int _
    · exact h.int _
    · rcases hw with z | z | z | z <;> rw [z] <;> rcases h with rfl | rfl <;> decide +kernel
  · unfold tailP at hp
    split at hp
    · simp only [List.mem_cons, List.not_mem_nil, or_false] at hp
      rcases hp with rfl | rfl | rfl | rfl
      · exact h.int _
      · exact h.int _
      · exact h.row _
      · exact h.row _
    · rw [List.mem_singleton.mp hp]
      exact h.int _
theorem Bl.per {c : Nat} (h : Bl c) (b : Int) (d : Option Int) : c ∉ tl (perT b d) := by
  have hb := h.int b
  rw [tl_int] at hb
  cases d with
  | none =>
    show c ∉ intL b ++ [58, 45]
    rw [List.mem_append]
    refine fun z => z.elim hb ?_
    rcases h with rfl | rfl <;> decide
  | some i =>
    have hi := h.int i
    rw [tl_int] at hi
    show c ∉ intL b ++ 58 :: intL i
    rw [List.mem_append, List.mem_cons]
    exact fun z => z.elim hb fun z => z.elim (by rcases h with rfl | rfl <;> decide) hi
def rowsT (ps : List (Int × Option Int)) (age : Int) (es : List En) : List (List Str) := (("folk" : Str) :: ps.map fun q => perT q.1 q.2) :: [("age" : Str), intT age] :: es.map wordsE
theorem age_join (age : Int) : ageTx age = Txt.join (" " : Str) [("age" : Str), intT age] := by
  refine ext_str ?_
  rw [join_eq, tl_join, tl_spc]
  show tl ("age " : Str) ++ intL age = tl ("age" : Str) ++ ([32] ++ tl (intT age))
  rw [tl_int, ← List.append_assoc]
  congr 1
theorem book_rows (ps : List (Int × Option Int)) (age : Int) (es : List En) : bookT ps age es = Txt.join ("\n" : Str) ((rowsT ps age es).map fun r => Txt.join (" " : Str) r) := by
  unfold bookT rowsT headT lineT
  rw [age_join, List.map_cons, List.map_cons, List.map_map]
  congr 3
  exact List.map_congr_left fun e _ => by rw [← words_pts]; rfl
theorem rows_free {ps : List (Int × Option Int)} {age : Int} {es : List En} (hw : ∀ e ∈ es, WordOk e) {c : Nat} (h : Bl c) : ∀ r ∈ rowsT ps age es, ∀ p ∈ r, c ∉ tl p := by
  intro r hr p hp
  unfold rowsT at hr
  rcases List.mem_cons.mp hr with rfl | hr
  · rcases List.mem_cons.mp hp with rfl | hp
    · rcases h with rfl | rfl <;> decide +kernel
    · obtain ⟨q, _, rfl⟩ := List.mem_map.mp hp
      exact h.per _ _
  rcases List.mem_cons.mp hr with rfl | hr
  · rcases List.mem_cons.mp hp with rfl | hp
    · rcases h with rfl | rfl <;> decide +kernel
    · rw [List.mem_singleton.mp hp]
      exact h.int _
  · obtain ⟨e, he, rfl⟩ := List.mem_map.mp hr
    exact h.words (hw e he) p hp
theorem split_book {ps : List (Int × Option Int)} {age : Int} {es : List En} (hw : ∀ e ∈ es, WordOk e) : Txt.split (bookT ps age es) ("\n" : Str) = (rowsT ps age es).map fun r => Txt.join (" " : Str) r := by
  rw [book_rows]
  refine split_join tl_nl k_nl (by unfold rowsT; simp) fun p hp => ?_
  obtain ⟨r, hr, rfl⟩ := List.mem_map.mp hp
  exact join_free tl_spc (by decide) (rows_free hw (.inr rfl) r hr)
theorem split_rowW {ps : List (Int × Option Int)} {age : Int} {es : List En} (hw : ∀ e ∈ es, WordOk e) {r : List Str} (hr : r ∈ rowsT ps age es) : Txt.split (Txt.join (" " : Str) r) (" " : Str) = r := by
  refine split_join tl_spc k_spc (fun z => ?_) (rows_free hw (.inl rfl) r hr)
  subst z
  unfold rowsT at hr
  rcases List.mem_cons.mp hr with z | hr
  · cases z
  rcases List.mem_cons.mp hr with z | hr
  · cases z
  · obtain ⟨e, _, z⟩ := List.mem_map.mp hr
    unfold wordsE at z
    cases z
end Deed

namespace Deed
open PySem PySem.Spec PyProof.Rows L2 LamX TL TX
theorem row_small {ps : List (Int × Option Int)} {age : Int} {es : List En} (hp : ∀ q ∈ ps, PerS q) (ha : small age) (he : ∀ e ∈ es, EntS e ∧ WordOk e) (hl : ps.length ≤ 6) : ∀ r ∈ rowsT ps age es, r.length ≤ 9 ∧ ∀ p ∈ r, p.length ≤ 999 := by
  intro r hr
  unfold rowsT at hr
  rcases List.mem_cons.mp hr with rfl | hr
  · refine ⟨?_, fun p h => ?_⟩
    · rw [List.length_cons, List.length_map]; omega
    · rcases List.mem_cons.mp h with rfl | h
      · decide +kernel
      · obtain ⟨q, hq, rfl⟩ := List.mem_map.mp h
        exact Nat.le_trans (per_len (hp q hq).1 (hp q hq).2) (by decide)
  rcases List.mem_cons.mp hr with rfl | hr
  · refine ⟨by show 2 ≤ 9; decide, fun p h => ?_⟩
    rcases List.mem_cons.mp h with rfl | h
    · decide +kernel
    · rw [List.mem_singleton.mp h]
      exact Nat.le_trans ha.len (by decide)
  · obtain ⟨e, hm, rfl⟩ := List.mem_map.mp hr
    obtain ⟨⟨h1, h2, h3, h4, h5⟩, hw⟩ := he e hm
    have hwl : e.word.length ≤ 999 := by rcases hw with z | z | z | z <;> rw [z] <;> decide +kernel
    unfold wordsE tailP
    unfold TailOk at h5
    cases hk : e.kd with
    | deed g t rs ws =>
      rw [hk] at h5
      refine ⟨by show 9 ≤ 9; decide, fun p h => ?_⟩
      simp only [List.cons_append, List.nil_append, List.mem_cons, List.not_mem_nil, or_false] at h
      rcases h with rfl | rfl | rfl | rfl | rfl | rfl | rfl | rfl | rfl
      · exact Nat.le_trans h1.len (by decide)
      · exact Nat.le_trans h2.len (by decide)
      · exact Nat.le_trans h3.len (by decide)
      · exact Nat.le_trans h4.len (by decide)
      · exact hwl
      · exact Nat.le_trans h5.1.len (by decide)
      · exact Nat.le_trans h5.2.1.len (by decide)
      · exact row_len h5.2.2.1.1 h5.2.2.1.2
      · exact row_len h5.2.2.2.1 h5.2.2.2.2
    | act x i =>
      rw [hk] at h5
      refine ⟨by show 6 ≤ 9; decide, fun p h => ?_⟩
      simp only [List.cons_append, List.nil_append, List.mem_cons, List.not_mem_nil, or_false] at h
      rcases h with rfl | rfl | rfl | rfl | rfl | rfl
      · exact Nat.le_trans h1.len (by decide)
      · exact Nat.le_trans h2.len (by decide)
      · exact Nat.le_trans h3.len (by decide)
      · exact Nat.le_trans h4.len (by decide)
      · exact hwl
      · exact Nat.le_trans h5.1.len (by decide)
theorem row_joined {r : List Str} (h : r.length ≤ 9 ∧ ∀ p ∈ r, p.length ≤ 999) : (Txt.join (" " : Str) r).length ≤ 9000 := by
  have := join_len tl_spc (m := 999) h.2
  have h1 := h.1
  omega
theorem bmK {X : Cx} {K : PySem.W.Frag} {e : Expr} {T : String} {r : V → List V → Hp → VK → Prop} {to : TE} {t : TA} (h : X.K = K) (p : PE X e (tBM X.K T r to t)) : PE X e (tBM K T r to t) := h ▸ p
section
variable {P : Program} {w : World} {K : PySem.W.Frag} {mg : Str → Option Value} {base : Heap} {T : List (Addr × Str)}
abbrev sPartsRd : Stmt := topS 76
abbrev nPartsRd : List Str := ["text", "rows", "line", "row"]
abbrev pPartsRd : List Str := ["text"]
theorem scPartsRd : FnScope nPartsRd pPartsRd (defScope sPartsRd) := ⟨rfl, rfl, rfl, by decide +kernel, rfl, by decide +kernel, by decide +kernel⟩
def spPartsRd : Sp := fun vs H Q _ => ∃ (ps : List (Int × Option Int)) (age : Int) (es : List En), vs = [.str (bookT ps age es)] ∧ ps.length ≤ 6 ∧ (∀ q ∈ ps, PerS q) ∧ small age ∧ es.length ≤ 16 ∧ (∀ e ∈ es, EntS e ∧ WordOk e) ∧
  ∀ o fk t pz (zs : List (Addr × En)) H', Same H H' → H' o = some (.tup [.ref fk, .int age, .ref t]) → FolkZ H' fk pz → pz.map (·.2) = ps → H' t = some (.tup (refs zs)) → ens zs = es → (∀ z ∈ zs, EntAt H' z.1 z.2) → Q (.ref o) H'
theorem ok_PartsRd {f : Addr} {fd : FuncData} {k : Nat} (F : Fun K "parts_read" "parts_read" sPartsRd f fd) (C_folk_read : CallOk P w K mg base k "folk_read" pFolkRd spFolkRd) (C_is_number_text : CallOk P w K mg base k "is_number_text" pIsNumT spIsNumT) (C_entry_read : CallOk P w K mg base k "entry_read" pEntRd spEntRd) (m_len : mg "len" = none) (m_int : mg "int" = none) (m_tuple : mg "tuple" = none) : FnOk P w K mg base CX0 (k + 1) f fd pPartsRd spPartsRd := by
  refine F.ok scPartsRd (fun vs H Q E h => ?_) (fun cdv A outer s H vs Q E hr h => ?_)
  · obtain ⟨ps, age, es, rfl, _⟩ := h
    rfl
  · obtain ⟨ps, age, es, rfl, hpl, hp, ha, hel, he, q⟩ := h
    have nd := scPartsRd.nd
    refine ⟨_, pss_cons (ps_setLc (i := 1) (own := [("line", 2)]) (g := gName 2) (by rfl) nd rfl rfl (sw_true rfl rfl rfl (by decide +kernel)) (pi_list (pe_bm PySem.F.plainAttrs_str PySem.F.slot_str_split PySem.F.type_str_split mt_split (pv 0) (pa_cons pe_str pa_nil))) (blkOk_by (own := [("line", 2)]) (N := nPartsRd) (sc := defScope sPartsRd) (by decide +kernel)) (fun _ _ _ _ _ => (pg_name (i := 2) nd rfl (.inl rfl))) (fun _ _ _ _ _ => pts_nil)
          (fun _ _ _ _ _ => (bmK (K := K) (by rfl) (pe_bm PySem.F.plainAttrs_str PySem.F.slot_str_split PySem.F.type_str_split mt_split (pv 2) (pa_cons pe_str pa_nil)))))
      (pss_cons (ps_if (PW.pt (pw_or (pt_cmpR op_lt (pe_callB call_len_seq (by rfl) m_len (by decide +kernel) (pa_cons (pv 1) pa_nil)) pe_int (nomark _)) (pw_or1 (pt_cmpR op_ne (pe_ix ix_list (pe_ix ix_list (pv 1) pe_int (fun _ _ => rfl)) pe_int (fun _ _ => rfl)) pe_str (nomark _))))) (pss_one (ps_ret pe_non)) pss_nil)
      (pss_cons (ps_if (PW.pt (pw_or (pt_cmpR op_ne (pe_callB call_len_seq (by rfl) m_len (by decide +kernel) (pa_cons (pe_ix ix_list (pv 1) pe_int (fun _ _ => rfl)) pa_nil)) pe_int (nomark _)) (pw_or (pt_cmpR op_ne (pe_ix ix_list (pe_ix ix_list (pv 1) pe_int (fun _ _ => rfl)) pe_int (fun _ _ => rfl)) pe_str (nomark _)) (pw_or1 (pt_not (pt_val (pe_call C_is_number_text.ok hr (by rfl) C_is_number_text.g C_is_number_text.kp C_is_number_text.b .nil pass0 (pa_cons (pe_ix ix_list (pe_ix ix_list (pv 1) pe_int (fun _ _ => rfl)) pe_int (fun _ _ => rfl)) pa_nil)))))))) (pss_one (ps_ret pe_non)) pss_nil)
      (pss_one (ps_ret (pe_tup (pa_cons (pe_call C_folk_read.ok hr (by rfl) C_folk_read.g C_folk_read.kp C_folk_read.b .nil pass0 (pa_cons (pe_slice sl_list (pe_ix ix_list (pv 1) pe_int (fun _ _ => rfl)) (po_some pe_int) po_none) pa_nil)) (pa_cons (pe_callTy call_int_str (by rfl) m_int (by decide +kernel) (pa_cons (pe_ix ix_list (pe_ix ix_list (pv 1) pe_int (fun _ _ => rfl)) pe_int (fun _ _ => rfl)) pa_nil)) (pa_cons (pe_callTy call_tuple_of (by rfl) m_tuple (by decide +kernel) (pa_cons (pe_lc (own := [("row", 3)]) (g := gName 3) (by rfl) nd (pi_list (pe_slice sl_list (pv 1) (po_some pe_int) po_none)) (blkOk_by (own := [("row", 3)]) (N := nPartsRd) (sc := defScope sPartsRd) (by decide +kernel)) (fun _ _ _ _ _ => (pg_name (i := 3) nd rfl (.inl rfl))) (fun _ _ _ _ _ => pts_nil)
          (fun _ _ _ _ _ => (pe_call C_entry_read.ok hr (by rfl) C_entry_read.g C_entry_read.kp C_entry_read.b .nil pass0 (pa_cons (pv 3) pa_nil)))) pa_nil)) pa_nil)))))))), ?_⟩
    have hw : ∀ e ∈ es, WordOk e := fun e h => (he e h).2
    have hrs := row_small hp ha he hpl
    have hrl : (rowsT ps age es).length = es.length + 2 := by
      unfold rowsT
      rw [List.length_cons, List.length_cons, List.length_map]
    have hsz : (bookT ps age es).length + 2 ≤ sizeLine := by
      have := join_len tl_nl (m := 9000) (parts := (rowsT ps age es).map fun r => Txt.join (" " : Str) r) fun p hp' => by
        obtain ⟨r, hr', rfl⟩ := List.mem_map.mp hp'
        exact row_joined (hrs r hr')
      rw [← book_rows, List.length_map, hrl] at this
      rw [sizeLine_eq]
      omega
    refine ⟨_, rfl, rfl, bookT ps age es, _, rfl, rfl, by decide +kernel, hsz, fun p0 np0 => ?_⟩
    rw [split_book hw]
    have s1 := same_new np0 (.lst (((rowsT ps age es).map fun r => Txt.join (" " : Str) r).map V.str))
    have e1 : (upd H p0 (.lst (((rowsT ps age es).map fun r => Txt.join (" " : Str) r).map V.str))) p0 = some (.lst (((rowsT ps age es).map fun r => Txt.join (" " : Str) r).map V.str)) := upd_same
    generalize (upd H p0 (.lst (((rowsT ps age es).map fun r => Txt.join (" " : Str) r).map V.str))) = H1 at s1 e1
    refine ⟨p0, rfl, ⟨_, SqL.of e1⟩, fun M1 nM1 => ?_⟩
    refine lc_newG (walk_list (xs := ((rowsT ps age es).map fun r => Txt.join (" " : Str) r).map V.str)) (rowsT ps age es) (fun r t H => t ≠ M1 ∧ H t = some (.lst (r.map V.str))) (fun y t H H' xs _ k o => ⟨o.1, k _ _ o.1 o.2⟩) (by rw [List.length_map, List.length_map]) (by omega) nM1 (fun H s => SqL.of (s _ _ e1)) ?_ ?_
    · rintro i y x H3 H4 hy s3 ⟨xs, hD⟩ ⟨rfl, hx1⟩ Q1 q1
      rw [List.getElem?_map, List.getElem?_map, hy] at hx1
      injection hx1 with hx1
      subst hx1
      have my := List.mem_of_getElem? hy
      refine ⟨rfl, _, rfl, rfl, Txt.join (" " : Str) y, _, rfl, rfl, by decide +kernel, ?_, fun t nt => ?_⟩
      · have := row_joined (hrs y my)
        rw [sizeLine_eq]
        omega
      · rw [split_rowW hw my]
        exact q1 t _ (same_new nt _) ⟨(ne_of_none hD nt).symm, upd_same⟩
    intro H2 zr s2 eM hz hat
    obtain ⟨z0, z1, zt, rfl, hz0, hz1, hzt⟩ : ∃ z0 z1 zt, zr = z0 :: z1 :: zt ∧ z0.2 = ("folk" : Str) :: (ps.map fun q => perT q.1 q.2) ∧ z1.2 = [("age" : Str), intT age] ∧ zt.map (·.2) = es.map wordsE := by
      unfold rowsT at hz
      match zr, hz with
      | z0 :: z1 :: zt, hz =>
        injection hz with g0 hz
        injection hz with g1 hz
        exact ⟨z0, z1, zt, rfl, g0, g1, hz⟩
      | [z0], hz => exact absurd (congrArg List.length hz) (by simp)
    have eM' : H2 M1 = some (.lst (.ref z0.1 :: .ref z1.1 :: zt.map fun z => V.ref z.1)) := eM
    have e0 : H2 z0.1 = some (.lst (.str ("folk" : Str) :: (ps.map fun q => perT q.1 q.2).map V.str)) := by
      have := (hat z0 List.mem_cons_self).2
      rw [hz0] at this
      exact this
    have e1' : H2 z1.1 = some (.lst [.str ("age" : Str), .str (intT age)]) := by
      have := (hat z1 (List.mem_cons_of_mem _ List.mem_cons_self)).2
      rw [hz1] at this
      exact this
    have hzl : zt.length = es.length := by
      have := congrArg List.length hzt
      rw [List.length_map, List.length_map] at this
      exact this
    refine ⟨_, rfl, M1, _, rfl, .inl (SqL.of eM'), _, _, rfl, rfl, _, rfl, ?_⟩
    rw [List.length_cons, List.length_cons, decide_eq_false (show ¬ (((zt.map fun z => V.ref z.1).length + 1 + 1 : Nat) : Int) < 2 by omega)]
    refine iteF ?_
    refine ⟨_, rfl, M1, _, _, _, rfl, rfl, SqL.of eM', (atI_nat (j := 0) rfl), z0.1, _, _, _, rfl, rfl, SqL.of e0, (atI_nat (j := 0) rfl), rfl, _, rfl, ?_⟩
    rw [decide_eq_true rfl]
    refine iteF ?_
    refine ⟨_, rfl, M1, _, _, _, rfl, rfl, SqL.of eM', (atI_nat (j := 1) rfl), z1.1, _, rfl, .inl (SqL.of e1'), rfl, _, rfl, ?_⟩
    refine iteF ?_
    refine ⟨_, rfl, M1, _, _, _, rfl, rfl, SqL.of eM', (atI_nat (j := 1) rfl), z1.1, _, _, _, rfl, rfl, SqL.of e1', (atI_nat (j := 0) rfl), rfl, _, rfl, ?_⟩
    rw [decide_eq_true rfl]
    refine iteF ?_
    refine ⟨_, rfl, M1, _, _, _, rfl, rfl, SqL.of eM', (atI_nat (j := 1) rfl), z1.1, _, _, _, rfl, rfl, SqL.of e1', (atI_nat (j := 1) rfl), intT age, rfl, Nat.le_trans ha.len (by decide), fun H3 s3 => ⟨_, rfl, ?_⟩⟩
    rw [ha.ok]
    refine iteF ?_
    have eM3 := s3 _ _ eM'
    refine ⟨_, rfl, M1, _, _, _, rfl, rfl, SqL.of eM3, (atI_nat (j := 0) rfl), _, rfl, ?_⟩
    dsimp only [tNoPart]
    refine ⟨z0.1, _, rfl, SqL.of (s3 _ _ e0), fun q4 nq4 => ?_⟩
    rw [show cutV (.str ("folk" : Str) :: (ps.map fun q => perT q.1 q.2).map V.str) (some 1) none = (ps.map fun q => perT q.1 q.2).map V.str from cutDrop V.str (("folk" : Str) :: ps.map fun q : Int × Option Int => perT q.1 q.2) 1]
    have s4 := same_new nq4 (.lst ((ps.map fun q => perT q.1 q.2).map V.str))
    have e4 : (upd H3 q4 (.lst ((ps.map fun q => perT q.1 q.2).map V.str))) q4 = some (.lst ((ps.map fun q => perT q.1 q.2).map V.str)) := upd_same
    generalize (upd H3 q4 (.lst ((ps.map fun q => perT q.1 q.2).map V.str))) = H4 at s4 e4
    refine ⟨q4, ps, rfl, e4, hpl, hp, fun fk pz H5 s5 hF hpz => ?_⟩
    have s35 := s4.trans s5
    have eM5 := s35 _ _ eM3
    have s25 := s3.trans s35
    refine ⟨_, rfl, M1, _, _, _, rfl, rfl, SqL.of eM5, (atI_nat (j := 1) rfl), z1.1, _, _, _, rfl, rfl, SqL.of (s25 _ _ e1'), (atI_nat (j := 1) rfl), intT age, age, rfl, ha.reads, Nat.le_trans ha.len (by decide), ?_⟩
    refine ⟨_, rfl, _, rfl, ?_⟩
    dsimp only [tNoPart]
    refine ⟨M1, _, rfl, SqL.of eM5, fun q6 nq6 => ?_⟩
    rw [show cutV (.ref z0.1 :: .ref z1.1 :: zt.map fun z => V.ref z.1) (some 2) none = zt.map fun z => V.ref z.1 from cutDrop (fun z : Addr × List Str => V.ref z.1) (z0 :: z1 :: zt) 2]
    have s6 := same_new nq6 (.lst (zt.map fun z => V.ref z.1))
    have e6 : (upd H5 q6 (.lst (zt.map fun z => V.ref z.1))) q6 = some (.lst (zt.map fun z => V.ref z.1)) := upd_same
    generalize (upd H5 q6 (.lst (zt.map fun z => V.ref z.1))) = H6 at s6 e6
    have s26 := s25.trans s6
    refine ⟨q6, rfl, ⟨_, SqL.of e6⟩, fun M7 nM7 => ?_⟩
    refine lc_newG (walk_list (xs := zt.map fun z => V.ref z.1)) es (fun e t H => EntAt H t e) (fun y t H H' xs hD k o => o.kp fun c xs' e => k _ _ (fun z => by rw [z, hD] at e; cases e) e) (by rw [List.length_map, hzl]) (by omega) nM7 (fun H s => SqL.of (s _ _ e6)) ?_ ?_
    · rintro i y x H8 H9 hy s8 hD ⟨rfl, hx1⟩ Q1 q1
      rw [List.getElem?_map] at hx1
      cases hzi : zt[i]? with
      | none => rw [hzi] at hx1; cases hx1
      | some z =>
      rw [hzi] at hx1
      injection hx1 with hx1
      subst hx1
      have hzy : z.2 = wordsE y := by
        have := congrArg (fun l => l[i]?) hzt
        simp only [List.getElem?_map, hzi, hy] at this
        exact Option.some.inj this
      have mz := List.mem_of_getElem? hzi
      have ez := (hat z (List.mem_cons_of_mem _ (List.mem_cons_of_mem _ mz))).2
      rw [hzy] at ez
      exact ⟨rfl, _, rfl, z.1, y, rfl, s8 _ _ (s26 _ _ ez), (he y (List.mem_of_getElem? hy)).1, fun o H' s' ho => q1 o H' s' ho⟩
    intro H7 zs s7 eM7 hzs hents
    refine ⟨M7, _, rfl, .inl ⟨SqL.of eM7, fun t8 nt8 => ?_⟩⟩
    have s8 := same_new nt8 (.tup (zs.map fun z => V.ref z.1))
    have e8 : (upd H7 t8 (.tup (zs.map fun z => V.ref z.1))) t8 = some (.tup (zs.map fun z => V.ref z.1)) := upd_same
    generalize (upd H7 t8 (.tup (zs.map fun z => V.ref z.1))) = H8 at s8 e8
    refine ⟨(by show 3 ≤ sizeLine; decide), fun o no => ?_⟩
    have s9 := same_new no (.tup [.ref fk, .int age, .ref t8])
    have s59 := s6.trans (s7.trans (s8.trans s9))
    exact q o fk t8 pz zs _ (s1.trans (s2.trans (s25.trans s59))) upd_same (hF.kp (Same.tup s59)) hpz (s9 _ _ e8) hzs fun z hm => (hents z hm).kp (Same.tup (s8.trans s9))
end
end Deed

namespace Deed
open PySem PySem.Spec PyProof.Rows L2 LamX
section
variable {P : Program} {w : World} {K : PySem.W.Frag} {mg : Str → Option Value} {base : Heap}
abbrev sIsBk : Stmt := topS 27
abbrev nIsBk : List Str := ["thing", "folk", "age", "entries", "words", "entry"]
abbrev pIsBk : List Str := ["thing"]
theorem scIsBk : FnScope nIsBk pIsBk (defScope sIsBk) := ⟨rfl, rfl, rfl, by decide +kernel, rfl, by decide +kernel, by decide +kernel⟩
theorem ent_nw {p : Addr} {H : Hp} {n : Int} {v : V} {t : Tg} (hT : TgAt p H v t) (h : isEntT n t = true) : ∃ a xs, v = .ref a ∧ H a = some (.tup xs) ∧ xs[0]? = some (.int (numT t)) ∧ xs[4]? = some (.str (wordT t)) := by
  obtain ⟨num, b, c, d, z, ff, r, rfl, _⟩ := entT_shape h
  obtain ⟨a, xs, ts, rfl, ets, ea, hts⟩ := hT.tupOf rfl
  injection ets with ets
  subst ets
  obtain ⟨x0, g0, h0⟩ := tup_at hts (i := 0) rfl
  obtain ⟨x4, g4, h4⟩ := tup_at hts (i := 4) rfl
  cases h0
  cases h4
  exact ⟨a, xs, rfl, ea, g0, g4⟩
theorem wdT_more {ts : List Tg} {i : Nat} {t : Tg} (h : ts[i]? = some t) : wdT (ts.take (i + 1)) = putK (wdT (ts.take i)) (.inl (numT t)) (.str (wordT t)) := by
  unfold wdT
  rw [take_more h, List.foldl_append]
  rfl
theorem ok_IsBk {f : Addr} {fd : FuncData} {k : Nat} (F : Fun K "is_book" "is_book" sIsBk f fd) (C_is_folk : CallOk P w K mg base k "is_folk" pIsFolkG (spB1 isFolkT)) (C_is_age : CallOk P w K mg base k "is_age" pIsAgeG (spB1 (Tg.within 0 9999))) (C_is_entry : CallOk P w K mg base k "is_entry" pIsEntG spEntG) (C_names_fit : CallOk P w K mg base k "names_fit" pNFit spNFit) (m_isinstance : mg "isinstance" = none) (m_tuple : mg "tuple" = none) (m_len : mg "len" = none) (m_all : mg "all" = none) (mNu : MgInt mg "NUMBER" 0) (mWd : MgInt mg "WORD" 4) (mE : MgInt mg "MOST_ENTRIES" 16) : FnOk P w K mg base CX0 (k + 1) f fd pIsBk (spB1 isBookT) := by
  refine F.ok scIsBk (fun vs H Q E h => ?_) (fun cdv A outer s H vs Q E hr h => ?_)
  · obtain ⟨p, v, t, rfl, _⟩ := h
    rfl
  · obtain ⟨p, v, t, rfl, hT, q⟩ := h
    have nd := scIsBk.nd
    have hu := hu_of hr
    refine ⟨_, pss_cons (ps_if (PW.pt (pw_or (pt_not (pt_val (pe_callB call_isi (by rfl) m_isinstance (by decide +kernel) (pa_cons (pv 0) (pa_cons (pe_bltn (v := .ty "tuple") (by rfl) m_tuple (by decide +kernel) rfl) pa_nil))))) (pw_or1 (pt_cmpR op_ne (pe_callB call_len_seq (by rfl) m_len (by decide +kernel) (pa_cons (pv 0) pa_nil)) pe_int (nomark _))))) (pss_one (ps_ret pe_bl)) pss_nil)
      (pss_cons (ps_asg (pv 0) (pg_tup (by rfl) (pgs_cons (pg_name (i := 1) nd rfl (.inr rfl)) (pgs_cons (pg_name (i := 2) nd rfl (.inl rfl)) (pgs_cons (pg_name (i := 3) nd rfl (.inl rfl)) pgs_nil)))))
      (pss_cons (ps_if (PW.pt (pw_or (pt_not (pt_val (pe_call C_is_folk.ok hr (by rfl) C_is_folk.g C_is_folk.kp C_is_folk.b .nil pass0 (pa_cons (pv 1) pa_nil)))) (pw_or1 (pt_not (pt_val (pe_call C_is_age.ok hr (by rfl) C_is_age.g C_is_age.kp C_is_age.b .nil pass0 (pa_cons (pv 2) pa_nil))))))) (pss_one (ps_ret pe_bl)) pss_nil)
      (pss_cons (ps_if (PW.pt (pw_or (pt_not (pt_val (pe_callB call_isi (by rfl) m_isinstance (by decide +kernel) (pa_cons (pv 3) (pa_cons (pe_bltn (v := .ty "tuple") (by rfl) m_tuple (by decide +kernel) rfl) pa_nil))))) (pw_or1 (pt_cmpR op_gt (pe_callB call_len_seq (by rfl) m_len (by decide +kernel) (pa_cons (pv 3) pa_nil)) (pe_num (by rfl) mE) (nomark _))))) (pss_one (ps_ret pe_bl)) pss_nil)
      (pss_cons (ps_if (pt_not (pt_val (pe_callB (cr_all rfl) (by rfl) m_all (by decide +kernel) (pa_cons (pe_lc (own := [("entry", 5)]) (g := gName 5) (by rfl) nd (pi_tup (pv 3)) (blkOk_by (own := [("entry", 5)]) (N := nIsBk) (sc := defScope sIsBk) (by decide +kernel)) (fun _ _ _ _ _ => pg_name (i := 5) nd rfl (Or.inl rfl)) (fun _ _ _ _ _ => pts_nil)
          (fun _ _ _ _ _ => pe_call C_is_entry.ok hr (by rfl) C_is_entry.g C_is_entry.kp C_is_entry.b .nil pass0 (pa_cons (pv 1) (pa_cons (pv 5) pa_nil)))) pa_nil)))) (pss_one (ps_ret pe_bl)) pss_nil)
      (pss_cons (ps_set (i := 4) nd rfl (.inr rfl) (pe_dc (own := [("entry", 5)]) (g := gName 5) (by rfl) nd (pi_tup (pv 3)) (blkOk_by (own := [("entry", 5)]) (N := nIsBk) (sc := defScope sIsBk) (by decide +kernel)) (fun _ _ _ _ _ => pg_name (i := 5) nd rfl (Or.inl rfl)) (fun _ _ _ _ _ => pts_nil)
          (fun _ _ _ _ _ => show PE _ _ (tOp (rIxT K) (tVar 5) (tC (.int 0))) from pe_ix ix_tup (pv 5) (pe_num (by rfl) mNu) (fun _ _ => rfl)) (fun _ _ _ _ _ => show PE _ _ (tOp (rIxT K) (tVar 5) (tC (.int 4))) from pe_ix ix_tup (pv 5) (pe_num (by rfl) mWd) (fun _ _ => rfl))))
      (pss_one (ps_ret (pe_and (pe_cmpR op_eq (pe_callB call_lenD (by rfl) m_len PySem.boot_len (pa_cons (pv 4) pa_nil)) (pe_callB call_len_seq (by rfl) m_len PySem.boot_len (pa_cons (pv 3) pa_nil)) (nomark _)) (pe_one (pe_callB (cr_all rfl) (by rfl) m_all (by decide +kernel) (pa_cons (pe_lc (own := [("entry", 5)]) (g := gName 5) (by rfl) nd (pi_tup (pv 3)) (blkOk_by (own := [("entry", 5)]) (N := nIsBk) (sc := defScope sIsBk) (by decide +kernel)) (fun _ _ _ _ _ => pg_name (i := 5) nd rfl (Or.inl rfl)) (fun _ _ _ _ _ => pts_nil)
          (fun _ _ _ _ _ => pe_call C_names_fit.ok hr (by rfl) C_names_fit.g C_names_fit.kp C_names_fit.b .nil pass0 (pa_cons (pv 4) (pa_cons (pv 5) pa_nil)))) pa_nil))))))))))), ?_⟩
    refine ⟨_, rfl, _, _, _, _, t.isT, rfl, .ty "tuple", hT.ty, kit_ty t.kT, _, rfl, ?_⟩
    cases hc : t.isT with
    | false =>
      refine iteT ?_
      have h := q _ (same_refl _)
      have e : isBookT t = false := by cases t <;> first | rfl | cases hc
      rw [e] at h
      exact h
    | true =>
    refine iteF ?_
    obtain ⟨a, xs, ts, rfl, rfl, ea, hts⟩ := hT.tupOf hc
    have hlen := hts.length
    refine ⟨_, rfl, a, _, rfl, .inr (SqT.of ea), rfl, _, rfl, ?_⟩
    by_cases h3 : ts.length = 3
    rotate_left
    · rw [show decide (V.int (xs.length : Nat) = V.int 3) = false from decide_eq_false fun z => h3 (by injection z with z; omega)]
      refine iteT ?_
      have h := q _ (same_refl _)
      have e : isBookT (.tup ts) = false := by
        match ts, h3 with
        | [], _ => rfl
        | [_], _ => rfl
        | [_, _], _ => rfl
        | [_, _, _], h3 => exact absurd rfl h3
        | _ :: _ :: e3 :: _ :: _, _ => cases e3 <;> rfl
      rw [e] at h
      exact h
    rw [show decide (V.int (xs.length : Nat) = V.int 3) = true from decide_eq_true (by rw [hlen, h3]; rfl)]
    refine iteF ?_
    obtain ⟨tf, tg, te, rfl⟩ : ∃ x y u, ts = [x, y, u] := by
      match ts, h3 with
      | [x, y, u], _ => exact ⟨x, y, u, rfl⟩
    match xs, hts with
    | [xf, xg, xe], .cons hf (.cons hg (.cons he .nil)) =>
    refine ⟨_, rfl, a, _, rfl, SqT.of ea, rfl, _, _, rfl, _, _, rfl, _, _, rfl, rfl, ?_⟩
    refine ⟨_, rfl, p, xf, tf, rfl, hf, fun H1 s1 => ⟨_, rfl, ?_⟩⟩
    have bad1 : ∀ H', Same H H' → isFolkT tf = false → Q (.bl false) H' := fun H' s' hb => by
      have h := q _ s'
      have e : isBookT (.tup [tf, tg, te]) = false := by
        cases te with
        | tup es =>
          show (isFolkT tf && _) = false
          rw [hb]
          rfl
        | _ => rfl
      rw [e] at h
      exact h
    cases c1 : isFolkT tf with
    | false => exact iteT (bad1 _ s1 c1)
    | true =>
    refine iteF ?_
    refine ⟨_, rfl, p, xg, tg, rfl, TgAt.same s1 _ _ hg, fun H2 s2 => ⟨_, rfl, ?_⟩⟩
    have s02 := s1.trans s2
    cases c2 : tg.within 0 9999 with
    | false =>
      refine iteT ?_
      have h := q _ s02
      have e : isBookT (.tup [tf, tg, te]) = false := by
        cases te with
        | tup es =>
          show (isFolkT tf && (tg.within 0 9999 && _)) = false
          rw [c1, c2]
          rfl
        | _ => rfl
      rw [e] at h
      exact h
    | true =>
    refine iteF ?_
    have he2 := TgAt.same s02 _ _ he
    refine ⟨_, rfl, _, _, _, _, te.isT, rfl, .ty "tuple", he2.ty, kit_ty te.kT, _, rfl, ?_⟩
    cases hc2 : te.isT with
    | false =>
      refine iteT ?_
      have h := q _ s02
      have e : isBookT (.tup [tf, tg, te]) = false := by cases te <;> first | rfl | cases hc2
      rw [e] at h
      exact h
    | true =>
    refine iteF ?_
    obtain ⟨t2, ys, es, rfl, rfl, et, hes⟩ := he.tupOf hc2
    have q1 : ∀ H', Same H H' → Q (.bl (isFolkT tf && (tg.within 0 9999 && (decide (es.length ≤ 16) && (es.all (isEntT (lenT tf)) && (decide ((wdT es).length = es.length) && es.all (fitT (wdT es)))))))) H' := q
    rw [c1, c2, Bool.true_and, Bool.true_and] at q1
    have hlen2 := hes.length
    refine ⟨_, rfl, t2, _, rfl, .inr (SqT.of (s02 _ _ et)), _, _, rfl, rfl, _, rfl, ?_⟩
    by_cases h16 : es.length ≤ 16
    rotate_left
    · rw [decide_eq_true (show ((ys.length : Nat) : Int) > 16 by omega)]
      refine iteT ?_
      rw [decide_eq_false h16] at q1
      exact q1 _ s02
    rw [decide_eq_false (show ¬ ((ys.length : Nat) : Int) > 16 by omega)]
    refine iteF ?_
    rw [decide_eq_true h16, Bool.true_and] at q1
    have et2 := s02 _ _ et
    refine ⟨_, rfl, t2, rfl, ⟨_, SqT.of et2⟩, fun M nM => ?_⟩
    refine lc_sameM (walk_tup (xs := ys)) es (fun y => .bl (isEntT (lenT tf) y)) hlen2.symm (by omega) nM (fun H s => SqT.of (s _ _ et2)) ?_ ?_
    · rintro i y x H3' H3 hy s3 ⟨rfl, hx⟩ Q1 q1'
      refine ⟨rfl, _, rfl, _, rfl, p, xf, x, tf, y, rfl, TgAt.same (s02.trans s3) _ _ hf, TgAt.same (s02.trans s3) _ _ (hes.at hx hy), fun H4 s4 => ?_⟩
      rw [c1, Bool.true_and]
      exact q1' _ s4
    intro H3 s3 eM
    have s03 := s02.trans s3
    refine ⟨M, es.map (isEntT (lenT tf)), rfl, SqL.of (by rw [eM, List.map_map]; rfl), ?_⟩
    rw [all_map_id]
    refine ⟨_, rfl, ?_⟩
    cases c3 : es.all (isEntT (lenT tf)) with
    | false =>
      refine iteT ?_
      rw [c3, Bool.false_and] at q1
      exact q1 _ s03
    | true =>
    refine iteF ?_
    rw [c3, Bool.true_and] at q1
    have hall := List.all_eq_true.mp c3
    have et3 := s03 _ _ et
    refine ⟨_, rfl, t2, rfl, ⟨_, SqT.of et3⟩, fun W nW => ?_⟩
    refine dc_tup (K := K) (a := t2) (xs := ys) (fun i H' => H' W = some (.dK (wdT (es.take i))) ∧ Same H3 H') ⟨upd_same, same_new nW _⟩ (fun i H' _ h => SqT.of (h.2 _ _ et3)) ?_ ?_
    · rintro i x H' hx ⟨eW, sm⟩
      obtain ⟨y, hy, hxy⟩ := hes.get hx
      obtain ⟨ya, yxs, rfl, eya, g0, g4⟩ := ent_nw (TgAt.same (s03.trans sm) _ _ hxy) (hall y (List.mem_of_getElem? hy))
      have hwl := wdT_len (es.take i) []
      have htl : (es.take i).length ≤ 16 := by rw [List.length_take]; omega
      refine ⟨rfl, ?_⟩
      unfold tYes
      dsimp only
      rw [if_pos rfl]
      refine ⟨_, rfl, ya, yxs, 0, _, rfl, rfl, SqT.of eya, atI_nat (j := 0) g0, _, rfl, ya, yxs, 4, _, rfl, rfl, SqT.of eya, atI_nat (j := 4) g4, _, Sum.inl (numT y), rfl, eW, small1000 (by unfold wdT; simp at hwl; omega), ?_, same_put nW sm _⟩
      rw [upd_same, wdT_more hy]
    rintro H4 ⟨eW, s4⟩
    rw [hlen2, List.take_length] at eW
    have s04 := s03.trans s4
    have et4 := s04 _ _ et
    refine ⟨_, rfl, W, _, rfl, eW, _, rfl, t2, _, rfl, .inr (SqT.of et4), rfl, _, rfl, ?_⟩
    rw [show decide (V.int ((wdT es).length : Int) = V.int ((ys.length : Nat) : Int)) = decide ((wdT es).length = es.length) by
      by_cases e : (wdT es).length = es.length
      · rw [decide_eq_true e, decide_eq_true (by rw [e, hlen2])]
      · rw [decide_eq_false e, decide_eq_false fun z => e (by injection z with z; omega)]]
    cases c4 : decide ((wdT es).length = es.length) with
    | false =>
      refine iteF ?_
      rw [c4, Bool.false_and] at q1
      exact q1 _ s04
    | true =>
    refine iteT ?_
    rw [c4, Bool.true_and] at q1
    refine ⟨_, rfl, t2, rfl, ⟨_, SqT.of et4⟩, fun M2 nM2 => ?_⟩
    refine lc_sameM (walk_tup (xs := ys)) es (fun y => .bl (fitT (wdT es) y)) hlen2.symm (by omega) nM2 (fun H s => SqT.of (s _ _ et4)) ?_ ?_
    · rintro i y x H5' H5 hy s5 ⟨rfl, hx⟩ Q1 q1'
      exact ⟨rfl, _, rfl, _, rfl, p, W, wdT es, x, y, lenT tf, rfl, s5 _ _ eW, wdT_ok es [] (fun _ h => nomatch h), TgAt.same (s04.trans s5) _ _ (hes.at hx hy), hall y (List.mem_of_getElem? hy), fun H6 s6 => q1' _ s6⟩
    intro H5 s5 eM2
    refine ⟨M2, es.map (fitT (wdT es)), rfl, SqL.of (by rw [eM2, List.map_map]; rfl), ?_⟩
    rw [all_map_id]
    exact q1 _ (s04.trans s5)
end
end Deed

namespace Deed
open PySem PySem.Spec PyProof.Rows L2 LamX TL TX
/-! ### a book is a book -/
theorem fitE_mem {n : Nat} {es : List En} (h : BkOk n es) {e : En} (he : e ∈ es) : fitE es e = true := by
  obtain ⟨_, _, _, hk⟩ := h.ok e he
  unfold fitE En.isDeed En.rests En.word En.of
  cases hd : e.kd with
  | deed g t rs ws =>
    rw [hd] at hk
    show rs.all (fun r => decide (r ∈ dn es)) = true
    exact List.all_eq_true.mpr fun r hr => decide_eq_true (hk.2.2.2.2.2.1 r hr).1
  | act x o =>
    rw [hd] at hk
    rcases hk.1 with ⟨rfl, ho⟩ | ⟨hx, ho⟩
    · show (if ("undone" : Str) = "undone" then decide (o ∈ an es) else decide (o ∈ dn es)) = true
      rw [if_pos rfl]
      exact decide_eq_true ho
    · show (if x = "undone" then decide (o ∈ an es) else decide (o ∈ dn es)) = true
      rw [if_neg (fun q => by rcases hx with z | z <;> (rw [z] at q; exact absurd q (by decide)))]
      exact decide_eq_true ho
theorem wdT_all : ∀ (es pre : List En), ((pre ++ es).map (·.num)).Nodup → (es.map entT).foldl (fun kvs t => putK kvs (.inl (numT t)) (.str (wordT t))) (wdk pre) = wdk (pre ++ es)
  | [], pre, _ => by rw [List.append_nil]; rfl
  | e :: r, pre, h => by
    have hn : e.num ∉ pre.map (·.num) := fun z => by
      rw [List.map_append, List.map_cons] at h
      exact (List.nodup_append.mp h).2.2 _ z _ List.mem_cons_self rfl
    have e1 : pre ++ e :: r = (pre ++ [e]) ++ r := by simp
    rw [List.map_cons, List.foldl_cons, numT_ent, wordT_ent, wdk_snoc hn, wdT_all r (pre ++ [e]) (by rw [← e1]; exact h), ← e1]
theorem entOk_mem {n : Nat} {es : List En} (h : BkOk n es) {e : En} (he : e ∈ es) : EntOk n e :=
  (h.ok e he).entOk (h.rng e he) (fun d hd => by
    obtain ⟨u, hu, _, rfl⟩ := mem_dn.mp hd
    exact (h.rng u hu).1) (fun d hd => by
    obtain ⟨u, hu, _, rfl⟩ := mem_an.mp hd
    exact (h.rng u hu).1)
theorem tgAll_ents {p : Addr} {H : Hp} : ∀ zs : List (Addr × En), (∀ z ∈ zs, EntAt H z.1 z.2) → TgAll p H (refs zs) ((ens zs).map entT)
  | [], _ => .nil
  | z :: r, h => .cons (h z List.mem_cons_self).tg (tgAll_ents r fun y hy => h y (List.mem_cons_of_mem _ hy))
theorem book_tg {p : Addr} {H : Hp} {b fk t : Addr} {n : Nat} {age : Int} {zs : List (Addr × En)} (h : BookAt H b fk t n age zs) : ∃ tb, TgAt p H (.ref b) tb ∧ isBookT tb = true := by
  obtain ⟨ts, hts, htl, _, hfo⟩ := folk_tg (p := p) h.folk (by have := h.n6; omega)
  refine ⟨.tup [.tup ts, .int age, .tup ((ens zs).map entT)], .tup h.at_ (.cons hts (.cons (.int _) (.cons (.tup h.ents (tgAll_ents zs h.ent)) .nil))), ?_⟩
  have h1 : isFolkT (.tup ts) = true := by
    show ((decide (1 ≤ ts.length) && decide (ts.length ≤ 6)) && ts.all isPersonT) = true
    rw [hfo, htl, decide_eq_true (by have := h.n2; omega), decide_eq_true h.n6]
    rfl
  have h2 : (Tg.int age).within 0 9999 = true := by
    show (decide (0 ≤ age) && decide (age ≤ 9999)) = true
    rw [decide_eq_true h.age0, decide_eq_true h.age1]
    rfl
  have h3 : lenT (.tup ts) = n := by
    show ((ts.length : Nat) : Int) = n
    rw [htl]
  have hl : (ens zs).length = zs.length := List.length_map _
  have h4 : wdT ((ens zs).map entT) = wdk (ens zs) := wdT_all (ens zs) [] h.ok.nd
  have h5 : ((ens zs).map entT).all (isEntT n) = true := by
    rw [List.all_map]
    refine List.all_eq_true.mpr fun e he => ?_
    refine (isEntT_iff fun x o hk z => ?_).mpr (entOk_mem h.ok he)
    have h6 := (h.ok.ok e he).word
    unfold En.word En.isDeed at h6
    rw [hk] at h6
    exact absurd (h6.mp z) (by simp)
  have h7 : ((ens zs).map entT).all (fitT (wdk (ens zs))) = true := by
    rw [List.all_map]
    refine List.all_eq_true.mpr fun e he => ?_
    show fitT (wdk (ens zs)) (entT e) = true
    rw [fitT_ent h.ok.esOk (h.ok.ok e he).word]
    exact fitE_mem h.ok he
  show (isFolkT (.tup ts) && ((Tg.int age).within 0 9999 && (decide (((ens zs).map entT).length ≤ 16) && (((ens zs).map entT).all (isEntT (lenT (.tup ts))) && (decide ((wdT ((ens zs).map entT)).length = ((ens zs).map entT).length) && ((ens zs).map entT).all (fitT (wdT ((ens zs).map entT)))))))) = true
  rw [h1, h2, h3, h4, h5, h7, List.length_map, hl, decide_eq_true h.len]
  have h8 : (wdk (ens zs)).length = zs.length := by
    rw [← hl]
    exact List.length_map _
  rw [h8, decide_eq_true rfl]
  rfl
end Deed

namespace Deed
open PySem PySem.Spec PyProof.Rows L2 LamX TL TX
theorem up_pair : ∀ {l m : List (Addr × En)}, l.Pairwise (fun u v => u.2.num < v.2.num) → m.Pairwise (fun u v => u.2.num < v.2.num) → l.Perm m → l = m
  | [], m, _, _, p => (List.nil_perm.mp p).symm
  | a :: l, [], _, _, p => absurd p.length_eq (by simp)
  | a :: l, b :: m, h1, h2, p => by
    rw [List.pairwise_cons] at h1 h2
    have e : a = b := by
      rcases List.mem_cons.mp (p.mem_iff.mp (List.mem_cons_self (a := a) (l := l))) with h | h
      · exact h
      · rcases List.mem_cons.mp (p.mem_iff.mpr (List.mem_cons_self (a := b) (l := m))) with g | g
        · exact g.symm
        · have := h1.1 _ g
          have := h2.1 _ h
          omega
    subst e
    rw [up_pair h1.2 h2.2 ((List.perm_cons a).mp p)]
/-- a person as the document asks -/
def PerOk (q : Int × Option Int) : Prop := -9999 ≤ q.1 ∧ q.1 ≤ 9998 ∧ ∀ i, q.2 = some i → q.1 < i ∧ i ≤ 9999
theorem PerOk.s {q : Int × Option Int} (h : PerOk q) : PerS q := ⟨small_of (by have := h.1; omega) (by have := h.2.1; omega), fun i e => by
  have h1 := h.2.2 i e
  have h2 := h.1
  exact small_of (by omega) (by omega)⟩
theorem entS_of {n : Nat} {es : List En} (hb : BkOk n es) (hn : n ≤ 6) : ∀ e ∈ es, EntS e ∧ WordOk e := fun e he => by
  have hr := hb.rng e he
  obtain ⟨⟨a1, a2⟩, ⟨b1, b2⟩, ⟨c1, c2⟩, hk⟩ := hb.ok e he
  have in_dn : ∀ x ∈ dn es, small x := fun x hx => by
    obtain ⟨e', h1, h2⟩ := mem_dn.mp hx
    have := hb.rng e' h1
    rw [h2.2] at this
    exact small_of (by omega) (by omega)
  have in_an : ∀ x ∈ an es, small x := fun x hx => by
    obtain ⟨e', h1, h2⟩ := mem_an.mp hx
    have := hb.rng e' h1
    rw [h2.2] at this
    exact small_of (by omega) (by omega)
  unfold EntS TailOk WordOk En.word
  cases hd : e.kd with
  | deed g t rs ws =>
    rw [hd] at hk
    obtain ⟨⟨g1, g2⟩, ⟨t1, t2⟩, _, r1, _, r2, w1, _, w2⟩ := hk
    refine ⟨⟨small_of (by omega) (by omega), small_of (by omega) (by omega), small_of (by omega) (by omega), small_of (by omega) (by omega), small_of (by omega) (by omega), small_of (by omega) (by omega), ⟨by omega, fun i hi => in_dn i (r2 i hi).1⟩, ⟨by omega, fun i hi => ?_⟩⟩, .inl rfl⟩
    have := w2 i hi
    exact small_of (by omega) (by omega)
  | act x o =>
    rw [hd] at hk
    obtain ⟨hx, _⟩ := hk
    refine ⟨⟨small_of (by omega) (by omega), small_of (by omega) (by omega), small_of (by omega) (by omega), small_of (by omega) (by omega), ?_, ?_⟩, ?_⟩
    · rcases hx with ⟨_, ho⟩ | ⟨_, ho⟩
      · exact in_an o ho
      · exact in_dn o ho
    · rcases hx with ⟨h, _⟩ | ⟨h | h, _⟩
      · exact .inr (.inr h)
      · exact .inl h
      · exact .inr (.inl h)
    · rcases hx with ⟨h, _⟩ | ⟨h | h, _⟩
      · exact .inr (.inr (.inr h))
      · exact .inr (.inl h)
      · exact .inr (.inr (.inl h))
theorem folk_of {H : Hp} {fk : Addr} {pz : List (Addr × Int × Option Int)} (h : FolkZ H fk pz) (hp : ∀ q ∈ pz.map (·.2), PerOk q) : FolkAt H fk pz.length := by
  refine ⟨_, h.at_, by rw [List.length_map], fun x hx => ?_⟩
  obtain ⟨z, hz, rfl⟩ := List.mem_map.mp hx
  obtain ⟨h1, _, _⟩ := h.per z hz
  obtain ⟨g1, g2, g3⟩ := hp z.2 (List.mem_map_of_mem (f := (·.2)) hz)
  refine ⟨z.1, z.2.1, dV z.2.2, rfl, h1, g1, g2, ?_⟩
  cases hd : z.2.2 with
  | none => exact .inl rfl
  | some i => exact .inr ⟨i, rfl, (g3 i hd).1, (g3 i hd).2⟩
section
variable {P : Program} {w : World} {K : PySem.W.Frag} {mg : Str → Option Value} {base : Heap} {T : List (Addr × Str)}
abbrev sBookRd : Stmt := topS 77
abbrev nBookRd : List Str := ["text", "book"]
abbrev pBookRd : List Str := ["text"]
theorem scBookRd : FnScope nBookRd pBookRd (defScope sBookRd) := ⟨rfl, rfl, rfl, by decide +kernel, rfl, by decide +kernel, by decide +kernel⟩
def spBookRd (T : List (Addr × Str)) : Sp := fun vs H Q _ => ∃ (ps : List (Int × Option Int)) (age : Int) (es : List En), vs = [.str (bookT ps age es)] ∧ 2 ≤ ps.length ∧ ps.length ≤ 6 ∧ (∀ q ∈ ps, PerOk q) ∧ 0 ≤ age ∧ age ≤ 9999 ∧ es.length ≤ 16 ∧ BkOk ps.length es ∧ es.Pairwise (fun u v => u.num < v.num) ∧ Tabs T H ∧
  ∀ b fk t pz (zs : List (Addr × En)) H', ExtN H H' → Tabs T H' → BookAt H' b fk t ps.length age zs → FolkZ H' fk pz → pz.map (·.2) = ps → ens zs = es → Q (.ref b) H'
theorem ok_BookRd {f : Addr} {fd : FuncData} {k : Nat} (F : Fun K "book_read" "book_read" sBookRd f fd) (C_parts_read : CallOk P w K mg base k "parts_read" pPartsRd spPartsRd) (C_is_book : CallOk P w K mg base k "is_book" pIsBk (spB1 isBookT)) (C_book_text : CallOk P w K mg base k "book_text" pBookTx (spBookTx T)) (m_isinstance : mg "isinstance" = none) (m_str : mg "str" = none) : FnOk P w K mg base CX0 (k + 1) f fd pBookRd (spBookRd T) := by
  refine F.ok scBookRd (fun vs H Q E h => ?_) (fun cdv A outer s H vs Q E hr h => ?_)
  · obtain ⟨ps, age, es, rfl, _⟩ := h
    rfl
  · obtain ⟨ps, age, es, rfl, h2, h6, hp, ha0, ha1, hel, hok, hso, hT, q⟩ := h
    have nd := scBookRd.nd
    have hage : small age := small_of (by omega) (by omega)
    refine ⟨_, pss_cons (ps_set (i := 1) nd rfl (.inl rfl) (pe_ifExp (pt_val (pe_callB call_isi (by rfl) m_isinstance (by decide +kernel) (pa_cons (pv 0) (pa_cons (pe_bltn (v := .ty "str") (by rfl) m_str (by decide +kernel) rfl) pa_nil)))) (pe_call C_parts_read.ok hr (by rfl) C_parts_read.g C_parts_read.kp C_parts_read.b .nil pass0 (pa_cons (pv 0) pa_nil)) pe_non))
      (pss_cons (ps_if (PW.pt (pw_or (pt_not (pt_val (pe_call C_is_book.ok hr (by rfl) C_is_book.g C_is_book.kp C_is_book.b .nil pass0 (pa_cons (pv 1) pa_nil)))) (pw_or1 (pt_cmpR op_ne (pe_call C_book_text.ok hr (by rfl) C_book_text.g C_book_text.kp C_book_text.b .nil pass0 (pa_cons (pv 1) pa_nil)) (pv 0) (nomark _))))) pss_never pss_nil)
      (pss_one (ps_ret (pv 1)))), ?_⟩
    refine ⟨_, rfl, _, _, .type "str", .type "str", true, rfl, .ty "str", .base (.str _), kit_ty (by decide +kernel), _, rfl, ?_⟩
    refine iteT ?_
    refine ⟨_, rfl, ps, age, es, rfl, h6, fun u hu => (hp u hu).s, hage, hel, entS_of hok h6, fun o fk t pz zs H1 s1 eo hF hpz et hes hz => ?_⟩
    have hpl : pz.length = ps.length := by rw [← hpz, List.length_map]
    have hzl : zs.length = es.length := by rw [← hes, List.length_map]
    have hB : BookAt H1 o fk t ps.length age zs := ⟨eo, by rw [← hpl]; exact folk_of hF (by rw [hpz]; exact hp), h2, h6, ha0, ha1, et, hz, by rw [hes]; exact hok, by omega⟩
    obtain ⟨tb, htb, hib⟩ := book_tg (p := o) hB
    refine ⟨_, rfl, o, _, tb, rfl, htb, fun H2 s2 => ⟨_, rfl, ?_⟩⟩
    rw [hib]
    refine iteF ?_
    have T2 := (hT.ext s1).ext s2
    refine ⟨_, rfl, o, fk, t, ps.length, age, zs, pz, rfl, hB.kp (Same.tup s2), hF.kp (Same.tup s2), T2, fun zs' H3 e3 T3 pm so => ?_⟩
    have hso' : zs.Pairwise (fun u v => u.2.num < v.2.num) := by
      have := hso
      rw [← hes] at this
      exact (List.pairwise_map (f := fun z : Addr × En => z.2) (R := fun u v : En => u.num < v.num)).mp this
    have hzz : zs' = zs := up_pair so hso' pm
    subst hzz
    refine ⟨_, rfl, rfl, _, rfl, ?_⟩
    rw [hpz, hes, decide_eq_true rfl]
    refine iteF ?_
    have e13 : ExtN H1 H3 := (ExtN.of s2).trans e3
    exact ⟨_, rfl, q o fk t pz zs' H3 ((ExtN.of s1).trans e13) T3 (hB.kp (ExtN.tup e13)) (hF.kp (ExtN.tup e13)) hpz hes⟩
end
end Deed

namespace Deed
open PySem PySem.Spec PyProof.Rows L2 LamX
/-! ### refusals: promises of defs that may raise; a def that calls what it got and tells what was raised -/
section
variable {P : Program} {w : World} {K : PySem.W.Frag} {mg : Str → Option Value} {base : Heap} {k : Nat} {f : Addr} {fd : FuncData} {ps : List Str} {sp sp' : Sp}
theorem FnOk.toX (F : FnOk P w K mg base L2.CX0 k f fd ps sp) : FnOk P w K mg base (L2.CX P w) k f fd ps sp :=
  ⟨F.len, fun A outer s H args us vs Q E hr he hb hv hs => codeAny_mono (F.run A outer s H args us vs Q E hr he hb hv hs) fun r s' hq => by
    cases r with
    | error e => exact (show False from hq).elim
    | ok fl => cases fl <;> exact hq⟩
def orSp (a b : Sp) : Sp := fun vs H Q E => a vs H Q E ∨ b vs H Q E
theorem FnOk.or {CX : CXT} (F : FnOk P w K mg base CX k f fd ps sp) (G : FnOk P w K mg base CX k f fd ps sp') : FnOk P w K mg base CX k f fd ps (orSp sp sp') :=
  ⟨fun vs H Q E h => h.elim (F.len vs H Q E) (G.len vs H Q E), fun A outer s H args us vs Q E hr he hb hv hs => hs.elim (F.run A outer s H args us vs Q E hr he hb hv) (G.run A outer s H args us vs Q E hr he hb hv)⟩
end
/-- an own class of refusals over ValueError, made with a text -/
structure ExcCl (K : PySem.W.Frag) (mg : Str → Option Value) (x : Str) (C : Addr) : Prop where
  xP : PySem.W.excIn K C [.type "ValueError", .type "Exception", .type "BaseException", .type "object"] "ValueError.__new__" = true
  gP : mg x = some (.ref C)
  kP : PySem.W.keepIn K (.ref C) = true
  bP : PySem.W.subIn K (.ref C) (.type "BaseException") = some true
  tP : PySem.W.typeIn K (.ref C) = some (.type "type")
  eP : PySem.W.exmOne K (.ref C) (.ref C) = some true
/-- a def that may raise -/
structure CallX (P : Program) (w : World) (K : PySem.W.Frag) (mg : Str → Option Value) (base : Heap) (L : Nat) (x : Str) (ps : List Str) (sp : Sp) where
  f : Addr
  fd : FuncData
  g : mg x = some (.ref f)
  kp : PySem.W.keepIn K (.ref f) = true
  b : Binds K fd ps []
  ok : FnOk P w K mg base (L2.CX P w) L f fd ps sp
def CallX.mono {P : Program} {w : World} {K : PySem.W.Frag} {mg : Str → Option Value} {base : Heap} {L L' : Nat} {x : Str} {ps : List Str} {sp : Sp} (c : CallX P w K mg base L x ps sp) (h : L ≤ L') : CallX P w K mg base L' x ps sp := ⟨c.f, c.fd, c.g, c.kp, c.b, c.ok.mono h⟩
def Df.callX {P : Program} {w : World} {K : PySem.W.Frag} {mg : Str → Option Value} {base : Heap} {L : Nat} {x : Str} {st : Stmt} {ps : List Str} {f : Addr} {fd : FuncData} {sp : Sp} (D : Df K mg x st ps f fd) (G : FnOk P w K mg base (L2.CX P w) L f fd ps sp) : CallX P w K mg base L x ps sp := ⟨f, fd, D.g, D.F.kp, D.b, G⟩
/-- the words for what is raised, class by class -/
def chain (K : PySem.W.Frag) (Q : VK) : List (Addr × Str) → XK
  | [] => fun _ _ _ => False
  | (C, z) :: r => fun cls d H => ∃ b, PySem.W.exmOne K cls (.ref C) = some b ∧ (b = true → Q (.str z) H) ∧ (b = false → chain K Q r cls d H)
def TWhy (K : PySem.W.Frag) (l : List (Addr × Str)) (ret : Str) : (XK → Hp → VK → Prop) → Hp → VK → Prop := fun tl H Q => tl (chain K Q l) H (fun _ H' => Q (.str ret) H')
theorem chain_many {K : PySem.W.Frag} {Q : VK} {D : Ends} (hD : D.rt = Q) : ∀ {l : List (Addr × Str)} {cls : Value} {d : Option Addr} {σ : L2.St} {H : Hp}, chain K Q l cls d H → wMany K (fun _ _ _ _ => False) D (l.map fun p => (Value.ref p.1, fun _ _ _ => tRet (tC (.str p.2)))) cls d σ H
  | [], _, _, _, _, h => h
  | (C, z) :: r, cls, d, σ, H, h => by
    obtain ⟨b, e1, e2, e3⟩ := h
    exact ⟨b, e1, fun hb a _ => by
      show D.rt (.str z) H
      rw [hD]
      exact e2 hb, fun hb => chain_many hD (e3 hb)⟩
section
variable {X : Cx}
theorem why_gives {Ng : List Str} {x a q ret : Str} {sg : Scope} {g : Addr} {cdg : Value} {j : Nat} {p1 p2 p3 p5 p6 p8 : Pos} {h0 : ExceptHandler} {hds : List ExceptHandler} {l : List (Addr × Str)} (hst : ∀ f : Addr, (L2.start Ng [V.ref f])[0]? = some (some (V.ref f)))
    (hh : ∀ s H, HdsOk (cxOf C8.CX0 X.prog X.w X.K X.mg X.base Ng x sg g cdg X.A X.stack s H C8.E0).nox (h0 :: hds) (l.map fun p => (Value.ref p.1, fun _ _ _ => tRet (tC (.str p.2))))) :
    GivesTo X Ng x sg g cdg [.Try [.Expr (.Call (.Name a p1) [] [] p2) p3] (h0 :: hds) [] [] p8, .Return (some (.Constant (.str ret) j p5)) p6] a q (TWhy X.K l ret) := by
  intro f c' s H Q tl act hc h
  refine ⟨_, pss_cons (ps_try_many (X := (cxOf C8.CX0 X.prog X.w X.K X.mg X.base Ng x sg g cdg X.A X.stack s H C8.E0).nox) (Wout := fun _ _ _ _ => False) (l := l.map fun p => (Value.ref p.1, fun _ _ _ => tRet (tC (.str p.2))))
      (tb := fun W D σ H => ∃ Ech : XK, (∀ cls d σ' H', Ech cls d H' → W cls d σ' H') ∧ σ[0]? = some (some (.ref f)) ∧ H c' = some (CodeO c' q) ∧ tl Ech H (fun _ H' => D.nx σ H'))
      rfl rfl LamX.takes0 (fun W pn xe tk _ => ?_) (hh s H)) (pss_one (ps_ret pe_str)), ?_⟩
  · refine ⟨fun pins s' σ H' D I h' => ?_⟩
    obtain ⟨Ech, hW, h1, h2, h3⟩ := h'
    have hp := act W pn xe Ech p1 p2 tk hW
    have hq := pss_one (ps_expr (pos := p3) hp)
    exact hq.run pins s' σ H' D I ⟨h1, h2, h3⟩
  · exact ⟨chain X.K Q l, fun cls d σ' H' hc => chain_many rfl hc, hst f, hc, h⟩
end
mutual
theorem TgAt.ext {p : Addr} {H H' : Hp} (k : ExtN H H') : ∀ (t : Tg) (v : V), TgAt p H v t → TgAt p H' v t
  | .non, _, h => by cases h; exact .non
  | .bl _, _, h => by cases h; exact .bl _
  | .int _, _, h => by cases h; exact .int _
  | .str _, _, h => by cases h; exact .str _
  | .lst, _, h => by
    cases h with
    | lst n e => exact .lst n (k _ _ e fun _ z => by cases z)
  | .tup ts, _, h => by
    cases h with
    | tup e ha => exact .tup (k _ _ e fun _ z => by cases z) (TgAll.ext k ts _ ha)
  | .dct, _, h => by
    cases h with
    | dct n e => exact .dct n (k _ _ e fun _ z => by cases z)
theorem TgAll.ext {p : Addr} {H H' : Hp} (k : ExtN H H') : ∀ (ts : List Tg) (vs : List V), TgAll p H vs ts → TgAll p H' vs ts
  | [], _, h => by cases h; exact .nil
  | t :: ts, _, h => by
    cases h with
    | cons h1 h2 => exact .cons (TgAt.ext k t _ h1) (TgAll.ext k ts _ h2)
end
end Deed

namespace Deed
open PySem PySem.Spec PyProof.Rows L2 LamX
/-! ### rules that lacked: a list against the empty one, t.index(number), len(set) -/
section
variable {X : Cx}
/-- list == [] -/
def rEqLE (K : PySem.W.Frag) (neg : Bool) : R2 := fun x y H Q => ∃ a b xs, x = .ref a ∧ y = .ref b ∧ SqL K H a xs ∧ SqL K H b [] ∧ Q (.bl (if neg then !xs.isEmpty else xs.isEmpty)) H
theorem op_neLE (hu : X.A.units + 64 < cLine) : OpR X (compareOp .NotEq) (rEqLE X.K true) := by
  intro pins s σ H x y v u Q I rx ry h
  obtain ⟨a, b, xs, rfl, rfl, ha, hb, q⟩ := h
  cases rx
  cases ry
  obtain ⟨its, r, pl, hz⟩ := I.list ha
  obtain ⟨its2, r2, pl2, hz2⟩ := I.list hb
  cases r2
  have hl := r.length
  cases xs with
  | nil =>
    have : its = [] := List.eq_nil_of_length_eq_zero (by rw [← hl]; rfl)
    subst this
    exact SeqAt.RcNeAt.lists (e := fun _ => true) pl.isList pl2.isList rfl (by omega) (fun j h1 h2 => absurd h2 (by simp)) X.prog X.w _ _ ⟨.bl _, H, I, rfl, q⟩
  | cons x xs =>
    cases its with
    | nil => simp at hl
    | cons i is => exact SeqAt.RcNeAt.lists_lengths pl.isList pl2.isList (by simp) (by omega) X.prog X.w _ _ ⟨.bl _, H, I, rfl, q⟩
theorem op_eqLE (hu : X.A.units + 64 < cLine) : OpR X (compareOp .Eq) (rEqLE X.K false) := by
  intro pins s σ H x y v u Q I rx ry h
  obtain ⟨a, b, xs, rfl, rfl, ha, hb, q⟩ := h
  cases rx
  cases ry
  obtain ⟨its, r, pl, hz⟩ := I.list ha
  obtain ⟨its2, r2, pl2, hz2⟩ := I.list hb
  cases r2
  have hl := r.length
  cases xs with
  | nil =>
    have : its = [] := List.eq_nil_of_length_eq_zero (by rw [← hl]; rfl)
    subst this
    exact SeqAt.RcAt.lists (e := fun _ => true) pl.isList pl2.isList rfl (by omega) (fun j h1 h2 => absurd h2 (by simp)) X.prog X.w _ _ ⟨.bl _, H, I, rfl, q⟩
  | cons x xs =>
    cases its with
    | nil => simp at hl
    | cons i is => exact SeqAt.RcAt.lists_lengths pl.isList pl2.isList (by simp) (by omega) X.prog X.w _ _ ⟨.bl _, H, I, rfl, q⟩
/-- t.index(number), which is there -/
def rTupIx (K : PySem.W.Frag) : V → List V → Hp → VK → Prop := fun x xs H Q => ∃ (p : Addr) (ns : List Int) (k : Int), x = .ref p ∧ xs = [.int k] ∧ SqT K H p (ns.map V.int) ∧ k ∈ ns ∧ Q (.int (ns.idxOf k : Nat)) H
theorem mt_tupIx : MtR X "tuple.index" (rTupIx X.K) := by
  intro pins s σ H x xs v us Q I rx rs h
  obtain ⟨p, ns, k, rfl, rfl, hq, hk, q⟩ := h
  cases rx
  obtain ⟨u, rfl, t, rfl⟩ := vals1 rs
  obtain ⟨its, r, pl, hz⟩ := I.tuple hq
  exact SeqAt.tuple_index_ints pl (by simpa using r.ints) hk ⟨.int _, H, I.tok _, ⟨_, rfl⟩, q⟩
/-- len(a set of numbers) -/
def rLenSet (w : World) : List V → Hp → VK → Prop := fun xs H Q => ∃ (a : Addr) (S : Int → Bool) (n : Nat), xs = [.ref a] ∧ H a = some (SetO w a S n) ∧ n < 100000 ∧ ((∀ ks : List Int, ks.Nodup → (∀ k : Int, k ∈ ks ↔ S k = true) → ks.length = n) → Q (.int n) H)
theorem nodup_same : ∀ {l m : List Int}, l.Nodup → m.Nodup → (∀ x, x ∈ l ↔ x ∈ m) → l.length = m.length := fun h1 h2 h => Nat.le_antisymm (nodup_len h1 fun x hx => (h x).mp hx) (nodup_len h2 fun x hx => (h x).mpr hx)
theorem call_lenSet : CallR X (.builtin "len") (rLenSet X.w) := by
  intro pins s σ H xs us Q I r h
  obtain ⟨a, S, n, rfl, ha, hn, q⟩ := h
  rw [Vals.ref1 r]
  obtain ⟨o, es, ep, t, ho, hex, hd, g, nd, hm, hb, hf, hn', _⟩ := setO_get I ha
  refine call_len_set ho hex hd hf (by omega) ⟨.int n, H, (I.tok _), ⟨_, by rw [hn']⟩, q fun ks k1 k2 => ?_⟩
  rw [← hn', nodup_same k1 nd fun x => (k2 x).trans (hm x), List.length_map, Array.length_toList]
end
end Deed
namespace L2
open PySem PySem.Spec PyProof.Rows
/-! ### tuple * number, one too -/
theorem tuple_mul1 (l : Addr) (items : Array Value) (n : Nat) (dd : Option Addr) (sl : Array (Option Value)) (u : Tok) :
    Meets (Builtin.«tuple.__mul__» ⟨[.ref l, .int 1 u], []⟩) (fun _ R s => s.heap.get? l = some { cls := .type "tuple", dict := dd, data := .seq items n, slots := sl } ∧
      R (.ok (.ret (Value.ref l))) s) :=
  .of_wp fun prog w A R s h => by
    obtain ⟨hp, g, d, tk, os⟩ := s
    obtain ⟨hl, h⟩ := h
    have f1 := AutoSeq1.idx_int
    have c0 : (decide ((1 : Int) < -(2 ^ 63)) || decide ((1 : Int) ≥ 2 ^ 63)) = false := by decide
    have c1 : (items.isEmpty || ((1 : Int) == 1)) = true := by rw [show ((1 : Int) == 1) = true from rfl, Bool.or_true]
    wp_walk using wpAny_loadPart' hl
    repeat (first
      | (refine wpAny_ite_false (decide_eq_false (by rw [c0]; exact Bool.false_ne_true)) ?_; wp_walk using wpAny_loadPart' hl)
      | (refine wpAny_ite_true (decide_eq_true (by rw [c1])) ?_; wp_walk using wpAny_loadPart' hl))
    exact ⟨_, rfl, h⟩
def rRepA (K : PySem.W.Frag) : R2 := fun x y H Q => ∃ l k xs, x = .ref l ∧ y = .int k ∧ SqT K H l xs ∧ xs ≠ [] ∧ 1 ≤ k ∧ k ≤ 1000 ∧ xs.length ≤ 1000 ∧ (k = 1 → Q (.ref l) H) ∧ (2 ≤ k → ∀ p, H p = none → Q (.ref p) (upd H p (.tup (List.replicate k.toNat xs).flatten)))
section
variable {X : Cx}
theorem op_repA : OpR X (binaryOp .Mult) (rRepA X.K) := by
  intro pins s σ H x y v u Q I rx ry h
  obtain ⟨l, k, xs, rfl, rfl, hT, hne, h1, h2, hz, q1, q2⟩ := h
  by_cases hk : k = 1
  · subst hk
    cases rx
    obtain ⟨t, rfl⟩ := ry
    obtain ⟨its, r, ⟨⟨cls, dd, data, sl⟩, ho, hc, n, hd⟩, hs⟩ := I.tuple hT
    simp only at hc hd
    subst hc hd
    refine wpAny_binaryOp_repeat_ref (T := "tuple") (U := "int") (by decide) ⟨_, ho, rfl⟩ (fun s' => typeIs_int s' 1 t) noFill_tuple_mul F.fills_int_mul F.slot_int_rmul repeat_tuple F.slot_int_index.lookup
      (call_meets F.slot_int_rmul (typeIs_int s 1 t) F.entry_int_rmul (F.args_int_rmul_2 _ _) (int_rmul_tuple 1 t l its.toArray n dd sl)
        ⟨ho, rfl, ⟨_, ho, rfl⟩, call_meets F.slot_tuple_mul ⟨_, ho, rfl⟩ F.entry_tuple_mul (F.args_tuple_mul_2 _ _) (tuple_mul1 l its.toArray n dd sl t) ⟨ho, ?_⟩⟩)
    exact ⟨.ref l, H, I, rfl, q1 rfl⟩
  · exact op_repT pins s σ H _ _ v u Q I rx ry ⟨l, k, xs, rfl, rfl, hT, hne, by omega, h2, hz, q2 (by omega)⟩
end
end L2
namespace PyProof.Rows
open PySem PySem.Spec
section
variable {prog : Program} {w : World} {A : Around} {E : Value → Shared → Prop} {s : Shared}
theorem collect_tupG {l : Addr} {vs : List Value} {Q : List Value → Shared → Prop} (hl : s.heap.IsTuple l vs.toArray)
    (h : Q vs { s with heap := (s.heap.push (seqObj "list" #[] 0)).update s.heap.objs.size (Obj.mapSeq (· ++ vs.toArray)) }) (hsz : vs.length ≤ sizeLine) :
    wpAny (model prog w) A (collect (.ref l)) Q E s := by
  obtain ⟨o, ho, hc, n, hd⟩ := id hl
  unfold collect
  refine wpAny_bind (wpAny_runValue (codeAny_builtin entry_proto_collect' ?_))
  show wpAny _ _ (do again (.builtin "list.__iadd__" ⟨[← newList [], .ref l], []⟩)) _ _ s
  refine wpAny_bind (wpAny_newList (wpAny_pure ⟨Code.quiet_builtin _ (by decide +kernel), codeAny_builtin entry_list_iadd' ?_⟩))
  show wpAny _ _ (Builtin.List.listExtendWith (.ref s.heap.objs.size) (.ref l) (.ref s.heap.objs.size)) _ _ { s with heap := s.heap.push (seqObj "list" #[] 0) }
  unfold Builtin.List.listExtendWith
  have ho' : (s.heap.push (seqObj "list" #[] 0)).get? l = some o := Heap.get?_push_of_some _ ho
  refine wpAny_bind (wpAny_typeOf (T := "tuple") ⟨o, ho', hc⟩ ?_)
  have ht : (Value.type "tuple" == Value.type "tuple") = true := by rfl
  rw [if_pos (by rw [ht]; simp)]
  refine wpAny_bind (listItems_at ho' hd ?_)
  refine wpAny_bind (listItems_at (xs := #[]) (n := 0) (Heap.get?_push_size _ rfl) rfl ?_)
  rw [if_neg (by simp)]
  refine wpAny_bind (listUpdate_at (xs := #[]) (n := 0) (Heap.get?_push_size _ rfl) rfl ?_ (Nat.zero_le _) (by show (#[] ++ vs.toArray).size ≤ sizeLine + 1; simp only [Array.size_append, List.size_toArray, List.length_nil]; omega))
  refine wpAny_pure ?_
  show wpAny (model prog w) A (do
      let o ← load s.heap.objs.size
      match o.data with
      | .seq xs _ => pure xs.toList
      | _ => unsupported "internal:collect") Q E { s with heap := (s.heap.push (seqObj "list" #[] 0)).update s.heap.objs.size (Obj.mapSeq (· ++ vs.toArray)) }
  refine wpAny_bind (wpAny_load (get?_update_seq (Heap.get?_push_size _ rfl) _) ?_)
  show wpAny _ _ (pure ((#[] : Array Value) ++ vs.toArray).toList) Q E _
  rw [show ((#[] : Array Value) ++ vs.toArray).toList = vs by simp]
  exact wpAny_pure h
theorem sorted_intsT {l : Addr} {vs : List Value} {ns : List Int} {Q : Value → Shared → Prop} (hl : s.heap.IsTuple l vs.toArray) (hI : IntsAre vs ns) (h64 : vs.length < 64)
    (h : ∀ (out : Array Value) (ns' : List Int), IntsAre out.toList ns' → ns'.Perm ns → ns'.Pairwise (· ≤ ·) → Q (.ref (s.heap.objs.size + 1)) { s with heap := sortedAll s.heap vs out }) :
    wpAny (model prog w) A (call (.builtin "sorted") [.ref l]) Q E s := by
  refine Calls.call_function_entry kind_sorted plain_sorted entry_sorted (args_sorted1 _) ?_
  unfold Builtin.«sorted»
  refine wpAny_bind (m := checkCount "sorted" 1 1 _) (wpAny_pure ?_)
  refine wpAny_bind (collect_tupG hl ?_ (by rw [sizeLine_eq]; omega))
  refine wpAny_bind (wpAny_newList ?_)
  have hsz : ((s.heap.push (seqObj "list" #[] 0)).update s.heap.objs.size (Obj.mapSeq (· ++ vs.toArray))).objs.size = s.heap.objs.size + 1 := by
    rw [Heap.size_update, size_push']
  have hoL : (((s.heap.push (seqObj "list" #[] 0)).update s.heap.objs.size (Obj.mapSeq (· ++ vs.toArray))).push (seqObj "list" vs.toArray 0)).get? (s.heap.objs.size + 1) = some (seqObj "list" vs.toArray 0) := by
    rw [← hsz]; exact Heap.get?_push_size _ rfl
  show wpAny _ _ _ _ _ { s with heap := ((s.heap.push (seqObj "list" #[] 0)).update s.heap.objs.size (Obj.mapSeq (· ++ vs.toArray))).push (seqObj "list" vs.toArray 0) }
  rw [hsz]
  refine wpAny_bind (wpAny_holding (wpAny_call_entry slot_list_sort ⟨_, hoL, rfl⟩ entry_list_sort (list_sort_tree hoL hI h64 fun out ns' a1 a2 a3 => ⟨_, rfl, ?_⟩) (args_list_sort _)))
  exact wpAny_pure ⟨_, rfl, h out ns' a1 a2 a3⟩
end
end PyProof.Rows
namespace L2
open PySem PySem.Spec PyProof.Rows
section
variable {X : Cx}
/-- sorted(t), t a tuple of numbers -/
def rSortedTu (K : PySem.W.Frag) : List V → Hp → VK → Prop := fun vs H Q => ∃ (a : Addr) (ns : List Int), vs = [V.ref a] ∧ SqT K H a (ns.map V.int) ∧ ns.length < 64 ∧ ∀ (ns' : List Int) (p : Addr), ns'.Perm ns → ns'.Pairwise (· ≤ ·) → H p = none → Q (.ref p) (upd H p (.lst (ns'.map V.int)))
theorem cr_sortedTu : CallR X (.builtin "sorted") (rSortedTu X.K) := by
  intro pins s σ H vs us Q I r h
  obtain ⟨a, ns, rfl, hs, h64, q⟩ := h
  obtain ⟨its, rv, hl, _⟩ := I.tuple hs
  rw [Vals.ref1 r]
  have hi := rv.ints
  refine PyProof.Rows.sorted_intsT hl hi (by rw [hi.length]; exact h64) fun out ns' h1 h2 h3 => ?_
  obtain ⟨ep, he'⟩ := PyProof.Rows.sortedAll_at s.heap its out
  have hlen : (ns'.map V.int).length ≤ sizeLine := by rw [List.length_map, h2.length_eq]; exact small64 h64
  exact ⟨.ref _, upd H (s.heap.objs.size + 1) (.lst (ns'.map V.int)), I.laid (t' := s.toks) (fun _ _ => PyProof.Rows.sortedAll_old) (Nat.le_succ _) ⟨hlen, out.toList, ep, vals_of_ints h1, he'⟩, rfl, q ns' _ h2 h3 (I.hok.fresh (Nat.le_succ _))⟩
end
end L2

namespace Deed
section
open PySem PySem.Spec PySem.W PyProof.Rows L2 LamX
/-! ### entries by their numbers, in pairs -/
def pairD (e : En) : PyData := .tuple [.int e.num, entD e]
theorem alike_ent (e u : En) : alike (entD e) (entD u) = true := by
  unfold entD
  cases e.kd <;> cases u.kd <;> simp [alike, alikeAll, alike_ints]
theorem alike_pair (e u : En) : alike (pairD e) (pairD u) = true := by
  unfold pairD
  simp [alike, alikeAll, alike_ent]
theorem lt_pair {e u : En} (h : e.num < u.num) : dataLt (pairD e) (pairD u) = true := by
  unfold pairD
  rw [dataLt_tuple, dataLt_all_no (by simp [alike]) (by simp [PyData.eqv]; omega), dataLt_int]
  exact decide_eq_true h
theorem depth_pair (e : En) : (pairD e).depth ≤ 8 := by
  have h := depth_ent e
  unfold pairD
  simp only [PyData.depth, PyData.depthAll]
  omega
theorem depth_pairs : ∀ es : List En, PyData.depthAll (es.map pairD) ≤ 9
  | [] => by simp [PyData.depthAll]
  | e :: r => by
    have h1 := depth_pair e
    have h2 := depth_pairs r
    simp only [List.map_cons, PyData.depthAll]
    omega
theorem lay_pairs {n : Nat} {ds as : List Int} : ∀ es : List En, (∀ e ∈ es, EnOk n ds as e) → PyData.canLayAll0 (es.map pairD) = true
  | [], _ => by simp [PyData.canLayAll0]
  | e :: r, h => by
    have h1 := (h e List.mem_cons_self).lay
    simp [pairD, PyData.canLayAll0, PyData.canLay0, h1, lay_pairs r fun x hx => h x (List.mem_cons_of_mem _ hx)]
theorem shaped_pairs {n : Nat} {ds as : List Int} (es : List En) (h : ∀ e ∈ es, EnOk n ds as e) : SeqAt.shaped (.list (es.map pairD)) = true := by
  have h1 := depth_pairs es
  have h2 : PyData.depth (.list (es.map pairD)) ≤ 64 := by
    simp only [PyData.depth]
    omega
  show (PyData.canLay0 (.list (es.map pairD)) && decide (PyData.depth (.list (es.map pairD)) ≤ 64)) = true
  rw [Bool.and_eq_true]
  exact ⟨by simp only [PyData.canLay0]; exact lay_pairs es h, decide_eq_true h2⟩
theorem eqv_pairs (es : List En) : PyData.eqv (.list (es.map pairD)) (.list (es.map pairD)) = true := by
  refine eqv_refl_alike _ ?_
  simp only [alike]
  induction es with
  | nil => rfl
  | cons e r ih => rw [List.map_cons, alikeAll, alike_pair, ih]; rfl
end
open PySem PySem.Spec PyProof.Rows L2 LamX
section
variable {P : Program} {w : World} {K : PySem.W.Frag} {mg : Str → Option Value} {base : Heap} {T : List (Addr × Str)}
def spLByNum (K : PySem.W.Frag) : Sp := fun vs H Q _ => ∃ (b fk t : Addr) (n : Nat) (age : Int) (zs : List (Addr × En)), vs = [.ref b] ∧ BookAt H b fk t n age zs ∧ ∀ l (ys : List En) H', Same H H' → ys.Perm (ens zs) → ys.Pairwise (fun u v => u.num < v.num) → Dp K H' (.ref l) (.list (ys.map pairD)) → Q (.ref l) H'
end
end Deed

namespace Deed
section
open PySem PySem.Spec PySem.W PyProof.Rows L2 LamX
theorem eqv_ent_ne {e u : En} (h : e.num ≠ u.num) : PyData.eqv (entD e) (entD u) = false := by
  unfold entD
  cases e.kd <;> cases u.kd <;> simp [PyData.eqv, PyData.eqvAll, h]
end
open PySem PySem.Spec PyProof.Rows L2 LamX
theorem EnOk.names_lt {n : Nat} {ds as : List Int} {e : En} (h : EnOk n ds as e) {m : Int} (hm : m ∈ e.names) : m < e.num ∧ (m ∈ ds ∨ m ∈ as) := by
  have h4 := h.2.2.2
  unfold En.names at hm
  cases hk : e.kd with
  | deed g t rs ws =>
    rw [hk] at h4 hm
    exact ⟨(h4.2.2.2.2.2.1 m hm).2, .inl (h4.2.2.2.2.2.1 m hm).1⟩
  | act x o =>
    rw [hk] at h4 hm
    rw [List.mem_singleton.mp hm]
    rcases h4.1 with ⟨_, z⟩ | ⟨_, z⟩
    · exact ⟨h4.2, .inr z⟩
    · exact ⟨h4.2, .inl z⟩
theorem BkOk.grow {n : Nat} {es fs : List En} {e : En} (h : BkOk n es) (hf : BkOk n fs) (hsub : ∀ u ∈ fs, u ∈ es) (he : e ∈ es) (hno : e.num ∉ fs.map (·.num)) (hnm : ∀ m ∈ e.names, ∃ u ∈ fs, u.num = m) : BkOk n (fs ++ [e]) := by
  have m1 : ∀ y ∈ dn fs, y ∈ dn (fs ++ [e]) := fun y hy => by rw [dn_app]; exact List.mem_append.mpr (.inl hy)
  have m2 : ∀ y ∈ an fs, y ∈ an (fs ++ [e]) := fun y hy => by rw [an_app]; exact List.mem_append.mpr (.inl hy)
  refine ⟨?_, fun x hx => ?_, fun x hx => ?_⟩
  · rw [List.map_append, List.nodup_append]
    refine ⟨hf.nd, by simp, fun a ha b hb => ?_⟩
    rw [List.map_cons, List.map_nil, List.mem_singleton] at hb
    rw [hb]
    exact fun z => hno (z ▸ ha)
  · rcases List.mem_append.mp hx with hx | hx
    · exact hf.rng x hx
    · rw [List.mem_singleton.mp hx]
      exact h.rng e he
  · rcases List.mem_append.mp hx with hx | hx
    · exact (hf.ok x hx).mono m1 m2
    · rw [List.mem_singleton.mp hx]
      refine (h.ok e he).less (fun y hy hd => m1 y ?_) (fun y hy hd => m2 y ?_)
      · obtain ⟨u, hu, rfl⟩ := hnm y hy
        obtain ⟨v, hv, h1, h2⟩ := mem_dn.mp hd
        rw [num_one h.nd hv (hsub u hu) h2] at h1
        exact mem_dn.mpr ⟨u, hu, h1, rfl⟩
      · obtain ⟨u, hu, rfl⟩ := hnm y hy
        obtain ⟨v, hv, h1, h2⟩ := mem_an.mp hd
        rw [num_one h.nd hv (hsub u hu) h2] at h1
        exact mem_an.mpr ⟨u, hu, h1, rfl⟩
theorem least_en : ∀ {l : List (Addr × En)}, l ≠ [] → ∃ z ∈ l, ∀ u ∈ l, z.2.num ≤ u.2.num
  | [], h => absurd rfl h
  | [a], _ => ⟨a, by simp, fun u hu => by rw [List.mem_singleton.mp hu]; exact Int.le_refl _⟩
  | a :: b :: r, _ => by
    obtain ⟨z, hz, hm⟩ := least_en (l := b :: r) (by simp)
    by_cases h : a.2.num ≤ z.2.num
    · refine ⟨a, by simp, fun u hu => ?_⟩
      rcases List.mem_cons.mp hu with rfl | hu
      · exact Int.le_refl _
      · exact Int.le_trans h (hm u hu)
    · refine ⟨z, List.mem_cons_of_mem _ hz, fun u hu => ?_⟩
      rcases List.mem_cons.mp hu with rfl | hu
      · omega
      · exact hm u hu
theorem EnOk.neD {n : Nat} {ds as : List Int} {e : En} (h : EnOk n ds as e) : ∀ x o, e.kd = .act x o → x ≠ "deed" := h.wk.neD
/-- of what is left, the least may come next -/
theorem next_ok {n : Nat} {zs fs ls : List (Addr × En)} (hB : BkOk n (ens zs)) (h16 : zs.length ≤ 16) (hf : BkOk n (ens fs)) (pm : (fs ++ ls).Perm zs) (hne : ls ≠ []) : ∃ z ∈ ls, dueS n (ens fs) z.2 = "ok" := by
  obtain ⟨z, hz, hm⟩ := least_en hne
  have hin : ∀ y ∈ fs ++ ls, y.2 ∈ ens zs := fun y hy => List.mem_map.mpr ⟨y, pm.mem_iff.mp hy, rfl⟩
  have hez := hin z (List.mem_append.mpr (.inr hz))
  have nd : ((ens (fs ++ ls)).map (·.num)).Nodup := ((pm.map Prod.snd).map (·.num)).nodup_iff.mpr hB.nd
  rw [show ens (fs ++ ls) = ens fs ++ ens ls by simp [ens], List.map_append, List.nodup_append] at nd
  refine ⟨z, hz, due_good (hB.grow hf (fun u hu => ?_) hez (fun q => ?_) fun m hmm => ?_) ?_ (hB.ok z.2 hez).neD⟩
  · obtain ⟨y, hy, rfl⟩ := List.mem_map.mp hu
    exact hin y (List.mem_append.mpr (.inl hy))
  · exact nd.2.2 _ q _ (List.mem_map.mpr ⟨z.2, List.mem_map.mpr ⟨z, hz, rfl⟩, rfl⟩) rfl
  · obtain ⟨hlt, hw⟩ := (hB.ok z.2 hez).names_lt hmm
    obtain ⟨u, hu, rfl⟩ : ∃ u ∈ ens zs, u.num = m := by
      rcases hw with h | h
      · obtain ⟨u, hu, _, e⟩ := mem_dn.mp h
        exact ⟨u, hu, e⟩
      · obtain ⟨u, hu, _, e⟩ := mem_an.mp h
        exact ⟨u, hu, e⟩
    obtain ⟨y, hy, rfl⟩ := List.mem_map.mp hu
    rcases List.mem_append.mp (pm.mem_iff.mpr hy) with h | h
    · exact ⟨y.2, List.mem_map.mpr ⟨y, h, rfl⟩, rfl⟩
    · have := hm y h
      omega
  · have h1 := pm.length_eq
    rw [List.length_append] at h1
    have h2 : 0 < ls.length := List.length_pos_iff.mpr hne
    rw [List.length_map]
    omega
theorem perm_refs {ys : List V} : ∀ {zs : List (Addr × En)}, ys.Perm (refs zs) → ∃ ls : List (Addr × En), ys = refs ls ∧ ls.Perm zs := fun {zs} h => by
  have key : ∀ {xs ys : List V}, ys.Perm xs → ∀ zs : List (Addr × En), xs = refs zs → ∃ ls : List (Addr × En), ys = refs ls ∧ ls.Perm zs := by
    intro xs ys h
    induction h with
    | nil => exact fun zs e => ⟨zs, e, List.Perm.refl _⟩
    | cons x _ ih =>
      intro zs e
      cases zs with
      | nil => cases e
      | cons z r =>
        injection e with e1 e2
        obtain ⟨ls, h1, h2⟩ := ih r e2
        exact ⟨z :: ls, by rw [e1, h1]; rfl, h2.cons z⟩
    | swap x y l =>
      intro zs e
      match zs, e with
      | a :: b :: r, e =>
        injection e with e1 e2
        injection e2 with e2 e3
        exact ⟨b :: a :: r, by rw [e1, e2, e3]; rfl, List.Perm.swap _ _ _⟩
    | trans _ _ ih1 ih2 =>
      intro zs e
      obtain ⟨ls, h1, h2⟩ := ih2 zs e
      obtain ⟨ms, h3, h4⟩ := ih1 ls h1
      exact ⟨ms, h3, h4.trans h2⟩
  exact key h zs rfl
end Deed

namespace Deed
open PySem PySem.Spec PyProof.Rows L2
/-! ### l.remove(x) of things by == -/
theorem vals_erase : ∀ {xs : List V} {us : List Value}, Vals xs us → ∀ j, Vals (xs.eraseIdx j) (us.eraseIdx j)
  | _, _, .nil, _ => .nil
  | _, _, .cons _ h, 0 => h
  | _, _, .cons r h, j + 1 => .cons r (vals_erase h j)
def rRemD (K : PySem.W.Frag) : V → List V → Hp → VK → Prop := fun x vs H Q => ∃ (a : Addr) (xs : List V) (ds : List PyData) (y : V) (d : PyData) (j : Nat) (z : PyData), x = .ref a ∧ vs = [y] ∧ H a = some (.lst xs) ∧ DpAll K H xs ds ∧ Dp K H y d ∧ SeqAt.shaped (.list ds) = true ∧ SeqAt.shaped d = true ∧ ds[j]? = some z ∧ PyData.eqv z d = true ∧ (∀ (m : Nat) (z' : PyData), m < j → ds[m]? = some z' → PyData.eqv z' d = false) ∧ Q .non (upd H a (.lst (xs.eraseIdx j)))
theorem mt_removeD {X : Cx} (hu : X.A.units + 65 < cLine) : MtR X "list.remove" (rRemD X.K) := by
  intro pins s σ H x vs v us Q I rx rxs h
  obtain ⟨a, xs, ds, y, d, j, z, rfl, rfl, hH, hl, hy, sl, sd, hz, hzj, hno, q⟩ := h
  cases rx
  cases rxs with
  | cons ry rt =>
    rename_i uy ut
    cases rt
    obtain ⟨bs, r1⟩ := Dp.reads I d y uy hy ry
    have hxs : PyData.canLayAll0 ds = true := SeqAt.canLay_of_shaped sl
    have hroom : X.A.units + 1 + min (PyData.depthAll ds) d.depth < cLine := room_in_shaped sd hu
    obtain ⟨hz0, its, n, rv, hll, e0⟩ := I.lstM hH
    obtain ⟨as, h4⟩ := Dp.readsAll I ds _ its hl rv
    have hn : its.length = ds.length := SeqAt.ReadsAll.length ds its as h4
    have hmap : its.map (SeqAt.readOf s.heap) = ds := SeqAt.readsAll_map ds its as hxs h4
    obtain ⟨hjd, _⟩ := List.getElem?_eq_some_iff.mp hz
    have told : ∀ (m : Nat) (hm : m < its.toArray.size) (z' : PyData), ds[m]? = some z' → SeqAt.readOf s.heap its.toArray[m] = z' := by
      intro m hm z' hz'
      have hml : m < its.length := by simpa using hm
      rw [← hmap, List.getElem?_map, List.getElem?_eq_getElem hml] at hz'
      exact (Option.some.inj hz')
    refine call_meets PySem.F.slot_list_remove ⟨_, e0, rfl⟩ PySem.F.entry_list_remove (PySem.F.args_list_remove_2 _ _)
      (SeqAt.list_removeAt a its.toArray n none #[] uy (fun u => PyData.eqv (SeqAt.readOf s.heap u) d) j (by simpa using (by omega : j < its.length)) ?hit ?hno (by rw [List.size_toArray, ← hll]; exact hz0))
      ⟨e0, SeqAt.items_eqAt (vs := its.toArray) (show ReadsAll s.heap its.toArray.toList ds as from h4) r1 hxs (SeqAt.canLay_of_shaped sd) hroom, ?_⟩
    case hit =>
      rw [told j _ z hz]
      exact hzj
    case hno =>
      intro m hm hmj
      have hml : m < ds.length := by rw [List.size_toArray] at hm; omega
      rw [told m hm ds[m] (List.getElem?_eq_getElem hml)]
      exact hno m _ hmj (List.getElem?_eq_getElem hml)
    refine ⟨.non, _, I.lset (its' := its.eraseIdx j) hH e0 ?_ (vals_erase rv j) ?_, rfl, q⟩
    · show its.toArray.eraseIdxIfInBounds j = (its.eraseIdx j).toArray
      rw [List.eraseIdxIfInBounds_toArray]
    · have := List.length_eraseIdx_le xs j
      omega
end Deed

namespace Deed
open PySem PySem.Spec PyProof.Rows L2 LamX
section
variable {P : Program} {w : World} {K : PySem.W.Frag} {mg : Str → Option Value} {base : Heap} {T : List (Addr × Str)}
abbrev sActW : Stmt := topS 90
abbrev nActW : List Str := ["_law_pen_here", "_law_number", "_law_deeds", "_law_acts", "_law_word", "_law_some"]
abbrev pActW : List Str := ["_law_pen_here", "_law_number", "_law_deeds", "_law_acts"]
theorem scActW : FnScope nActW pActW (defScope sActW) := ⟨rfl, rfl, rfl, by decide +kernel, rfl, by decide +kernel, by decide +kernel⟩
def spActW (K : PySem.W.Frag) : Sp := fun vs H Q _ => ∃ (p ld la : Addr) (num : Int) (ds as : List Int), vs = [.ref p, .int num, .ref ld, .ref la] ∧ PenAt H p ∧ H ld = some (.lst (ds.map V.int)) ∧ ld ≠ p ∧ H la = some (.lst (as.map V.int)) ∧ la ≠ p ∧ ds ≠ [] ∧ ds.length ≤ 1000 ∧ as.length ≤ 1000 ∧
  ∀ a (e : En) H', Kp p H H' → PenAt H' p → EntAt H' a e → e.num = num → e.isDeed = false → (∀ n, EnWk n ds as e) → Q (.ref a) H'
theorem ok_actW {f : Addr} {fd : FuncData} {k : Nat} (F : Fun K "_law_act" "_law_act" sActW f fd) (C__law_draw : CDraw P w K mg base k) (C__law_day : CallOk P w K mg base k "_law_day" pDay spDay) (m_len : mg "len" = none) : FnOk P w K mg base CX0 (k + 1) f fd pActW (spActW K) := by
  refine F.ok scActW (fun vs H Q E h => ?_) (fun cdv A outer s H vs Q E hr h => ?_)
  · obtain ⟨p, ld, la, num, ds, as, rfl, _⟩ := h
    rfl
  · obtain ⟨p, ld, la, num, ds, as, rfl, hP, eld, nld, ela, nla, hne, hdl, hal, q⟩ := h
    have nd := scActW.nd
    refine ⟨_, pss_cons (ps_set (i := 4) nd rfl (.inl rfl) (pe_ix ix_list (pe_lst (pa_cons pe_str (pa_cons pe_str (pa_cons pe_str pa_nil)))) (pe_call C__law_draw.ok hr (by rfl) C__law_draw.g C__law_draw.kp C__law_draw.b .nil pass0 (pa_cons (pv 0) (pa_cons pe_int pa_nil))) (fun _ _ => rfl)))
      (pss_cons (ps_set (i := 5) nd rfl (.inl rfl) (pv 2))
      (pss_cons (ps_if (pt_cmpR op_eq (pv 4) pe_str (nomark _)) (pss_one (ps_set (i := 5) nd rfl (.inl rfl) (pv 3))) pss_nil)
      (pss_cons (ps_if (pt_cmpR (op_eqD hr.units) (pv 5) (pe_lst pa_nil) (nomark _)) (pss_one (ps_par (i := 4) (j := 5) (by rfl) nd rfl rfl (by decide) rfl rfl (pa_cons pe_str (pa_cons (pv 2) pa_nil)) (by rfl))) pss_nil)
      (pss_one (ps_ret (pe_tup (pa_cons (pv 1) (pa_cons (pe_call C__law_day.ok hr (by rfl) C__law_day.g C__law_day.kp C__law_day.b .nil pass0 (pa_cons (pv 0) pa_nil)) (pa_cons (pe_call C__law_day.ok hr (by rfl) C__law_day.g C__law_day.kp C__law_day.b .nil pass0 (pa_cons (pv 0) pa_nil)) (pa_cons (pe_call C__law_draw.ok hr (by rfl) C__law_draw.g C__law_draw.kp C__law_draw.b .nil pass0 (pa_cons (pv 0) (pa_cons pe_int pa_nil))) (pa_cons (pv 4) (pa_cons (pe_ix ix_list (pv 5) (pe_call C__law_draw.ok hr (by rfl) C__law_draw.g C__law_draw.kp C__law_draw.b .nil pass0 (pa_cons (pv 0) (pa_cons (pe_callB call_len_seq (by rfl) m_len (by decide +kernel) (pa_cons (pv 5) pa_nil)) pa_nil))) (fun _ _ => rfl)) pa_nil)))))))))))), ?_⟩
    refine ⟨(by show 3 ≤ sizeLine; decide), fun l1 nl1 => ?_⟩
    refine ⟨_, rfl, p, 3, rfl, hP.new nl1 _, by decide, by decide, fun v0 H1 k1 P1 a0 b0 => ?_⟩
    obtain ⟨_, gx, x, rfl, hx⟩ := pick (xs := [.str "paid", .str "void", .str "undone"]) (fun v => ∃ x : Str, v = .str x ∧ (x = "paid" ∨ x = "void" ∨ x = "undone")) a0 b0 (am1 ⟨_, rfl, .inl rfl⟩ (am1 ⟨_, rfl, .inr (.inl rfl)⟩ (am1 ⟨_, rfl, .inr (.inr rfl)⟩ am0)))
    have k01 : Kp p H H1 := (Kp.new nl1 _).trans k1
    refine ⟨l1, _, _, _, rfl, rfl, SqL.of (k1 _ _ (hP.free nl1) upd_same), gx, ?_⟩
    have eld1 := k01 _ _ nld eld
    have ela1 := k01 _ _ nla ela
    refine ⟨_, rfl, ?_⟩
    refine ⟨_, rfl, rfl, _, rfl, ?_⟩
    refine (Classical.em (x = ("undone" : Str))).elim (fun hu => ?U) (fun hu => ?NU)
    case' U =>
      rw [decide_eq_true (show V.str x = V.str "undone" by rw [hu])]
      refine iteT ?_
      refine ⟨_, rfl, ?_⟩
      refine ⟨_, rfl, Nat.zero_le _, fun l2 nl2 => ?_⟩
      have s2 := same_new nl2 (.lst [])
      have el2 : (upd H1 l2 (.lst [])) l2 = some (.lst (([] : List Int).map V.int)) := upd_same
      generalize upd H1 l2 (.lst []) = H2 at s2 el2
      refine ⟨.list (as.map PyData.int), .list (([] : List Int).map PyData.int), .lst (SqL.of (s2 _ _ ela1)) (dp_ints _), .lst (SqL.of el2) (dp_ints _), shaped_ints _, shaped_ints _, _, rfl, ?_⟩
      rw [eqv_ints]
      refine (Classical.em (as = [])).elim (fun ha => ?A1) (fun ha => ?B1)
      case' A1 =>
        rw [decide_eq_true ha]
        refine iteT ?_
        refine ⟨_, rfl, _, _, rfl, ?A⟩
      case' B1 =>
        rw [decide_eq_false ha]
        refine iteF ?B
    case' NU =>
      rw [decide_eq_false (show ¬ V.str x = V.str "undone" from fun z => hu (by injection z))]
      refine iteF ?_
      refine ⟨_, rfl, Nat.zero_le _, fun l2 nl2 => ?_⟩
      have s2 := same_new nl2 (.lst [])
      have el2 : (upd H1 l2 (.lst [])) l2 = some (.lst (([] : List Int).map V.int)) := upd_same
      generalize upd H1 l2 (.lst []) = H2 at s2 el2
      refine ⟨.list (ds.map PyData.int), .list (([] : List Int).map PyData.int), .lst (SqL.of (s2 _ _ eld1)) (dp_ints _), .lst (SqL.of el2) (dp_ints _), shaped_ints _, shaped_ints _, _, rfl, ?_⟩
      rw [eqv_ints, decide_eq_false hne]
      refine iteF ?C
    case' A1 =>
      obtain ⟨xw, ss, sa, es, nsa, hss, hsl, hcase, exw⟩ : ∃ (xw : Str) (ss : List Int) (sa : Addr), H2 sa = some (.lst (ss.map V.int)) ∧ sa ≠ p ∧ ss ≠ [] ∧ ss.length ≤ 1000 ∧ (∀ o ∈ ss, ((xw = "undone" ∧ o ∈ as) ∨ ((xw = "paid" ∨ xw = "void") ∧ o ∈ ds))) ∧ (xw = "paid" ∧ sa = ld) :=
        ⟨"paid", ds, ld, s2 _ _ eld1, nld, hne, hdl, fun o ho => .inr ⟨.inl rfl, ho⟩, rfl, rfl⟩
      obtain ⟨rfl, rfl⟩ := exw
    case' B1 =>
      obtain ⟨xw, ss, sa, es, nsa, hss, hsl, hcase, exw⟩ : ∃ (xw : Str) (ss : List Int) (sa : Addr), H2 sa = some (.lst (ss.map V.int)) ∧ sa ≠ p ∧ ss ≠ [] ∧ ss.length ≤ 1000 ∧ (∀ o ∈ ss, ((xw = "undone" ∧ o ∈ as) ∨ ((xw = "paid" ∨ xw = "void") ∧ o ∈ ds))) ∧ (xw = x ∧ sa = la) :=
        ⟨x, as, la, s2 _ _ ela1, nla, ha, hal, fun o ho => .inl ⟨hu, ho⟩, rfl, rfl⟩
      obtain ⟨rfl, rfl⟩ := exw
    case' NU =>
      obtain ⟨xw, ss, sa, es, nsa, hss, hsl, hcase, exw⟩ : ∃ (xw : Str) (ss : List Int) (sa : Addr), H2 sa = some (.lst (ss.map V.int)) ∧ sa ≠ p ∧ ss ≠ [] ∧ ss.length ≤ 1000 ∧ (∀ o ∈ ss, ((xw = "undone" ∧ o ∈ as) ∨ ((xw = "paid" ∨ xw = "void") ∧ o ∈ ds))) ∧ (xw = x ∧ sa = ld) :=
        ⟨x, ds, ld, s2 _ _ eld1, nld, hne, hdl, fun o ho => .inr ⟨(by rcases hx with h | h | h; exact .inl h; exact .inr h; exact absurd h hu), ho⟩, rfl, rfl⟩
      obtain ⟨rfl, rfl⟩ := exw
    all_goals
      have P2 : PenAt H2 p := by
        obtain ⟨x1, x2, x3, x4, z1, z2⟩ := P1
        exact ⟨x1, x2, x3, x4, s2 _ _ z1, z2⟩
      have k02 : Kp p H H2 := k01.trans (Kp.same s2)
      refine ⟨_, rfl, _, rfl, p, rfl, P2, fun v1 H3 k3 P3 a1 b1 => ?_⟩
      refine ⟨_, rfl, p, rfl, P3, fun v2 H4 k4 P4 a2 b2 => ?_⟩
      refine ⟨_, rfl, p, 4, rfl, P4, by decide, by decide, fun v3 H5 k5 P5 a3 b3 => ?_⟩
      have k25 : Kp p H2 H5 := k3.trans (k4.trans k5)
      have es5 := k25 _ _ nsa es
      have hlpos : 0 < ss.length := List.length_pos_iff.mpr hss
      refine ⟨_, rfl, _, rfl, _, rfl, _, rfl, _, _, rfl, .inl (SqL.of es5), p, _, rfl, P5, by rw [List.length_map]; omega, by rw [List.length_map]; omega, fun v4 H6 k6 P6 a4 b4 => ?_⟩
      rw [List.length_map] at b4
      have hk : v4.toNat < ss.length := by omega
      refine ⟨_, _, _, .int ss[v4.toNat], rfl, rfl, SqL.of (k6 _ _ nsa es5), at_of (j := v4.toNat) (by omega) (by rw [List.getElem?_map, List.getElem?_eq_getElem hk]; rfl), (by show 6 ≤ sizeLine; decide), fun t3 nt3 => ?_⟩
      exact q t3 ⟨num, v1, v2, v3, .act _ ss[v4.toNat]⟩ _ (k02.trans (k25.trans (k6.trans (Kp.new nt3 _)))) (P6.new nt3 _) upd_same rfl rfl fun n => hcase _ (List.getElem_mem hk)
end
end Deed

namespace Deed
open PySem PySem.Spec PyProof.Rows L2 LamX
section
variable {P : Program} {w : World} {K : PySem.W.Frag} {mg : Str → Option Value} {base : Heap} {T : List (Addr × Str)}
abbrev sLNewEnt : Stmt := topS 94
abbrev nLNewEnt : List Str := ["_law_pen_here", "_law_book_here", "_law_deeds", "_law_acts", "_law_number", "_law_low", "_law_less", "_law_entry", "_law_deed_here", "_law_act_here"]
abbrev pLNewEnt : List Str := ["_law_pen_here", "_law_book_here"]
theorem scLNewEnt : FnScope nLNewEnt pLNewEnt (defScope sLNewEnt) := ⟨rfl, rfl, rfl, by decide +kernel, rfl, by decide +kernel, by decide +kernel⟩
def spLNewEnt : Sp := fun vs H Q _ => ∃ (p b fk t : Addr) (n : Nat) (age : Int) (zs : List (Addr × En)), vs = [.ref p, .ref b] ∧ PenAt H p ∧ BookAt H b fk t n age zs ∧ ∀ a (e : En) H', Kp p H H' → PenAt H' p → EntAt H' a e → (∃ ds as, EnWk n ds as e) → e.names.length ≤ 2 → Q (.ref a) H'
theorem ok_LNewEnt {f : Addr} {fd : FuncData} {k : Nat} (F : Fun K "_law_new_entry" "_law_new_entry" sLNewEnt f fd) (C__law_draw : CDraw P w K mg base k) (C__law_deed : CallOk P w K mg base k "_law_deed" pDeed (spDeed K)) (C__law_act : CallOk P w K mg base k "_law_act" pActW (spActW K)) (m_sorted : mg "sorted" = none) : FnOk P w K mg base CX0 (k + 1) f fd pLNewEnt spLNewEnt := by
  refine F.ok scLNewEnt (fun vs H Q E h => ?_) (fun cdv A outer s H vs Q E hr h => ?_)
  · obtain ⟨p, b, fk, t, n, age, zs, rfl, _⟩ := h
    rfl
  · obtain ⟨p, b, fk, t, n, age, zs, rfl, hP, hB, q⟩ := h
    have nd := scLNewEnt.nd
    have hu := hu_of hr
    refine ⟨_, pss_cons (ps_set (i := 2) nd rfl (.inl rfl) (pe_callB cr_sortedI (by rfl) m_sorted (by decide +kernel) (pa_cons (pe_lc (own := [("_law_entry", 7)]) (g := gName 7) (by rfl) nd (pi_tup (pe_ix ix_tup (pv 1) pe_int (fun _ _ => rfl))) (blkOk_by (own := [("_law_entry", 7)]) (N := nLNewEnt) (sc := defScope sLNewEnt) (by decide +kernel)) (fun _ _ _ _ _ => (pg_name (i := 7) nd rfl (.inl rfl))) (fun _ _ _ _ _ => (pts_one (pt_cmpR op_eq (pe_ix (ix_tupK (K := K) (by rfl)) (pv 7) pe_int (fun _ _ => rfl)) pe_str (nomark _))))
          (fun _ _ _ _ _ => (pe_ix (ix_tupK (K := K) (by rfl)) (pv 7) pe_int (fun _ _ => rfl)))) pa_nil)))
      (pss_cons (ps_set (i := 3) nd rfl (.inl rfl) (pe_callB cr_sortedI (by rfl) m_sorted (by decide +kernel) (pa_cons (pe_lc (own := [("_law_entry", 7)]) (g := gName 7) (by rfl) nd (pi_tup (pe_ix ix_tup (pv 1) pe_int (fun _ _ => rfl))) (blkOk_by (own := [("_law_entry", 7)]) (N := nLNewEnt) (sc := defScope sLNewEnt) (by decide +kernel)) (fun _ _ _ _ _ => (pg_name (i := 7) nd rfl (.inl rfl))) (fun _ _ _ _ _ => (pts_one (pt_cmpR op_ne (pe_ix (ix_tupK (K := K) (by rfl)) (pv 7) pe_int (fun _ _ => rfl)) pe_str (nomark _))))
          (fun _ _ _ _ _ => (pe_ix (ix_tupK (K := K) (by rfl)) (pv 7) pe_int (fun _ _ => rfl)))) pa_nil)))
      (pss_cons (ps_set (i := 4) nd rfl (.inr rfl) (pe_call C__law_draw.ok hr (by rfl) C__law_draw.g C__law_draw.kp C__law_draw.b .nil pass0 (pa_cons (pv 0) (pa_cons pe_int pa_nil))))
      (pss_cons (ps_if (PW.pt (pw_or (pt_cmpR (op_eqD hr.units) (pv 2) (pe_lst pa_nil) (nomark _)) (pw_or1 (pt_cmpR op_eq (pe_call C__law_draw.ok hr (by rfl) C__law_draw.g C__law_draw.kp C__law_draw.b .nil pass0 (pa_cons (pv 0) (pa_cons pe_int pa_nil))) pe_int (nomark _))))) (pss_one (ps_ret (pe_call C__law_deed.ok hr (by rfl) C__law_deed.g C__law_deed.kp C__law_deed.b .nil pass0 (pa_cons (pv 0) (pa_cons (pv 4) (pa_cons (pe_ix ix_tup (pv 1) pe_int (fun _ _ => rfl)) (pa_cons (pe_lc (own := [("_law_deed_here", 8)]) (g := gName 8) (by rfl) nd (pi_list (pv 2)) (blkOk_by (own := [("_law_deed_here", 8)]) (N := nLNewEnt) (sc := defScope sLNewEnt) (by decide +kernel)) (fun _ _ _ _ _ => (pg_name (i := 8) nd rfl (.inl rfl))) (fun _ _ _ _ _ => (pts_one (pt_cmpR op_lt (pv 8) (pv 4) (nomark _))))
          (fun _ _ _ _ _ => (pv 8))) pa_nil))))))) pss_nil)
      (pss_cons (ps_set (i := 5) nd rfl (.inl rfl) (pe_orT (pe_lc (own := [("_law_deed_here", 8)]) (g := gName 8) (by rfl) nd (pi_list (pv 2)) (blkOk_by (own := [("_law_deed_here", 8)]) (N := nLNewEnt) (sc := defScope sLNewEnt) (by decide +kernel)) (fun _ _ _ _ _ => (pg_name (i := 8) nd rfl (.inl rfl))) (fun _ _ _ _ _ => (pts_one (pt_cmpR op_lt (pv 8) (pv 4) (nomark _))))
          (fun _ _ _ _ _ => (pv 8))) (pe_one (pv 2))))
      (pss_cons (ps_setLc (i := 6) (own := [("_law_act_here", 9)]) (g := gName 9) (by rfl) nd rfl rfl (sw_true rfl rfl rfl (by decide +kernel)) (pi_list (pv 3)) (blkOk_by (own := [("_law_act_here", 9)]) (N := nLNewEnt) (sc := defScope sLNewEnt) (by decide +kernel)) (fun _ _ _ _ _ => (pg_name (i := 9) nd rfl (.inl rfl))) (fun _ _ _ _ _ => (pts_one (pt_cmpR op_lt (pv 9) (pv 4) (nomark _))))
          (fun _ _ _ _ _ => (pv 9)))
      (pss_one (ps_ret (pe_call C__law_act.ok hr (by rfl) C__law_act.g C__law_act.kp C__law_act.b .nil pass0 (pa_cons (pv 0) (pa_cons (pv 4) (pa_cons (pv 5) (pa_cons (pv 6) pa_nil)))))))))))), ?_⟩
    have hzl := hB.len
    have hnd : ∀ (c : Addr × En → Bool), ((zs.filter c).map (fun z => z.2.num)).Nodup := fun c => by
      have h := hB.ok.nd
      rw [show (ens zs).map (·.num) = zs.map (fun z => z.2.num) by simp [ens]] at h
      exact h.sublist ((List.filter_sublist).map _)
    have hle : ∀ (c : Addr × En → Bool), ((zs.filter c).map (fun z => z.2.num)).length ≤ 16 := fun c => by
      have := List.length_filter_le c zs
      rw [List.length_map]
      omega
    refine ⟨_, rfl, b, _, 2, _, rfl, rfl, SqT.of hB.at_, (atI_nat (j := 2) rfl), t, rfl, ⟨_, SqT.of hB.ents⟩, fun M1 nM1 => ?_⟩
    refine lc_sameV (walk_tup (xs := refs zs)) zs (fun z => decide (z.2.word = ("deed" : Str))) (fun z => .int z.2.num) (by rw [List.length_map]) (by omega) nM1 (fun H' s => SqT.of (s _ _ hB.ents)) ?_ ?_
    · rintro i z x H' H1 hz s1 ⟨rfl, hx⟩ Q1 Q0 q1 q0
      rw [List.getElem?_map, hz] at hx
      injection hx with hx
      subst hx
      obtain ⟨es, ex, g0, _, _, _, g4⟩ := ((hB.ent z (List.mem_of_getElem? hz)).kp (Same.tup s1)).tup
      refine ⟨rfl, ?_⟩
      refine ⟨_, rfl, z.1, es, 4, _, rfl, rfl, SqT.of ex, g4, ?_⟩
      refine ⟨rfl, _, rfl, ?_⟩
      rw [dec_strE]
      refine ite2 (fun c => ?_) (fun c => ?_)
      · exact ⟨_, rfl, z.1, es, 0, _, rfl, rfl, SqT.of ex, g0, q1 c _ (fun _ _ h => h)⟩
      · exact q0 (Bool.eq_false_iff.mpr c) _ (fun _ _ h => h)
    intro H1 s1 eM1
    refine ⟨M1, (zs.filter fun z => decide (z.2.word = ("deed" : Str))).map (fun z => z.2.num), rfl, by rw [List.map_map]; exact SqL.of eM1, fun D ld pD uD nld => ?_⟩
    have s2 := s1.trans (same_new nld (.lst (D.map V.int)))
    have eld : (upd H1 ld (.lst (D.map V.int))) ld = some (.lst (D.map V.int)) := upd_same
    generalize upd H1 ld (.lst (D.map V.int)) = H2 at s2 eld
    have hB2 := hB.kp (Same.tup s2)
    refine ⟨_, rfl, b, _, 2, _, rfl, rfl, SqT.of hB2.at_, (atI_nat (j := 2) rfl), t, rfl, ⟨_, SqT.of hB2.ents⟩, fun M2 nM2 => ?_⟩
    refine lc_sameV (walk_tup (xs := refs zs)) zs (fun z => !decide (z.2.word = ("deed" : Str))) (fun z => .int z.2.num) (by rw [List.length_map]) (by omega) nM2 (fun H' s => SqT.of (s _ _ hB2.ents)) ?_ ?_
    · rintro i z x H' H3 hz s1 ⟨rfl, hx⟩ Q1 Q0 q1 q0
      rw [List.getElem?_map, hz] at hx
      injection hx with hx
      subst hx
      obtain ⟨es, ex, g0, _, _, _, g4⟩ := ((hB2.ent z (List.mem_of_getElem? hz)).kp (Same.tup s1)).tup
      refine ⟨rfl, ?_⟩
      refine ⟨_, rfl, z.1, es, 4, _, rfl, rfl, SqT.of ex, g4, ?_⟩
      refine ⟨rfl, _, rfl, ?_⟩
      rw [dec_strE]
      refine ite2 (fun c => ?_) (fun c => ?_)
      · exact ⟨_, rfl, z.1, es, 0, _, rfl, rfl, SqT.of ex, g0, q1 c _ (fun _ _ h => h)⟩
      · exact q0 (Bool.eq_false_iff.mpr c) _ (fun _ _ h => h)
    intro H3 s3 eM2
    refine ⟨M2, (zs.filter fun z => !decide (z.2.word = ("deed" : Str))).map (fun z => z.2.num), rfl, by rw [List.map_map]; exact SqL.of eM2, fun C la pC uC nla => ?_⟩
    have s4 := s3.trans (same_new nla (.lst (C.map V.int)))
    have ela : (upd H3 la (.lst (C.map V.int))) la = some (.lst (C.map V.int)) := upd_same
    generalize upd H3 la (.lst (C.map V.int)) = H4 at s4 ela
    have s04 := s2.trans s4
    have P4 : PenAt H4 p := ExtN.pen (.of s04) hP
    have eld4 := s4 _ _ eld
    have nldp : ld ≠ p := (ExtN.pen (.of s1) hP).free nld
    have nlap : la ≠ p := (ExtN.pen (.of s3) (ExtN.pen (.of s2) hP)).free nla
    have hDn : D.Nodup := pD.nodup_iff.mpr (hnd _)
    have hDl : D.length ≤ 16 := by rw [pD.length_eq]; exact hle _
    have hCl : C.length ≤ 16 := by rw [pC.length_eq]; exact hle _
    refine ⟨_, rfl, p, 31, rfl, P4, by decide, by decide, fun v H5 k5 P5 a0 b0 => ?_⟩
    refine ⟨_, rfl, Nat.zero_le _, fun l2 nl2 => ?_⟩
    have s6 := same_new nl2 (.lst [])
    have el2 : (upd H5 l2 (.lst [])) l2 = some (.lst (([] : List Int).map V.int)) := upd_same
    generalize upd H5 l2 (.lst []) = H6 at s6 el2
    have k46 : Kp p H4 H6 := k5.trans (Kp.same s6)
    have P6 := ExtN.pen (.of s6) P5
    refine ⟨.list (D.map PyData.int), .list (([] : List Int).map PyData.int), .lst (SqL.of (k46 _ _ nldp eld4)) (dp_ints _), .lst (SqL.of el2) (dp_ints _), shaped_ints _, shaped_ints _, _, rfl, ?_⟩
    rw [eqv_ints]
    refine (Classical.em (D = [])).elim (fun hd => ?A) (fun hd => ?B)
    case' A =>
      rw [decide_eq_true hd]
      refine iteT (iteT ?_)
      have kd := k46
      have Pd := P6
    case' B =>
      rw [decide_eq_false hd]
      refine iteF ⟨_, rfl, p, 3, rfl, P6, by decide, by decide, fun v2 H7 k7 P7 a2 b2 => ⟨rfl, _, rfl, ?_⟩⟩
      rw [dec_intE]
      refine ite2 (fun c => ?_) (fun c => ?E)
      have kd := k46.trans k7
      have Pd := P7
    case E =>
      have kd := k46.trans k7
      have eldd := kd _ _ nldp eld4
      have eladd := kd _ _ nlap ela
      refine ⟨_, rfl, ld, rfl, ⟨_, SqL.of eldd⟩, fun M3 nM3 => ?_⟩
      refine lc_sameV (walk_list (xs := D.map V.int)) D (fun d => decide (d < v)) (fun d => .int d) (by rw [List.length_map]) (by omega) nM3 (fun H' s => SqL.of (s _ _ eldd)) ?_ ?_
      · rintro i z x H' H8 hz s8 ⟨rfl, hx⟩ Q1 Q0 q1 q0
        rw [List.getElem?_map, hz] at hx
        injection hx with hx
        subst hx
        refine ⟨rfl, _, rfl, _, rfl, _, _, rfl, rfl, _, rfl, ?_⟩
        refine ite2 (fun c => ?_) (fun c => ?_)
        · exact ⟨_, rfl, q1 c _ (fun _ _ h => h)⟩
        · exact q0 (Bool.eq_false_iff.mpr c) _ (fun _ _ h => h)
      intro H8 s8 eM3
      have P8 := ExtN.pen (.of s8) P7
      have ela8 := s8 _ _ eladd
      have eld8 := s8 _ _ eldd
      have k08 : Kp p H H8 := (Kp.same s04).trans (kd.trans (Kp.same s8))
      refine (Classical.em (D.filter (fun d => decide (d < v)) = [])).elim (fun hf => ?F) (fun hf => ?G)
      case' F =>
        refine ⟨false, .inl ⟨_, SqL.of eM3, by rw [hf]; rfl⟩, iteF ⟨_, rfl, ?_⟩⟩
        obtain ⟨lo, ls, elo, nlo, hls, hll, exw⟩ : ∃ (lo : Addr) (ls : List Int), H8 lo = some (.lst (ls.map V.int)) ∧ lo ≠ p ∧ ls ≠ [] ∧ ls.length ≤ 16 ∧ lo = ld := ⟨ld, D, eld8, nldp, hd, hDl, rfl⟩
        obtain rfl := exw
      case' G =>
        refine ⟨true, .inl ⟨_, SqL.of eM3, ?_⟩, iteT ?_⟩
        · cases hq : D.filter (fun d => decide (d < v)) with
          | nil => exact absurd hq hf
          | cons a r => rfl
        obtain ⟨lo, ls, elo, nlo, hls, hll, exw⟩ : ∃ (lo : Addr) (ls : List Int), H8 lo = some (.lst (ls.map V.int)) ∧ lo ≠ p ∧ ls ≠ [] ∧ ls.length ≤ 16 ∧ lo = M3 := ⟨M3, _, eM3, P7.free nM3, hf, by have := List.length_filter_le (fun d => decide (d < v)) D; omega, rfl⟩
        obtain rfl := exw
      all_goals
        refine ⟨_, rfl, la, rfl, ⟨_, SqL.of ela8⟩, fun M4 nM4 => ?_⟩
        refine lc_sameV (walk_list (xs := C.map V.int)) C (fun d => decide (d < v)) (fun d => .int d) (by rw [List.length_map]) (by omega) nM4 (fun H' s => SqL.of (s _ _ ela8)) ?_ ?_
        · rintro i z x H' H9 hz s9 ⟨rfl, hx⟩ Q1 Q0 q1 q0
          rw [List.getElem?_map, hz] at hx
          injection hx with hx
          subst hx
          refine ⟨rfl, _, rfl, _, rfl, _, _, rfl, rfl, _, rfl, ?_⟩
          refine ite2 (fun c => ?_) (fun c => ?_)
          · exact ⟨_, rfl, q1 c _ (fun _ _ h => h)⟩
          · exact q0 (Bool.eq_false_iff.mpr c) _ (fun _ _ h => h)
        intro H9 s9 eM4
        have P9 := ExtN.pen (.of s9) P8
        refine ⟨_, rfl, _, rfl, _, rfl, _, rfl, p, lo, M4, v, ls, C.filter fun d => decide (d < v), rfl, P9, s9 _ _ elo, nlo, eM4, P8.free nM4, hls, by omega, by have := List.length_filter_le (fun d => decide (d < v)) C; omega, fun a e H10 k10 P10 ea en ed wk => ?_⟩
        refine q a e H10 (k08.trans ((Kp.same s9).trans k10)) P10 ea ⟨_, _, wk 0⟩ ?_
        unfold En.names
        unfold En.isDeed at ed
        cases hk : e.kd with
        | deed g t rs ws =>
          rw [hk] at ed
          cases ed
        | act x o =>
          show 1 ≤ 2
          omega
    all_goals
      have hBd := (hB.kp (Same.tup s04)).kp (kd.tup P4)
      have eldd := kd _ _ nldp eld4
      refine ⟨_, rfl, _, rfl, _, rfl, b, _, 0, _, rfl, rfl, SqT.of hBd.at_, (atI_nat (j := 0) rfl), _, rfl, ld, rfl, ⟨_, SqL.of eldd⟩, fun M3 nM3 => ?_⟩
      refine lc_sameV (walk_list (xs := D.map V.int)) D (fun d => decide (d < v)) (fun d => .int d) (by rw [List.length_map]) (by omega) nM3 (fun H' s => SqL.of (s _ _ eldd)) ?_ ?_
      · rintro i z x H' H8 hz s8 ⟨rfl, hx⟩ Q1 Q0 q1 q0
        rw [List.getElem?_map, hz] at hx
        injection hx with hx
        subst hx
        refine ⟨rfl, _, rfl, _, rfl, _, _, rfl, rfl, _, rfl, ?_⟩
        refine ite2 (fun c => ?_) (fun c => ?_)
        · exact ⟨_, rfl, q1 c _ (fun _ _ h => h)⟩
        · exact q0 (Bool.eq_false_iff.mpr c) _ (fun _ _ h => h)
      intro H8 s8 eM3
      have P8 := ExtN.pen (.of s8) Pd
      refine ⟨p, fk, M3, v, n, D.filter fun d => decide (d < v), rfl, P8, (hBd.kp (Same.tup s8)).folk, hB.n2, hB.n6, eM3, Pd.free nM3, hDn.sublist List.filter_sublist, by have := List.length_filter_le (fun d => decide (d < v)) D; omega, fun d hd => of_decide_eq_true (List.mem_filter.mp hd).2, fun a e H9 k9 P9 ea en ed ok => ?_⟩
      exact q a e H9 ((Kp.same s04).trans (kd.trans ((Kp.same s8).trans k9))) P9 ea ⟨_, _, (ok []).wk⟩ (ok []).names_len
end
end Deed

namespace Deed
open PySem PySem.Spec PyProof.Rows L2 LamX
/-! ### books of the same entries, and with an entry that is not told yet -/
theorem any_mem {α : Type} {l l' : List α} {p q : α → Bool} (h : ∀ x, x ∈ l ↔ x ∈ l') (hp : ∀ x, p x = q x) : l.any p = l'.any q := by
  rw [Bool.eq_iff_iff, List.any_eq_true, List.any_eq_true]
  constructor
  · rintro ⟨x, h1, h2⟩
    exact ⟨x, (h x).mp h1, by rw [← hp]; exact h2⟩
  · rintro ⟨x, h1, h2⟩
    exact ⟨x, (h x).mpr h1, by rw [hp]; exact h2⟩
theorem all_mem {α : Type} {l l' : List α} {p q : α → Bool} (h : ∀ x, x ∈ l ↔ x ∈ l') (hp : ∀ x, p x = q x) : l.all p = l'.all q := by
  rw [Bool.eq_iff_iff, List.all_eq_true, List.all_eq_true]
  constructor
  · intro g x hx
    rw [← hp]
    exact g x ((h x).mpr hx)
  · intro g x hx
    rw [hp]
    exact g x ((h x).mp hx)
theorem frcF_mem {es es' : List En} (h : ∀ x, x ∈ es ↔ x ∈ es') (d k : Int) : ∀ (f : Nat) (e : En), frcF es d k f e = frcF es' d k f e
  | 0, _ => rfl
  | f + 1, e => by
    show (isOpen d k e && es.all _) = (isOpen d k e && es'.all _)
    congr 1
    exact all_mem h fun u => by rw [frcF_mem h d k f u]
theorem anyF_mem {es es' : List En} (h : ∀ x, x ∈ es ↔ x ∈ es') (d k : Int) (x : Str) (m : Int) : anyF es d k x m = anyF es' d k x m :=
  any_mem h fun u => by unfold frc; rw [frcF_mem h]
theorem wordBy_mem {es es' : List En} (h : ∀ x, x ∈ es ↔ x ∈ es') (d k : Int) (e : En) (b : Bool) : wordBy es d k e b = wordBy es' d k e b := by
  unfold wordBy
  rw [anyF_mem h, anyF_mem h]
theorem stF_mem {es es' : List En} (h : ∀ x, x ∈ es ↔ x ∈ es') (d k : Int) : ∀ (f : Nat) (e : En), stF es d k f e = stF es' d k f e
  | 0, _ => rfl
  | f + 1, e => by
    show wordBy es d k e _ = wordBy es' d k e _
    rw [wordBy_mem h]
    congr 1
    exact any_congr fun r _ => any_mem h fun u => by rw [stF_mem h d k f u]
theorem st_mem {es es' : List En} (h : ∀ x, x ∈ es ↔ x ∈ es') (d k : Int) (e : En) : st es d k e = st es' d k e := stF_mem h d k _ e
theorem frcF_closed {es : List En} {d k : Int} {e : En} (h : isOpen d k e = false) : ∀ f : Nat, frcF es d k f e = false
  | 0 => rfl
  | f + 1 => by
    show (isOpen d k e && es.all _) = false
    rw [h, Bool.false_and]
theorem frcF_more {es : List En} {d k : Int} {e : En} (h : isOpen d k e = false) : ∀ (f : Nat) (u : En), frcF (es ++ [e]) d k f u = frcF es d k f u
  | 0, _ => rfl
  | f + 1, u => by
    show (isOpen d k u && (es ++ [e]).all (fun v => !(isOn "undone" u.num v && frcF (es ++ [e]) d k f v))) = (isOpen d k u && es.all (fun v => !(isOn "undone" u.num v && frcF es d k f v)))
    congr 1
    rw [List.all_append]
    have h1 : ([e].all fun v => !(isOn "undone" u.num v && frcF (es ++ [e]) d k f v)) = true := by
      rw [List.all_cons, List.all_nil, frcF_closed h f, Bool.and_false]
      rfl
    rw [h1, Bool.and_true]
    exact all_mem (fun _ => Iff.rfl) fun v => by rw [frcF_more h f v]
theorem anyF_more {es : List En} {d k : Int} {e : En} (h : isOpen d k e = false) (x : Str) (m : Int) : anyF (es ++ [e]) d k x m = anyF es d k x m := by
  unfold anyF
  rw [List.any_append]
  have h1 : ([e].any fun u => isOn x m u && frc (es ++ [e]) d k u) = false := by
    rw [List.any_cons, List.any_nil]
    unfold frc
    rw [frcF_closed h, Bool.and_false]
    rfl
  rw [h1, Bool.or_false]
  exact any_mem (fun _ => Iff.rfl) fun v => by unfold frc; rw [frcF_more h]
theorem dn_num {es : List En} {r : Int} (h : r ∈ dn es) : r ∈ es.map (·.num) := by
  unfold dn at h
  obtain ⟨u, hu, rfl⟩ := List.mem_map.mp h
  exact List.mem_map.mpr ⟨u, (List.mem_filter.mp hu).1, rfl⟩
theorem an_num {es : List En} {r : Int} (h : r ∈ an es) : r ∈ es.map (·.num) := by
  unfold an at h
  obtain ⟨u, hu, rfl⟩ := List.mem_map.mp h
  exact List.mem_map.mpr ⟨u, (List.mem_filter.mp hu).1, rfl⟩
theorem stF_more {n : Nat} {es : List En} {d k : Int} {e : En} (hB : BkOk n es) (hn : e.num ∉ es.map (·.num)) (h : isOpen d k e = false) : ∀ (f : Nat) (u : En), u ∈ es → stF (es ++ [e]) d k f u = stF es d k f u
  | 0, _, _ => rfl
  | f + 1, u, hu => by
    show wordBy (es ++ [e]) d k u _ = wordBy es d k u _
    have hw : ∀ b, wordBy (es ++ [e]) d k u b = wordBy es d k u b := fun b => by
      unfold wordBy
      rw [anyF_more h, anyF_more h]
    rw [hw]
    congr 1
    refine any_congr fun r hr => ?_
    rw [List.any_append]
    have hrn := dn_num ((hB.ok u hu).rest r hr).1
    have h1 : ([e].any fun v => isD r v && !carries (stF (es ++ [e]) d k f v)) = false := by
      rw [List.any_cons, List.any_nil]
      have : isD r e = false := by
        unfold isD
        rw [decide_eq_false (fun z : e.num = r => hn (by rw [z]; exact hrn)), Bool.and_false]
      rw [this]
      rfl
    rw [h1, Bool.or_false]
    exact any_congr fun v hv => by rw [stF_more hB hn h f v hv]
theorem st_more {n : Nat} {es : List En} {d k : Int} {e : En} (hB : BkOk n es) (hn : e.num ∉ es.map (·.num)) (h : isOpen d k e = false) {u : En} (hu : u ∈ es) : st (es ++ [e]) d k u = st es d k u := stF_more hB hn h _ u hu
/-! ### what a row of a parting tells -/
theorem parts_row {es es' : List En} {k : Int} {D ns : List Int} {q : Row4} (hq : q ∈ partsAll es es' k D ns) : ∃ u u' : En, u ∈ es ∧ u.isDeed = true ∧ u.num = q.1 ∧ u' ∈ es' ∧ u'.isDeed = true ∧ u'.num = q.1 ∧ q.2.1 ∈ D ∧ q.2.2.1 = st es q.2.1 k u ∧ q.2.2.2 = st es' q.2.1 k u' ∧ q.2.2.1 ≠ q.2.2.2 := by
  unfold partsAll at hq
  obtain ⟨m, _, hm⟩ := List.mem_flatMap.mp hq
  unfold partAt at hm
  split at hm
  · rename_i u u' h1 h2
    have a1 := List.find?_some h1
    have a2 := List.find?_some h2
    unfold isD at a1 a2
    rw [Bool.and_eq_true] at a1 a2
    unfold part1 at hm
    split at hm
    · rename_i d hd
      rw [List.mem_singleton.mp hm]
      have hne := List.find?_some hd
      rw [Bool.not_eq_true', decide_eq_false_iff_not] at hne
      exact ⟨u, u', List.mem_of_find?_eq_some h1, a1.1, rfl, List.mem_of_find?_eq_some h2, a2.1, (of_decide_eq_true a2.2).trans (of_decide_eq_true a1.2).symm, List.mem_of_find?_eq_some hd, rfl, rfl, hne⟩
    · cases hm
  · cases hm
theorem parts_none {es es' : List En} {k : Int} {D ns : List Int} (h : ∀ d ∈ D, ∀ u ∈ es, ∀ u' ∈ es', u.num = u'.num → st es d k u = st es' d k u') : partsAll es es' k D ns = [] := by
  cases hp : partsAll es es' k D ns with
  | nil => rfl
  | cons q r =>
    obtain ⟨u, u', h1, _, h2, h3, _, h4, h5, h6, h7, h8⟩ := parts_row (show q ∈ partsAll es es' k D ns by rw [hp]; exact List.mem_cons_self)
    exact absurd (h6.trans ((h _ h5 u h1 u' h3 (h2.trans h4.symm)).trans h7.symm)) h8
theorem parts_perm {n : Nat} {es es' : List En} (hB : BkOk n es) (p : es'.Perm es) (k : Int) (D ns : List Int) : partsAll es es' k D ns = [] :=
  parts_none fun d _ u hu u' hu' hn => by
    rw [num_inj hB hu (p.mem_iff.mp hu') hn]
    exact st_mem (fun x => p.mem_iff.symm) d k u'
theorem more_same {n : Nat} {es : List En} {e : En} (hB : BkOk n es) (hM : BkOk n (es ++ [e])) {u u' : En} (hu : u ∈ es) (hu' : u' ∈ es ++ [e]) (hn : u.num = u'.num) : u' = u ∧ e.num ∉ es.map (·.num) :=
  ⟨num_inj hM hu' (List.mem_append_left _ hu) hn.symm, hM.less.2.1⟩
theorem parts_unwritten {n : Nat} {es : List En} {e : En} {k : Int} (hB : BkOk n es) (hM : BkOk n (es ++ [e])) (h : k < e.wri) (D ns : List Int) : partsAll es (es ++ [e]) k D ns = [] :=
  parts_none fun d _ u hu u' hu' hn => by
    obtain ⟨rfl, h2⟩ := more_same hB hM hu hu' hn
    refine (st_more hB h2 ?_ hu).symm
    unfold isOpen
    rw [decide_eq_false (show ¬ e.wri ≤ k by omega), Bool.and_false]
theorem row_day {n : Nat} {es : List En} {e : En} {k : Int} {D ns : List Int} (hB : BkOk n es) (hM : BkOk n (es ++ [e])) {q : Row4} (hq : q ∈ partsAll es (es ++ [e]) k D ns) : e.day ≤ q.2.1 := by
  obtain ⟨u, u', h1, _, h2, h3, _, h4, h5, h6, h7, h8⟩ := parts_row hq
  obtain ⟨rfl, hn⟩ := more_same hB hM h1 h3 (h2.trans h4.symm)
  by_cases hd : e.day ≤ q.2.1
  · exact hd
  · refine absurd (h6.trans ((st_more hB hn ?_ h1).symm.trans h7.symm)) h8
    unfold isOpen
    rw [decide_eq_false hd, Bool.false_and]
theorem day_rng {n : Nat} {es : List En} (hB : BkOk n es) {e : En} (he : e ∈ es) : 0 ≤ e.day ∧ e.day ≤ 9999 := (hB.ok e he).1
/-! ### an entry taken out again -/
theorem out_names {n : Nat} {es : List En} {e : En} (hB : BkOk n es) (hM : BkOk n (es ++ [e])) : ∀ u ∈ es ++ [e], e.num ∉ u.names := by
  intro u hu hm
  rcases List.mem_append.mp hu with h | h
  · have hn := hM.less.2.1
    rcases ((hB.ok u h).names_lt hm).2 with h2 | h2
    · exact hn (dn_num h2)
    · exact hn (an_num h2)
  · rw [List.mem_singleton.mp h] at hm
    have := ((hM.ok e (by simp)).names_lt hm).1
    omega
theorem filt_back {zs : List (Addr × En)} {a : Addr} {e : En} (h : e.num ∉ (ens zs).map (·.num)) : (zs ++ [(a, e)]).filter (fun z => !decide (z.2.num = e.num)) = zs := by
  rw [List.filter_append, List.filter_eq_self.mpr fun z hz => ?_, List.filter_cons_of_neg (by simp), List.filter_nil, List.append_nil]
  rw [Bool.not_eq_true', decide_eq_false_iff_not]
  intro z2
  exact h (z2 ▸ List.mem_map.mpr ⟨z.2, List.mem_map.mpr ⟨z, hz, rfl⟩, rfl⟩)
/-! ### books as data -/
/-! ### what all deeds are, by books of the same entries -/
theorem wds_perm {n : Nat} {zs zs' : List (Addr × En)} (hB : BkOk n (ens zs)) (p : zs'.Perm zs) {ys ys' : List (Addr × En)} (h : DeedsUp zs ys) (h' : DeedsUp zs' ys') (d k : Int) : wdE (ens zs') d k (ens ys') = wdE (ens zs) d k (ens ys) := by
  have hm : ∀ x, x ∈ ens zs' ↔ x ∈ ens zs := ens_perm p
  have h2 : DeedsUp zs ys' := ⟨h'.1, fun x => by rw [h'.2.1 x, hm x], h'.2.2⟩
  rw [wds_one h2 h]
  unfold wdE
  exact List.map_congr_left fun e _ => by rw [st_mem hm]
end Deed

namespace Deed
open PySem PySem.Spec PyProof.Rows L2 LamX
abbrev namers (zs : List (Addr × En)) (m : Int) : List Int := (zs.filter fun z => decide (m ∈ z.2.names)).map fun z => z.2.num
theorem filter_gone {zs : List (Addr × En)} {m : Int} (nd : ((ens zs).map (·.num)).Nodup) (hm : m ∈ (ens zs).map (·.num)) : ∃ A z B, zs = A ++ z :: B ∧ z.2.num = m ∧ (zs.filter fun z => !decide (z.2.num = m)) = A ++ B := by
  obtain ⟨e, he, hem⟩ := List.mem_map.mp hm
  obtain ⟨z, hz, rfl⟩ := List.mem_map.mp he
  obtain ⟨A, B, rfl⟩ := List.append_of_mem hz
  refine ⟨A, z, B, rfl, hem, ?_⟩
  rw [show ((ens (A ++ z :: B)).map (·.num)) = A.map (fun z => z.2.num) ++ z.2.num :: B.map (fun z => z.2.num) by simp [ens, Function.comp_def]] at nd
  obtain ⟨_, n2, n3⟩ := List.nodup_append.mp nd
  have n4 := (List.nodup_cons.mp n2).1
  rw [List.filter_append, List.filter_cons, hem, decide_eq_true rfl]
  simp only [Bool.not_true, Bool.false_eq_true, if_false]
  rw [List.filter_eq_self.mpr (fun x hx => ?_), List.filter_eq_self.mpr (fun x hx => ?_)]
  · rw [decide_eq_false fun q => n4 (by rw [hem]; exact List.mem_map.mpr ⟨x, hx, q⟩)]
    rfl
  · rw [decide_eq_false fun q => n3 x.2.num (List.mem_map.mpr ⟨x, hx, rfl⟩) z.2.num List.mem_cons_self (by rw [q, hem])]
    rfl
theorem namers_nil {zs : List (Addr × En)} {m : Int} (h : namers zs m = []) : ∀ u ∈ ens zs, m ∉ u.names := fun u hu hm => by
  obtain ⟨z, hz, rfl⟩ := List.mem_map.mp hu
  have h1 : z ∈ zs.filter fun z => decide (m ∈ z.2.names) := List.mem_filter.mpr ⟨hz, decide_eq_true hm⟩
  rw [List.map_eq_nil_iff.mp h] at h1
  cases h1
theorem bk_gone {n : Nat} {zs : List (Addr × En)} {m : Int} (hB : BkOk n (ens zs)) (hm : m ∈ (ens zs).map (·.num)) (h1 : namers zs m = []) : BkOk n (ens (zs.filter fun z => !decide (z.2.num = m))) := by
  obtain ⟨A, z, B, hz, hzm, hf⟩ := filter_gone hB.nd hm
  have h3 := hB
  have h4 := namers_nil h1
  rw [hz] at h3 h4
  rw [show ens (A ++ z :: B) = ens A ++ z.2 :: ens B from List.map_append] at h3 h4
  rw [hf, show ens (A ++ B) = ens A ++ ens B from List.map_append]
  exact h3.gone (by rw [hzm]; exact h4)
end Deed

namespace Deed
open PySem PySem.Spec PyProof.Rows L2 LamX
/-! ### what is due of a taking out -/
def dueO (zs : List (Addr × En)) : Tg → Str
  | .int m => if m ∈ (ens zs).map (·.num) then (if namers zs m = [] then "ok" else "named") else "missing"
  | _ => "missing"
section
variable {P : Program} {w : World} {K : PySem.W.Frag} {mg : Str → Option Value} {base : Heap}
abbrev sLDueOut : Stmt := topS 96
abbrev nLDueOut : List Str := ["_law_book_here", "_law_number", "_law_there", "_law_entry"]
abbrev pLDueOut : List Str := ["_law_book_here", "_law_number"]
theorem scLDueOut : FnScope nLDueOut pLDueOut (defScope sLDueOut) := ⟨rfl, rfl, rfl, by decide +kernel, rfl, by decide +kernel, by decide +kernel⟩
def spLDueOut : Sp := fun vs H Q _ => ∃ (p b fk t : Addr) (n : Nat) (age : Int) (zs : List (Addr × En)) (v : V) (tn : Tg), vs = [.ref b, v] ∧ BookAt H b fk t n age zs ∧ TgAt p H v tn ∧ ∀ H', Same H H' → Q (.str (dueO zs tn)) H'
theorem ok_LDueOut {f : Addr} {fd : FuncData} {k : Nat} (F : Fun K "_law_due_out" "_law_due_out" sLDueOut f fd) (C_na : CallOk P w K mg base k "_law_named" pLNamed spLNamedW) (m_isinstance : mg "isinstance" = none) (m_int : mg "int" = none) (m_bool : mg "bool" = none) : FnOk P w K mg base CX0 (k + 1) f fd pLDueOut spLDueOut := by
  refine F.ok scLDueOut (fun vs H Q E h => ?_) (fun cdv A outer s H vs Q E hr h => ?_)
  · obtain ⟨p, b, fk, t, n, age, zs, v, tn, rfl, _⟩ := h
    rfl
  · obtain ⟨p, b, fk, t, n, age, zs, v, tn, rfl, hB, hT, q⟩ := h
    have nd := scLDueOut.nd
    have hu := hu_of hr
    have hzl := hB.len
    refine ⟨_, pss_cons (ps_setLc (i := 2) (own := [("_law_entry", 3)]) (g := gName 3) (by rfl) nd rfl rfl (sw_true rfl rfl rfl (by decide +kernel)) (pi_tup (pe_ix ix_tup (pv 0) pe_int (fun _ _ => rfl))) (blkOk_by (own := [("_law_entry", 3)]) (N := nLDueOut) (sc := defScope sLDueOut) (by decide +kernel)) (fun _ _ _ _ _ => (pg_name (i := 3) nd rfl (.inl rfl))) (fun _ _ _ _ _ => pts_nil)
          (fun _ _ _ _ _ => (pe_ix (ix_tupK (K := K) (by rfl)) (pv 3) pe_int (fun _ _ => rfl))))
      (pss_cons (ps_if (PW.pt (pw_or (pt_not (pt_val (pe_callB call_isi (by rfl) m_isinstance (by decide +kernel) (pa_cons (pv 1) (pa_cons (pe_bltn (v := .ty "int") (by rfl) m_int (by decide +kernel) rfl) pa_nil))))) (pw_or (pt_val (pe_callB call_isi (by rfl) m_isinstance (by decide +kernel) (pa_cons (pv 1) (pa_cons (pe_bltn (v := .ty "bool") (by rfl) m_bool (by decide +kernel) rfl) pa_nil)))) (pw_or1 (pt_cmpR op_notIn_seq (pv 1) (pv 2) (by rfl)))))) (pss_one (ps_ret pe_str)) pss_nil)
      (pss_cons (ps_if (pt_cmpR (op_neLE hr.units) (pe_lc (own := [("_law_entry", 3)]) (g := gName 3) (by rfl) nd (pi_tup (pe_ix ix_tup (pv 0) pe_int (fun _ _ => rfl))) (blkOk_by (own := [("_law_entry", 3)]) (N := nLDueOut) (sc := defScope sLDueOut) (by decide +kernel)) (fun _ _ _ _ _ => (pg_name (i := 3) nd rfl (.inl rfl))) (fun _ _ _ _ _ => (pts_one (pt_cmpR (in_seqK (K := K) (by rfl)) (pv 1) (pe_call C_na.ok hr (by rfl) C_na.g C_na.kp C_na.b .nil pass0 (pa_cons (pv 3) pa_nil)) (by rfl))))
          (fun _ _ _ _ _ => (pv 3))) (pe_lst pa_nil) (nomark _)) (pss_one (ps_ret pe_str)) pss_nil)
      (pss_one (ps_ret pe_str)))), ?_⟩
    refine ⟨_, rfl, b, _, 2, _, rfl, rfl, SqT.of hB.at_, (atI_nat (j := 2) rfl), t, rfl, ⟨_, SqT.of hB.ents⟩, fun M1 nM1 => ?_⟩
    refine lc_sameM (walk_tup (xs := refs zs)) zs (fun z => .int z.2.num) (by rw [List.length_map]) (by omega) nM1 (fun H s => SqT.of (s _ _ hB.ents)) ?_ ?_
    · rintro i z x H3' H3 hz s3 ⟨rfl, hx⟩ Q1 q1
      rw [List.getElem?_map, hz] at hx
      injection hx with hx
      subst hx
      obtain ⟨xs, ex, g0, _, _, _, g4⟩ := ((hB.ent z (List.mem_of_getElem? hz)).kp (Same.tup s3)).tup
      exact ⟨rfl, _, rfl, z.1, xs, 0, _, rfl, rfl, SqT.of ex, g0, q1 _ (same_refl _)⟩
    intro H2 s2 eM
    have eM1 : H2 M1 = some (.lst (((ens zs).map (·.num)).map V.int)) := by
      rw [eM]
      simp [ens, List.map_map, Function.comp_def]
    have q2 := q H2 s2
    refine ⟨_, rfl, _, _, _, _, tn.isI, rfl, .ty "int", (TgAt.same s2 _ _ hT).ty, kit_ty tn.kI, _, rfl, ?_⟩
    refine ite2 (fun c => ?_) (fun c => ?_)
    · have e : dueO zs tn = "missing" := by cases tn <;> first | rfl | cases c
      rw [e] at q2
      exact q2
    refine ⟨_, rfl, _, _, _, _, tn.isB, rfl, .ty "bool", (TgAt.same s2 _ _ hT).ty, kit_ty tn.kB, _, rfl, ?_⟩
    refine ite2 (fun c1 => ?_) (fun c1 => ?_)
    · have e : dueO zs tn = "missing" := by cases tn <;> first | rfl | cases c1
      rw [e] at q2
      exact q2
    obtain ⟨m, rfl⟩ : ∃ m, tn = .int m := by
      cases tn with
      | int m => exact ⟨m, rfl⟩
      | bl _ => exact absurd rfl c1
      | _ => exact absurd rfl c
    cases hT
    refine ⟨_, rfl, _, rfl, M1, _, rfl, .inl (SqL.of eM1), rfl, flat_ints _, _, rfl, ?_⟩
    rw [mem_inV]
    by_cases hm : m ∈ (ens zs).map (·.num)
    case neg =>
      rw [decide_eq_false hm]
      refine iteT ?_
      have e : dueO zs (.int m) = "missing" := if_neg hm
      rw [e] at q2
      exact q2
    rw [decide_eq_true hm]
    refine iteF ?_
    have hB2 := hB.kp (Same.tup s2)
    refine ⟨_, rfl, b, _, 2, _, rfl, rfl, SqT.of hB2.at_, (atI_nat (j := 2) rfl), t, rfl, ⟨_, SqT.of hB2.ents⟩, fun M2 nM2 => ?_⟩
    refine lc_sameV (walk_tup (xs := refs zs)) zs (fun z => decide (m ∈ z.2.names)) (fun z => .ref z.1) (by rw [List.length_map]) (by omega) nM2 (fun H s => SqT.of (s _ _ hB2.ents)) ?_ ?_
    · rintro i z x H3' H3 hz s3 ⟨rfl, hx⟩ Q1 Q0 q1 q0
      rw [List.getElem?_map, hz] at hx
      injection hx with hx
      subst hx
      have hzm := List.mem_of_getElem? hz
      have hez : z.2 ∈ ens zs := List.mem_map.mpr ⟨z, hzm, rfl⟩
      refine ⟨rfl, _, rfl, _, rfl, z.1, z.2, rfl, (hB2.ent z hzm).kp (Same.tup s3), (hB.ok.ok z.2 hez).word, fun l H4 s4 e4 => ?_⟩
      refine ⟨l, _, rfl, .inl (SqL.of e4), rfl, flat_ints _, _, rfl, ?_⟩
      rw [mem_inV]
      refine ite2 (fun c => ?_) (fun c => ?_)
      · exact ⟨_, rfl, q1 c _ s4⟩
      · exact q0 (Bool.eq_false_iff.mpr c) _ s4
    intro H5 s5 eM2
    refine ⟨Nat.zero_le _, fun l3 nl3 => ?_⟩
    have s6 := same_new nl3 (.lst [])
    have e6 : (upd H5 l3 (.lst [])) l3 = some (.lst []) := upd_same
    generalize upd H5 l3 (.lst []) = H6 at s6 e6
    refine ⟨M2, l3, _, rfl, rfl, SqL.of (s6 _ _ eM2), SqL.of e6, _, rfl, ?_⟩
    have q6 := q H6 (s2.trans (s5.trans s6))
    have e1 : dueO zs (.int m) = (if namers zs m = [] then ("ok" : Str) else ("named" : Str)) := if_pos hm
    cases hf : zs.filter fun z => decide (m ∈ z.2.names) with
    | nil =>
      have e2 : namers zs m = [] := by show List.map _ (zs.filter _) = []; rw [hf]; rfl
      rw [e1, if_pos e2] at q6
      exact iteF q6
    | cons y r =>
      have e2 : namers zs m ≠ [] := by show List.map _ (zs.filter _) ≠ []; rw [hf]; exact fun z => nomatch z
      rw [e1, if_neg e2] at q6
      exact iteT q6
end
end Deed

namespace Deed
open PySem PySem.Spec PyProof.Rows L2 LamX
/-! ### a scribe -/
theorem Tabs.ins {T : List (Addr × Str)} {H : Hp} (t : Tabs T H) {d C dx : Addr} {fs : List (Str × V)} (e : H d = some (.ins C dx fs)) (o : HO) : Tabs T (upd H d o) := fun q0 hq0 => by
  obtain ⟨ps, h1, h2, h3⟩ := t q0 hq0
  have n1 : q0.1 ≠ d := fun z0 => by
    rw [z0, e] at h1
    cases h1
  refine ⟨ps, by rw [upd_ne n1]; exact h1, h2, fun pos cv hcv => ?_⟩
  obtain ⟨c0, e1, e2⟩ := h3 pos cv hcv
  refine ⟨c0, e1, ?_⟩
  have n2 : c0 ≠ d := fun z0 => by
    rw [z0, e] at e2
    unfold CodeO at e2
    cases e2
  rw [upd_ne n2]
  exact e2
abbrev sScI : Stmt := inClass (topS 80) 0
abbrev sScT : Stmt := inClass (topS 80) 1
abbrev sScW : Stmt := inClass (topS 80) 2
abbrev sScR : Stmt := inClass (topS 80) 3
abbrev sScB : Stmt := inClass (topS 80) 5
abbrev sScS : Stmt := inClass (topS 80) 6
theorem kKE : ¬ (("kept" : Str) = "earlier") := by decide +kernel
/-- the attributes in the order in which __init__ stores them -/
def sfl (b l : Addr) : List (Str × V) := putF "earlier" (.ref l) (putF "kept" (.ref b) [])
theorem sfl_eq (b l : Addr) : sfl b l = ([("kept", V.ref b), ("earlier", V.ref l)] : List (Str × V)) := by
  show (if ("kept" : Str) = "earlier" then [(("kept" : Str), V.ref l)] else (("kept" : Str), V.ref b) :: putF "earlier" (.ref l) []) = ([("kept", V.ref b), ("earlier", V.ref l)] : List (Str × V))
  rw [if_neg kKE]
  all_goals rfl
theorem sfl_kept (b l : Addr) : (sfl b l).lookup ("kept" : Str) = some (.ref b) := by
  unfold sfl
  rw [lookup_putF, if_neg kKE, lookup_putF, if_pos rfl]
theorem sfl_earlier (b l : Addr) : (sfl b l).lookup ("earlier" : Str) = some (.ref l) := by
  unfold sfl
  rw [lookup_putF, if_pos rfl]
theorem sfl_no (b l : Addr) {m : Str} (h1 : ¬ m = "earlier") (h2 : ¬ m = "kept") : (sfl b l).lookup m = none := by
  unfold sfl
  rw [lookup_putF, if_neg h1, lookup_putF, if_neg h2]
  all_goals rfl
theorem sfl_put (b b' l : Addr) : putF "kept" (.ref b') (sfl b l) = sfl b' l := by
  rw [sfl_eq, sfl_eq]
  show (if ("kept" : Str) = "kept" then (("kept" : Str), V.ref b') :: _ else _) = ([("kept", V.ref b'), ("earlier", V.ref l)] : List (Str × V))
  rw [if_pos rfl]
/-- a Scribe at x: its book at b, the books of before in the list at l -/
structure ScAt (C : Addr) (H : Hp) (x b l : Addr) (es : List V) : Prop where
  ob : ∃ dx, H x = some (.ins C dx (sfl b l))
  ls : H l = some (.lst es)
structure ScT (K : PySem.W.Frag) (mg : Str → Option Value) (C : Addr) : Prop where
  cl : Cls K C
  nK : NoAttr K C "kept"
  nE : NoAttr K C "earlier"
  g : mg "Scribe" = some (.ref C)
/-- all but the scribe, its list and the tables is as it was -/
def XS (x l : Addr) (H H' : Hp) : Prop := ∀ c o, c ≠ x → c ≠ l → H c = some o → (∀ ps, o ≠ .tbl ps) → H' c = some o
theorem XS.refl (x l : Addr) (H : Hp) : XS x l H H := fun _ _ _ _ h _ => h
theorem XS.trans {x l : Addr} {H H1 H2 : Hp} (a : XS x l H H1) (b : XS x l H1 H2) : XS x l H H2 := fun c o n1 n2 h t => b c o n1 n2 (a c o n1 n2 h t) t
theorem XS.ofN {x l : Addr} {H H' : Hp} (e : ExtN H H') : XS x l H H' := fun c o _ _ h t => e c o h t
theorem ScAt.extN {C : Addr} {H H' : Hp} {x b l : Addr} {es : List V} (h : ScAt C H x b l es) (e : ExtN H H') : ScAt C H' x b l es := by
  obtain ⟨⟨dx, h1⟩, h2⟩ := h
  exact ⟨⟨dx, e _ _ h1 fun ps z => by cases z⟩, e _ _ h2 fun ps z => by cases z⟩
theorem XS.tup {C x l : Addr} {H H' : Hp} {b : Addr} {es : List V} (s : XS x l H H') (h : ScAt C H x b l es) : KpT H H' := fun c xs e => by
  obtain ⟨⟨dx, h1⟩, h2⟩ := h
  exact s c _ (fun z => by rw [z, h1] at e; cases e) (fun z => by rw [z, h2] at e; cases e) e fun ps z => by cases z
section
variable {P : Program} {w : World} {K : PySem.W.Frag} {mg : Str → Option Value} {base : Heap} {T : List (Addr × Str)} {C : Addr}
abbrev sByN : Stmt := topS 79
abbrev nByN : List Str := ["book", "folk", "age", "entries"]
abbrev pByN : List Str := ["book"]
theorem scByN : FnScope nByN pByN (defScope sByN) := ⟨rfl, rfl, rfl, by decide +kernel, rfl, by decide +kernel, by decide +kernel⟩
def spByN (T : List (Addr × Str)) : Sp := fun vs H Q _ => ∃ (b fk t : Addr) (n : Nat) (age : Int) (zs : List (Addr × En)), vs = [.ref b] ∧ BookAt H b fk t n age zs ∧ Tabs T H ∧ ∀ b' t' (zs' : List (Addr × En)) H', ExtN H H' → Tabs T H' → BookAt H' b' fk t' n age zs' → zs'.Perm zs → zs'.Pairwise (fun u v => u.2.num < v.2.num) → Q (.ref b') H'
theorem ok_ByN {f : Addr} {fd : FuncData} {k : Nat} (F : Fun K "by_numbers" "by_numbers" sByN f fd) (C_er : CallOk P w K mg base k "entries_rising" ["book"] (spRising T)) (m_tuple : mg "tuple" = none) : FnOk P w K mg base CX0 (k + 1) f fd pByN (spByN T) := by
  refine F.ok scByN (fun vs H Q E h => ?_) (fun cdv A outer s H vs Q E hr h => ?_)
  · obtain ⟨b, fk, t, n, age, zs, rfl, _⟩ := h
    rfl
  · obtain ⟨b, fk, t, n, age, zs, rfl, hB, hT, q⟩ := h
    have nd := scByN.nd
    refine ⟨_, pss_cons (ps_asg (pv 0) (pg_tup (by rfl) (pgs_cons (pg_name (i := 1) nd rfl (.inl rfl)) (pgs_cons (pg_name (i := 2) nd rfl (.inl rfl)) (pgs_cons (pg_name (i := 3) nd rfl (.inl rfl)) pgs_nil)))))
      (pss_one (ps_ret (pe_tup (pa_cons (pv 1) (pa_cons (pv 2) (pa_cons (pe_callTy call_tuple_of (by rfl) m_tuple (by decide +kernel) (pa_cons (pe_call C_er.ok hr (by rfl) C_er.g C_er.kp C_er.b .nil pass0 (pa_cons (pv 0) pa_nil)) pa_nil)) pa_nil)))))), ?_⟩
    refine ⟨_, rfl, b, _, rfl, SqT.of hB.at_, rfl, _, _, rfl, _, _, rfl, _, _, rfl, rfl, ?_⟩
    refine ⟨_, rfl, _, rfl, _, rfl, b, fk, t, n, age, zs, rfl, hB, hT, fun l1 zs' H1 e1 T1 f1 el1 pm so => ?_⟩
    refine ⟨l1, _, rfl, .inl ⟨SqL.of el1, fun t2 nt2 => ?_⟩⟩
    have s2 := same_new nt2 (.tup (refs zs'))
    have e2 : (upd H1 t2 (.tup (refs zs'))) t2 = some (.tup (refs zs')) := upd_same
    generalize (upd H1 t2 (.tup (refs zs'))) = H2 at s2 e2
    refine ⟨(by show 3 ≤ sizeLine; decide), fun b3 nb3 => ?_⟩
    have s3 := same_new nb3 (.tup [.ref fk, .int age, .ref t2])
    have e3 : (upd H2 b3 (.tup [.ref fk, .int age, .ref t2])) b3 = some (.tup [.ref fk, .int age, .ref t2]) := upd_same
    generalize (upd H2 b3 (.tup [.ref fk, .int age, .ref t2])) = H3 at s3 e3
    have e13 : ExtN H H3 := e1.trans ((ExtN.of s2).trans (.of s3))
    have hB3 := hB.kp (ExtN.tup e13)
    exact q b3 t2 zs' H3 e13 ((T1.ext s2).ext s3) ⟨e3, hB3.folk, hB.n2, hB.n6, hB.age0, hB.age1, s3 _ _ e2, fun z hz => hB3.ent z (pm.mem_iff.mp hz), hB.ok.perm (pm.map _), by rw [pm.length_eq]; exact hB.len⟩ pm so
/-! turn_to -/
abbrev nScT : List Str := ["self", "other"]
theorem scScT : FnScope nScT nScT (defScope sScT) := ⟨rfl, rfl, rfl, by decide +kernel, rfl, by decide +kernel, by decide +kernel⟩
def spScT (C : Addr) (T : List (Addr × Str)) : Sp := fun vs H Q _ => ∃ (x b l o fk t : Addr) (es : List V) (n : Nat) (age : Int) (zs : List (Addr × En)), vs = [.ref x, .ref o] ∧ ScAt C H x b l es ∧ es.length ≤ 900 ∧ BookAt H o fk t n age zs ∧ Tabs T H ∧
  ∀ b' t' (zs' : List (Addr × En)) H', XS x l H H' → Tabs T H' → ScAt C H' x b' l (es ++ [.ref b]) → BookAt H' b' fk t' n age zs' → zs'.Perm zs → zs'.Pairwise (fun u v => u.2.num < v.2.num) → Q .non H'
theorem ok_ScT {f : Addr} {fd : FuncData} {k : Nat} (F : Fun K "turn_to" "Scribe.turn_to" sScT f fd) (S : ScT K mg C) (C_bn : CallOk P w K mg base k "by_numbers" pByN (spByN T)) : FnOk P w K mg base CX0 (k + 1) f fd nScT (spScT C T) := by
  refine F.ok scScT (fun vs H Q E h => ?_) (fun cdv A outer s H vs Q E hr h => ?_)
  · obtain ⟨x, b, l, o, fk, t, es, n, age, zs, rfl, _⟩ := h
    rfl
  · obtain ⟨x, b, l, o, fk, t, es, n, age, zs, rfl, hSc, hes, hB, hT, q⟩ := h
    obtain ⟨⟨dx, hx⟩, hl⟩ := id hSc
    have nxl : x ≠ l := fun z => by rw [z, hl] at hx; cases hx
    refine ⟨_, pss_cons (ps_expr (pe_bm PySem.F.plainAttrs_list PySem.F.slot_list_append PySem.F.type_list_append mt_append (pe_fld (pv 0) rfl) (pa_cons (pe_fld (pv 0) rfl) pa_nil)))
      (pss_one (ps_fld (pv 0) (pe_call C_bn.ok hr (by rfl) C_bn.g C_bn.kp C_bn.b .nil pass0 (pa_cons (pv 1) pa_nil)) rfl)), ?_⟩
    refine ⟨_, rfl, x, C, dx, _, _, rfl, hx, S.cl, S.nE, sfl_earlier b l, .inl ⟨rfl, _, SqL.of hl⟩, _, rfl, x, C, dx, _, _, rfl, hx, S.cl, S.nK, sfl_kept b l, l, _, _, rfl, rfl, hl, small1000 (by omega), ?_⟩
    have hx1 : (upd H l (.lst (es ++ [.ref b]))) x = some (.ins C dx (sfl b l)) := by rw [upd_ne nxl]; exact hx
    have hl1 : (upd H l (.lst (es ++ [.ref b]))) l = some (.lst (es ++ [.ref b])) := upd_same
    have xs1 : XS x l H (upd H l (.lst (es ++ [.ref b]))) := fun c u _ n2 e _ => by rw [upd_ne n2]; exact e
    have T1 : Tabs T (upd H l (.lst (es ++ [.ref b]))) := Tabs.put hT hl _
    generalize (upd H l (.lst (es ++ [.ref b]))) = H1 at hx1 hl1 xs1 T1
    have hB1 := hB.kp (xs1.tup hSc)
    refine ⟨_, rfl, o, fk, t, n, age, zs, rfl, hB1, T1, fun b' t' zs' H2 e2 T2 hB2 pm so => ?_⟩
    have hx2 := e2 _ _ hx1 fun ps z => by cases z
    have hl2 := e2 _ _ hl1 fun ps z => by cases z
    refine ⟨_, rfl, x, C, dx, _, rfl, hx2, S.cl, S.nK, (by rw [sfl_eq]; show 2 < 1000; decide), ?_⟩
    rw [sfl_put]
    have nxb : ∀ c xs, H2 c = some (.tup xs) → c ≠ x := fun c xs e z => by rw [z, hx2] at e; cases e
    refine q b' t' zs' _ (fun c u n1 n2 e ht => by rw [upd_ne n1]; exact e2 _ _ (xs1 c u n1 n2 e ht) ht) (Tabs.ins T2 hx2 _) ⟨⟨dx, upd_same⟩, by rw [upd_ne nxl.symm]; exact hl2⟩ (hB2.kp fun c xs e => by rw [upd_ne (nxb c xs e)]; exact e) pm so
end
end Deed

namespace Deed
open PySem PySem.Spec PyProof.Rows L2 LamX
section
variable {P : Program} {w : World} {K : PySem.W.Frag} {mg : Str → Option Value} {base : Heap} {T : List (Addr × Str)} {C : Addr}
/-! __init__ -/
abbrev nScI : List Str := ["self", "folk", "age"]
theorem scScI : FnScope nScI nScI (defScope sScI) := ⟨rfl, rfl, rfl, by decide +kernel, rfl, by decide +kernel, by decide +kernel⟩
def ageT (t : Tg) : Bool := t.within 0 9999
/-- good or refused -/
def spScI (C CF CA : Addr) : Sp := fun vs H Q E => ∃ (p x dx : Addr) (vf va : V) (tf ta : Tg), vs = [.ref x, vf, va] ∧ H x = some (.ins C dx []) ∧ TgAt p H vf tf ∧ TgAt p H va ta ∧
  (isFolkT tf = false → ∀ H', Same H H' → E (.ref CF) none H') ∧ (isFolkT tf = true → ageT ta = false → ∀ H', Same H H' → E (.ref CA) none H') ∧
  (isFolkT tf = true → ageT ta = true → ∀ b t l H', (∀ c o, c ≠ x → H c = some o → H' c = some o) → H b = none → H l = none → ScAt C H' x b l [] → H' b = some (.tup [vf, va, .ref t]) → H' t = some (.tup []) → Q .non H')
theorem ok_ScI {f CF CA : Addr} {fd : FuncData} {k : Nat} (F : Fun K "__init__" "Scribe.__init__" sScI f fd) (S : ScT K mg C) (NF : ExcCl K mg "NoFolk" CF) (NA : ExcCl K mg "NoAge" CA) (C_fo : CallOk P w K mg base k "is_folk" pIsFolkG (spB1 isFolkT)) (C_ag : CallOk P w K mg base k "is_age" pIsAgeG (spB1 ageT)) :
    FnOk P w K mg base (L2.CX P w) (k + 1) f fd nScI (spScI C CF CA) := by
  refine F.okX scScI (fun vs H Q E h => ?_) (fun cdv A outer s H vs Q E hr h => ?_)
  · obtain ⟨p, x, dx, vf, va, tf, ta, rfl, _⟩ := h
    rfl
  · obtain ⟨p, x, dx, vf, va, tf, ta, rfl, hx, hf, ha, q1, q2, q3⟩ := h
    refine ⟨_, pss_cons (ps_if (pt_not (pt_val (pe_call C_fo.ok hr (by rfl) C_fo.g C_fo.kp C_fo.b .nil pass0 (pa_cons (pv 1) pa_nil)))) (pss_one (ps_raise rfl (takes_of rfl rfl rfl rfl) (pmk_own PySem.F.excBase_ValueError NF.xP NF.gP NF.kP (raises_own NF.bP NF.tP) rfl))) pss_nil)
      (pss_cons (ps_if (pt_not (pt_val (pe_call C_ag.ok hr (by rfl) C_ag.g C_ag.kp C_ag.b .nil pass0 (pa_cons (pv 2) pa_nil)))) (pss_one (ps_raise rfl (takes_of rfl rfl rfl rfl) (pmk_own PySem.F.excBase_ValueError NA.xP NA.gP NA.kP (raises_own NA.bP NA.tP) rfl))) pss_nil)
      (pss_cons (ps_fld (pv 0) (pe_tup (pa_cons (pv 1) (pa_cons (pv 2) (pa_cons (pe_tup pa_nil) pa_nil)))) rfl)
      (pss_one (ps_fld (pv 0) (pe_lst pa_nil) rfl)))), ?_⟩
    refine ⟨_, rfl, p, vf, tf, rfl, hf, fun H1 s1 => ⟨_, rfl, ?_⟩⟩
    cases c1 : isFolkT tf with
    | false => exact iteT (q1 c1 H1 s1)
    | true =>
    refine iteF ?_
    refine ⟨_, rfl, p, va, ta, rfl, TgAt.same s1 _ _ ha, fun H2 s2 => ⟨_, rfl, ?_⟩⟩
    cases c2 : ageT ta with
    | false => exact iteT (q2 c1 c2 H2 (s1.trans s2))
    | true =>
    refine iteF ?_
    have s12 := s1.trans s2
    refine ⟨_, rfl, _, rfl, Nat.zero_le _, fun t nt => ?_⟩
    have s3 := same_new nt (.tup [])
    have e3 : (upd H2 t (.tup [])) t = some (.tup []) := upd_same
    generalize (upd H2 t (.tup [])) = H3 at s3 e3
    refine ⟨(by show 3 ≤ sizeLine; decide), fun b nb => ?_⟩
    have s4 := same_new nb (.tup [vf, va, .ref t])
    have e4 : (upd H3 b (.tup [vf, va, .ref t])) b = some (.tup [vf, va, .ref t]) := upd_same
    generalize (upd H3 b (.tup [vf, va, .ref t])) = H4 at s4 e4
    have s14 := s12.trans (s3.trans s4)
    have hx4 := s14 _ _ hx
    refine ⟨_, rfl, x, C, dx, [], rfl, hx4, S.cl, S.nK, (by show 0 < 1000; decide), ?_⟩
    have hx5 : (upd H4 x (.ins C dx (putF "kept" (.ref b) []))) x = some (.ins C dx (putF "kept" (.ref b) [])) := upd_same
    have k5 : ∀ c o, c ≠ x → H4 c = some o → (upd H4 x (.ins C dx (putF "kept" (.ref b) []))) c = some o := fun c o n e => by rw [upd_ne n]; exact e
    generalize (upd H4 x (.ins C dx (putF "kept" (.ref b) []))) = H5 at hx5 k5
    refine ⟨Nat.zero_le _, fun l nl => ?_⟩
    have nlx : x ≠ l := ne_of_none hx5 nl
    have hx6 : (upd H5 l (.lst [])) x = some (.ins C dx (putF "kept" (.ref b) [])) := by rw [upd_ne nlx]; exact hx5
    refine ⟨_, rfl, x, C, dx, _, rfl, hx6, S.cl, S.nE, (by show 1 < 1000; decide), ?_⟩
    have nlo : H l = none := by
      cases z : H l with
      | none => rfl
      | some o =>
        have h1 := k5 l o nlx.symm (s14 _ _ z)
        rw [nl] at h1
        cases h1
    have nbo : H b = none := none_back (s12.trans s3) nb
    have nbx : b ≠ x := fun z => by rw [z, hx4] at e4; cases e4
    have ntx : t ≠ x := fun z => by rw [z] at e3; rw [s4 _ _ (by rw [← z]; rw [z]; exact e3)] at hx4; cases hx4
    have nbl : b ≠ l := fun z => by rw [← z, k5 b _ nbx e4] at nl; cases nl
    have ntl : t ≠ l := fun z => by rw [← z, k5 t _ ntx (s4 _ _ e3)] at nl; cases nl
    refine q3 c1 c2 b t l _ (fun c o n e => ?_) nbo nlo ⟨⟨dx, upd_same⟩, ?_⟩ ?_ ?_
    · have ncl : c ≠ l := fun z => by rw [z, nlo] at e; cases e
      rw [upd_ne n, upd_ne ncl]
      exact k5 c o n (s14 _ _ e)
    · rw [upd_ne nlx.symm]
      exact upd_same
    · rw [upd_ne nbx, upd_ne nbl]
      exact k5 b _ nbx e4
    · rw [upd_ne ntx, upd_ne ntl]
      exact k5 t _ ntx (s4 _ _ e3)
end
end Deed

namespace OwnS
open PySem PySem.Spec PyProof.Rows L2
/-! ### len(x), repr(x), x as a truth, bool(x): by an own __len__, __repr__ -/
section
variable {X : Cx} {CX : CXT} {C f : Addr} {fd : FuncData} {ps : List Str} {n : Nat} {sp : Sp} {E : XK}
/-- an own special def called by the machine -/
theorem own_call (F : FnOk X.prog X.w X.K X.mg X.base CX n f fd ps sp) (hb : Binds X.K fd ps []) (hx : Passes CX X E) {A : Around} (hr : Room n A) (hfr : A.frames = X.A.frames) {pins : List (Addr × Obj)} {s : Shared} {σ : L2.St} {H : Hp} {a : Addr} {Q : VK} {R : Value → Shared → Prop} (I : Inv X pins σ H s) (hsp : sp [.ref a] H Q E)
    (back : ∀ u v s' H', Inv X pins σ H' s' → RelV v u → Q v H' → R u s') : wpAny (model X.prog X.w) A (call (.ref f) [.ref a]) R X.xe s := by
  have e0 : Env0 X.prog X.w X.K X.mg X.base A X.stack s H := by
    have e := I.env0
    exact ⟨by rw [hfr]; exact e.frames, e.mod, e.bs, e.bsz, e.funs, e.frf, e.hok, e.bare⟩
  have hl := F.len _ _ _ _ hsp
  have r2 : Vals [V.ref a] [Value.ref a] := .cons rfl .nil
  refine wpAny_call (codeAny_mono (F.run A X.stack s H ⟨[.ref a], []⟩ [.ref a] [.ref a] Q E hr e0 (by
    have := hb s [.ref a] I.kIn (by simpa using hl)
    simpa using this) r2 hsp) fun r s' hq => ?_)
  cases r with
  | error e => exact hx pins σ H s e s' I hq
  | ok fl =>
    cases fl with
    | ret w =>
      obtain ⟨z, H', I', rz, q⟩ := I.after hq
      exact back w z s' H' I' rz q
    | next => exact False.elim hq
    | brk => exact False.elim hq
    | cont => exact False.elim hq
/-- what is needed of a class's own special def -/
structure Spc (K : PySem.W.Frag) (C : Addr) (name : Str) (f : Addr) : Prop where
  hs : PySem.W.findIn K (.ref C) name = some (some (.ref f))
  hf : PySem.W.isFn K (.ref f) = true
/-- the body of len, by an own __len__ -/
theorem len_body (F : FnOk X.prog X.w X.K X.mg X.base CX n f fd ps sp) (S : Spc X.K C "__len__" f) (hb : Binds X.K fd ps []) (hx : Passes CX X E) {A : Around} (hr : Room n A.in1) (hfr : A.in1.frames = X.A.frames) {pins : List (Addr × Obj)} {s : Shared} {σ : L2.St} {H : Hp} {a dx : Addr} {fs : List (Str × V)} {Q : Int → Hp → Prop} {R : Value → Shared → Prop} (I : Inv X pins σ H s) (ha : H a = some (.ins C dx fs))
    (hsp : sp [.ref a] H (fun v H' => ∃ i : Int, v = .int i ∧ 0 ≤ i ∧ i < 2 ^ 63 ∧ Q i H') E) (back : ∀ (i : Int) (t : Tok) s' H', Inv X pins σ H' s' → Q i H' → R (.int i t) s') :
    wpAny (model X.prog X.w) A.in1 (Builtin.«len» ⟨[.ref a], []⟩) (fun fin s' => ∃ r, fin = .done (.ret r) ∧ R r s') X.xe s := by
  obtain ⟨mA, J, _⟩ := ins_get I.hok ha
  obtain ⟨od, J, _⟩ := J.look
  unfold Builtin.«len»
  refine wpAny_bind (m := oneArg "len" _) (wpAny_pure ?_)
  refine wpAny_bind (m := callSpecial? (.ref a) (Str.ofString "__len__")) (PySem.W.special_fn I.kIn J S.hs (beq_iff_eq.mp S.hf) (own_call F hb hx hr hfr I hsp (fun u v s' H' I' rv q => ?_)))
  obtain ⟨i, rfl, h0, h1, q⟩ := q
  obtain ⟨t, rfl⟩ := rv
  refine wpAny_bind (wpAny_holding (wpAny_pure ?_))
  refine wpAny_bind (wpAny_letGo ?_)
  show wpAny _ _ (if i < 0 then _ else _) _ _ _
  rw [if_neg (by omega)]
  show wpAny _ _ (if i ≥ 2 ^ 63 then _ else _) _ _ _
  rw [if_neg (by omega)]
  exact wpAny_bind (wpAny_mkInt (wpAny_pure ⟨_, rfl, back i _ _ H' (I'.tok _) q⟩))
theorem call_lenO (F : FnOk X.prog X.w X.K X.mg X.base CX n f fd ps sp) (S : Spc X.K C "__len__" f) (hb : Binds X.K fd ps []) (hx : Passes CX X E) (hr : Room (n + 1) X.A) :
    CallR X (.builtin "len") (fun xs H Q => ∃ a dx fs, xs = [.ref a] ∧ H a = some (.ins C dx fs) ∧ sp [.ref a] H (fun v H' => ∃ i : Int, v = .int i ∧ 0 ≤ i ∧ i < 2 ^ 63 ∧ Q (.int i) H') E) := by
  intro pins s σ H xs us Q I r h
  obtain ⟨a, dx, fs, rfl, ha, hsp⟩ := h
  obtain rfl := Vals.ref1 r
  refine Calls.call_function_entry kind_len plain_len entry_len (args_len1 _) ?_
  exact len_body F S hb hx hr.in1 rfl (Q := fun i H' => Q (.int i) H') I ha hsp (fun i t s' H' I' q => ⟨.int i, H', I', ⟨t, rfl⟩, q⟩)
theorem call_reprO (F : FnOk X.prog X.w X.K X.mg X.base CX n f fd ps sp) (S : Spc X.K C "__repr__" f) (hb : Binds X.K fd ps []) (hx : Passes CX X E) (hr : Room (n + 1) X.A) :
    CallR X (.builtin "repr") (fun xs H Q => ∃ a dx fs, xs = [.ref a] ∧ H a = some (.ins C dx fs) ∧ sp [.ref a] H (fun v H' => ∃ y : Str, v = .str y ∧ Q (.str y) H') E) := by
  intro pins s σ H xs us Q I r h
  obtain ⟨a, dx, fs, rfl, ha, hsp⟩ := h
  obtain rfl := Vals.ref1 r
  obtain ⟨mA, J, _⟩ := ins_get I.hok ha
  obtain ⟨od, J, _⟩ := J.look
  refine Calls.call_function_entry PySem.F.kind_repr PySem.F.plain_repr PySem.F.entry_repr (PySem.F.args_repr1 _) ?_
  unfold Builtin.«repr»
  refine wpAny_bind (m := oneArg "repr" _) (wpAny_pure ?_)
  refine wpAny_bind (wpAny_cRoomFor hr.in1.units0 ?_)
  refine wpAny_bind (wpAny_bind (J.type.here ((PySem.W.looks_findIn I.kIn S.hs).here ?_)))
  show wpAny _ _ (if (some (Value.ref f)).isNone = true then _ else _) _ _ _
  rw [if_neg (by simp)]
  refine wpAny_bind (m := callSpecialIfBound? (.ref a) (Str.ofString "__repr__") _) (PySem.W.ifBound_K I.kIn J S.hs S.hf (own_call F hb hx hr.in1 rfl I hsp (fun u v s' H' I' rv q => ?_)))
  obtain ⟨y, rfl, q⟩ := q
  obtain ⟨t, rfl⟩ := rv
  refine wpAny_bind (wpAny_isInstance (typeIs_str _ _ _) isSubtype_str_str ?_)
  first
    | exact wpAny_pure ⟨_, rfl, .str y, H', I', ⟨t, rfl⟩, q⟩
    | (rw [if_pos rfl]; exact wpAny_pure ⟨_, rfl, .str y, H', I', ⟨t, rfl⟩, q⟩)
    | (simp only [if_true]; exact wpAny_pure ⟨_, rfl, .str y, H', I', ⟨t, rfl⟩, q⟩)
/-- the truth of an instance, by an own __len__ -/
theorem truthy_own (F : FnOk X.prog X.w X.K X.mg X.base CX n f fd ps sp) (S : Spc X.K C "__len__" f) (nb : PySem.W.findIn X.K (.ref C) "__bool__" = some none) (hb : Binds X.K fd ps []) (hx : Passes CX X E) {A : Around} (hr : Room (n + 1) A) (hfr : A.frames = X.A.frames) {pins : List (Addr × Obj)} {s : Shared} {σ : L2.St} {H : Hp} {a dx : Addr} {fs : List (Str × V)} {Q : Int → Hp → Prop} {R : Bool → Shared → Prop} (I : Inv X pins σ H s) (ha : H a = some (.ins C dx fs))
    (hsp : sp [.ref a] H (fun v H' => ∃ i : Int, v = .int i ∧ 0 ≤ i ∧ i < 2 ^ 63 ∧ Q i H') E) (back : ∀ (i : Int) s' H', Inv X pins σ H' s' → Q i H' → R (i != 0) s') : wpAny (model X.prog X.w) A (truthy (.ref a)) R X.xe s := by
  obtain ⟨mA, J, _⟩ := ins_get I.hok ha
  obtain ⟨od, J, _⟩ := J.look
  have key : wpAny (model X.prog X.w) A (runValue (.builtin "len" ⟨[.ref a], []⟩)) (fun r s' => ∃ (i : Int) (t : Tok), r = .int i t ∧ R (i != 0) s') X.xe s := by
    refine wpAny_runValue (codeAny_builtin entry_len ?_)
    rw [Around.under_plainId plain_len _]
    exact wpAny_mono (len_body F S hb hx hr.in1 hfr I ha hsp (R := fun r s' => ∃ (i : Int) (t : Tok), r = .int i t ∧ R (i != 0) s') (fun i t s' H' I' q => ⟨i, t, rfl, back i s' H' I' q⟩)) (fun fin s' h' => by obtain ⟨r, rfl, hq⟩ := h'; exact hq) fun _ _ e => e
  unfold truthy
  refine wpAny_bind (m := callSpecial? (.ref a) (Str.ofString "__bool__")) (wpAny_bind (wpAny_bind (J.type.here ((PySem.W.looks_findIn I.kIn nb).here (wpAny_pure ?_)))))
  refine wpAny_bind (wpAny_bind (J.type.here ((PySem.W.looks_findIn I.kIn S.hs).here ?_)))
  refine wpAny_bind (wpAny_mono key (fun r s' h' => ?_) fun _ _ e => e)
  obtain ⟨i, t, rfl, h'⟩ := h'
  exact wpAny_pure h'
theorem truO (F : FnOk X.prog X.w X.K X.mg X.base CX n f fd ps sp) (S : Spc X.K C "__len__" f) (nb : PySem.W.findIn X.K (.ref C) "__bool__" = some none) (hb : Binds X.K fd ps []) (hx : Passes CX X E) (hr : Room (n + 1) X.A) :
    TruR X (fun v H Q => ∃ a dx fs, v = .ref a ∧ H a = some (.ins C dx fs) ∧ sp [.ref a] H (fun v H' => ∃ i : Int, v = .int i ∧ 0 ≤ i ∧ i < 2 ^ 63 ∧ Q (i != 0) H') E) := by
  intro pins s σ H x v Q I r h
  obtain ⟨a, dx, fs, rfl, ha, hsp⟩ := h
  cases r
  exact truthy_own F S nb hb hx hr rfl (Q := fun i H' => Q (i != 0) H') I ha hsp (fun i s' H' I' q => ⟨H', I', q⟩)
open PySem.F in
theorem call_boolO (F : FnOk X.prog X.w X.K X.mg X.base CX n f fd ps sp) (S : Spc X.K C "__len__" f) (nb : PySem.W.findIn X.K (.ref C) "__bool__" = some none) (hb : Binds X.K fd ps []) (hx : Passes CX X E) (hr : Room (n + 4) X.A) :
    CallR X (.type "bool") (fun xs H Q => ∃ a dx fs, xs = [.ref a] ∧ H a = some (.ins C dx fs) ∧ sp [.ref a] H (fun v H' => ∃ i : Int, v = .int i ∧ 0 ≤ i ∧ i < 2 ^ 63 ∧ Q (.bl (i != 0)) H') E) := by
  intro pins s σ H xs us Q I r h
  obtain ⟨a, dx, fs, rfl, ha, hsp⟩ := h
  obtain rfl := Vals.ref1 r
  refine callType_codes (T := "bool") (Bi := Builtin.«object.__init__») (Q₁ := fun r s₁ => ∃ b, r = .bool b ∧ EP X pins σ Q r s₁) PySem.F.called_bool (PySem.F.typeCall_bool_1 _) PySem.F.entry_object_init ?_ ?_
  · refine codeAny_of_tree ?_
    show wpAny _ _ (do checkBuiltinCall "bool.__new__" ⟨[.type "bool", .ref a], []⟩; again (.builtin "bool.__new__" ⟨[.type "bool", .ref a], []⟩)) _ _ s
    refine wpAny_bind (wpAny_of_eq (PySem.F.newCall_bool_1 _) (wpAny_pure ⟨plainId_quiet (by decide +kernel) _, codeAny_builtin PySem.F.entry_bool_new ?_⟩))
    rw [Around.under_plainId (by decide +kernel) _]
    have key : ∀ A : Around, Room (n + 1) A → A.frames = X.A.frames → wpAny (model X.prog X.w) A (truthy (.ref a)) (fun b s' => EP X pins σ Q (.bool b) s') X.xe s := fun A hA hf => truthy_own F S nb hb hx hA hf (Q := fun i H' => Q (.bl (i != 0)) H') I ha hsp (fun i s' H' I' q => ⟨.bl (i != 0), H', I', rfl, q⟩)
    have key2 : ∀ (A : Around) (R : Bool → Shared → Prop), Room (n + 1) A → A.frames = X.A.frames → (∀ b s', EP X pins σ Q (.bool b) s' → R b s') → wpAny (model X.prog X.w) A (truthy (.ref a)) R X.xe s := fun A R hA hf hR => wpAny_mono (key A hA hf) (fun b s' h => hR b s' h) fun _ _ e => e
    clear key
    unfold Builtin.«bool.__new__»
    have f1 := PySem.F.conv_sub_bool
    obtain ⟨hp, g, d, tk, os⟩ := s
    repeat (any_goals (first | assumption | (with_reducible refine key2 _ _ ?_ ?_ ?_) | wp_step))
    · exact (hr.mono (show n + 1 + 2 ≤ n + 4 by omega)).in1.in1
    · rfl
    · intro b s' h
      exact wpAny_pure ⟨_, rfl, h⟩
  · rintro obj s₁ ⟨b, rfl, hq⟩
    exact ⟨rfl, PySem.F.args_object_init_2 _ _, object_init_meets PySem.F.called_bool.init.lookup PySem.F.called_bool.made (by decide) X.prog X.w X.A.in1 _ s₁ ⟨rfl, rfl, hq⟩⟩
end
end OwnS

namespace OwnE
open PySem PySem.Spec PyProof.Rows L2
/-! ### x == y and x != y by an own __eq__, with both answers -/
structure EqF (K : PySem.W.Frag) (C f : Addr) : Prop where
  hs : PySem.W.findIn K (.ref C) "__eq__" = some (some (.ref f))
  hf : PySem.W.isFn K (.ref f) = true
  hn : PySem.W.findIn K (.ref C) "__ne__" = some (some (.builtin "object.__ne__"))
  hm : PySem.W.mroIn K C (.type "object") = some true
section
variable {prog : Program} {w : World} {A : Around} {E : Value → Shared → Prop} {s : Shared} {K : PySem.W.Frag} {x C f : Addr} {ox : Obj} {od : Option Obj} {b tb : Value}
theorem check_ne {M : Model} {Q : Unit → Shared → Prop} (X : K.In s.heap) (I : PySem.W.InstAt s.heap x ox C od) (hm : PySem.W.mroIn K C (.type "object") = some true) (h : Q () s) : wpAny M A (checkBuiltinCall "object.__ne__" ⟨[.ref x, b], []⟩) Q E s := by
  obtain ⟨hh, g, dr, t, os⟩ := s
  have L0 := I.type (M := M)
  have L1 := PySem.W.looks_mroIn (M := M) X hm
  simp only [checkBuiltinCall, PySem.F.cmpKind_ne, PySem.F.cmpSplit_ne]
  refine wpAny_bind ?_
  unfold isInstance
  repeat lk
  exact h
theorem ne_K {Q : Value → Shared → Prop} (hu : A.units + 1 < cLine) (X : K.In s.heap) (I : PySem.W.InstAt s.heap x ox C od) (hb : PySem.W.Looks (model prog w) s.heap (typeOf b) tb) (hn : PySem.W.notFirst K C tb = true) (F : EqF K C f)
    (h : wpAny (model prog w) A.in1 (call (.ref f) [.ref x, b]) (fun v s' => ∃ r, v = .bool r ∧ Q (.bool (!r)) s') E s) : wpAny (model prog w) A (richCompare .NotEq (.ref x) b) Q E s := by
  have body : wpAny (model prog w) A.in1 (Builtin.«object.__ne__» ⟨[.ref x, b], []⟩) (fun fin s' => ∃ r, fin = .done (.ret (.bool r)) ∧ Q (.bool r) s') E s := by
    unfold Builtin.«object.__ne__»
    refine wpAny_bind (wpAny_pure ?_)
    refine wpAny_bind (wpAny_cRoomFor (show A.in1.units < cLine from hu) ?_)
    refine wpAny_bind (m := callSpecialIfBound? (.ref x) (Str.ofString "__eq__") [b]) (PySem.W.ifBound_K X I F.hs F.hf (wpAny_mono h (fun r s' hr => ?_) fun _ _ e => e))
    obtain ⟨r, rfl, hq⟩ := hr
    refine wpAny_bind (m := truthy (.bool r)) (wpAny_truthy_bool ?_)
    exact wpAny_pure ⟨_, rfl, hq⟩
  have one : wpAny (model prog w) A (tryCompare (.ref x) (cmpInfo .NotEq).2.1 b) (fun r s' => ∃ v, r = some v ∧ Q v s') E s := by
    unfold tryCompare
    refine wpAny_bind ?_
    simp only [callSpecialIfBound?, bindSpecialIfBound?]
    refine wpAny_holding (wpAny_bind (wpAny_bind (wpAny_bind (I.type.here ((PySem.W.looks_findIn X F.hn).here ?_)))))
    simp only [PySem.F.cmp_object.ne.bind]
    refine wpAny_bind (wpAny_askSetting (wpAny_ite ?_))
    have fin : wpAny (model prog w) A (call (.builtin "object.__ne__") ([.ref x] ++ [b]) >>= fun v => pure (some v)) (fun v s' => wpAny (model prog w) A (match v with | some .notImplemented => pure none | none => pure none | some v => pure (some v)) (fun r s' => ∃ v, r = some v ∧ Q v s') E s') E s := by
      refine wpAny_bind (wpAny_call (codeAny_call_builtin PySem.F.cmp_object.ne.plain PySem.F.cmpEntry_ne (check_ne X I F.hm (wpAny_mono body (fun fn s' hf => ?_) fun _ _ e => e))))
      obtain ⟨r, rfl, hq⟩ := hf
      exact wpAny_pure (wpAny_pure ⟨_, rfl, hq⟩)
    split
    · exact wpAny_bind (wpAny_pure (wpAny_pure fin))
    · exact wpAny_tryCatch (wpAny_bind (wpAny_pure (wpAny_pure fin)))
  unfold richCompare
  simp only [oneThing_ref]
  refine wpAny_holding (wpAny_bind (wpAny_cRoomFor (Nat.lt_of_succ_lt hu) ?_))
  refine wpAny_bind (I.type.here (wpAny_bind (hb.here ?_)))
  split
  · rename_i q
    have e : PySem.W.subIn K tb (.ref C) = some false := by
      rcases Bool.or_eq_true_iff.mp hn with e | e
      · rw [beq_iff_eq.mp e] at q; simp at q
      · exact beq_iff_eq.mp e
    refine wpAny_bind ((PySem.W.looks_subIn X e).here ?_)
    simp only [Bool.false_eq_true, if_false]
    refine wpAny_bind (wpAny_mono one (fun r s' z => ?_) fun _ _ e => e)
    obtain ⟨v, rfl, hq⟩ := z
    exact wpAny_pure hq
  · refine wpAny_bind (wpAny_pure ?_)
    simp only [Bool.false_eq_true, if_false]
    refine wpAny_bind (wpAny_mono one (fun r s' z => ?_) fun _ _ e => e)
    obtain ⟨v, rfl, hq⟩ := z
    exact wpAny_pure hq
end
section
variable {X : Cx} {CX : CXT} {C f : Addr} {fd : FuncData} {ps : List Str} {n : Nat} {sp : Sp} {E : XK}
theorem own_call2 (F : FnOk X.prog X.w X.K X.mg X.base CX n f fd ps sp) (hb : Binds X.K fd ps []) (hx : Passes CX X E) {A : Around} (hr : Room n A) (hfr : A.frames = X.A.frames) {pins : List (Addr × Obj)} {s : Shared} {σ : L2.St} {H : Hp} {a : Addr} {y : V} {u : Value} {Q : VK} {R : Value → Shared → Prop} (I : Inv X pins σ H s) (ry : RelV y u) (hsp : sp [.ref a, y] H Q E)
    (back : ∀ u v s' H', Inv X pins σ H' s' → RelV v u → Q v H' → R u s') : wpAny (model X.prog X.w) A (call (.ref f) [.ref a, u]) R X.xe s := by
  have e0 : Env0 X.prog X.w X.K X.mg X.base A X.stack s H := by
    have e := I.env0
    exact ⟨by rw [hfr]; exact e.frames, e.mod, e.bs, e.bsz, e.funs, e.frf, e.hok, e.bare⟩
  have hl := F.len _ _ _ _ hsp
  have r2 : Vals [V.ref a, y] [Value.ref a, u] := .cons rfl (.cons ry .nil)
  refine wpAny_call (codeAny_mono (F.run A X.stack s H ⟨[.ref a, u], []⟩ [.ref a, u] [.ref a, y] Q E hr e0 (by
    have := hb s [.ref a, u] I.kIn (by simpa using hl)
    simpa using this) r2 hsp) fun r s' hq => ?_)
  cases r with
  | error e => exact hx pins σ H s e s' I hq
  | ok fl =>
    cases fl with
    | ret w =>
      obtain ⟨z, H', I', rz, q⟩ := I.after hq
      exact back w z s' H' I' rz q
    | next => exact False.elim hq
    | brk => exact False.elim hq
    | cont => exact False.elim hq
/-- x == y: what the own == says -/
def rEqO (K : PySem.W.Frag) (C : Addr) (sp : Sp) (E : XK) (sgn : Bool) : R2 := fun x y H Q => ∃ a dx fs t, x = .ref a ∧ H a = some (.ins C dx fs) ∧ TyX K H y t ∧ PySem.W.notFirst K C t = true ∧ sp [.ref a, y] H (fun v H' => ∃ b, v = .bl b ∧ Q (.bl (b == sgn)) H') E
theorem rc_eqO (F : FnOk X.prog X.w X.K X.mg X.base CX n f fd ps sp) (G : EqF X.K C f) (hb : Binds X.K fd ps []) (hx : Passes CX X E) {A : Around} (hr : Room n A) (hfr : A.frames = X.A.frames) {pins : List (Addr × Obj)} {s : Shared} {σ : L2.St} {H : Hp} {a dx : Addr} {fs : List (Str × V)} {y : V} {u t : Value} {Q : VK} {R : Value → Shared → Prop} (I : Inv X pins σ H s) (ry : RelV y u) (ha : H a = some (.ins C dx fs)) (ty : TyX X.K H y t) (nf : PySem.W.notFirst X.K C t = true)
    (hsp : sp [.ref a, y] H (fun v H' => ∃ b, v = .bl b ∧ Q (.bl b) H') E) (back : ∀ b s' H', Inv X pins σ H' s' → Q (.bl b) H' → R (.bool b) s') : wpAny (model X.prog X.w) A (richCompare .Eq (.ref a) u) R X.xe s := by
  obtain ⟨mA, J, _⟩ := ins_get I.hok ha
  obtain ⟨od, J, _⟩ := J.look
  obtain ⟨m, hF⟩ := I.fr
  obtain ⟨P, Z, p, _⟩ := kit_of I ry ty
  refine PySem.W.cmp_K (op := .Eq) hr.units0 hF I.ok.mod.kin J (Z.ty _ _ I.kIn p) nf G.hs G.hf (own_call2 F hb hx hr hfr I ry hsp fun w v s' H' I' rv q => ?_)
  obtain ⟨b, rfl, q⟩ := q
  cases rv
  exact back b s' H' I' q
theorem op_eqO (F : FnOk X.prog X.w X.K X.mg X.base CX n f fd ps sp) (G : EqF X.K C f) (hb : Binds X.K fd ps []) (hx : Passes CX X E) (hr : Room (n + 1) X.A) : OpR X (compareOp .Eq) (rEqO X.K C sp E true) := by
  intro pins s σ H x y v u Q I rx ry hq
  obtain ⟨a, dx, fs, t, rfl, ha, ty, nf, hsp⟩ := hq
  cases rx
  show wpAny (model X.prog X.w) X.A (richCompare .Eq (.ref a) u) (EP X pins σ Q) X.xe s
  exact rc_eqO F G hb hx (hr.mono (by omega)) rfl (Q := fun v H' => ∃ b, v = .bl b ∧ Q (.bl (b == true)) H') I ry ha ty nf (by simpa using hsp) (fun b s' H' I' q => by obtain ⟨b', e, q⟩ := q; cases e; exact ⟨.bl b, H', I', rfl, by simpa using q⟩)
theorem op_neO (F : FnOk X.prog X.w X.K X.mg X.base CX n f fd ps sp) (G : EqF X.K C f) (hb : Binds X.K fd ps []) (hx : Passes CX X E) (hr : Room (n + 1) X.A) : OpR X (compareOp .NotEq) (rEqO X.K C sp E false) := by
  intro pins s σ H x y v u Q I rx ry hq
  obtain ⟨a, dx, fs, t, rfl, ha, ty, nf, hsp⟩ := hq
  cases rx
  show wpAny (model X.prog X.w) X.A (richCompare .NotEq (.ref a) u) (EP X pins σ Q) X.xe s
  obtain ⟨mA, J, _⟩ := ins_get I.hok ha
  obtain ⟨od, J, _⟩ := J.look
  obtain ⟨P, Z, p, _⟩ := kit_of I ry ty
  refine ne_K (by have := hr.in1.units0; exact this) I.kIn J (Z.ty _ _ I.kIn p) nf G (own_call2 F hb hx hr.in1 rfl I ry hsp fun w v s' H' I' rv q => ?_)
  obtain ⟨b, rfl, q⟩ := q
  cases rv
  refine ⟨b, rfl, .bl (!b), H', I', rfl, ?_⟩
  cases b <;> exact q
end
end OwnE

namespace OwnE
open PySem PySem.Spec PyProof.Rows L2
open AutoSeq1 (wpAny_loadPart')
open MeetsSeq MeetsSeq2 MeetsSeq3 SeqRoads2
section
variable {prog : Program} {w : World} {A : Around} {E : Value → Shared → Prop} {s : Shared}
/-- x in [y] -/
theorem in_one {l : Addr} {n : Nat} {items : Array Value} {y x : Value} {Q : Value → Shared → Prop} (h0 : items[((0 : Nat) : Int).toNat]? = some y) (h1 : items[((1 : Nat) : Int).toNat]? = none) (hl : s.heap.get? l = some { cls := .type "list", data := .seq items n })
    (h : wpAny (model prog w) A.in1 (eqBool y x) (fun b s' => (∃ m, s'.heap.get? l = some { cls := .type "list", data := .seq items m }) ∧ Q (.bool b) s') E s) : wpAny (model prog w) A (compareOp .In x (.ref l)) Q E s := by
  have last : ∀ s2 : Shared, (∃ m, s2.heap.get? l = some { cls := .type "list", data := .seq items m }) → Q (.bool false) s2 → wpAny (model prog w) A.in1 (Builtin.«list.__contains__.loop» ⟨[.ref l, x, rawInt ((1 : Nat) : Int)], []⟩) (GQ.FinOf prog w A (wants (fun v s' => ∃ b, v = .bool b ∧ Q (.bool b) s') E)) (fun e s' => wants (fun v s' => ∃ b, v = .bool b ∧ Q (.bool b) s') E (.error e) s') s2 := by
    rintro s2 ⟨m, hl2⟩ q
    obtain ⟨hp2, g2, d2, tk2, os2⟩ := s2
    wp_walk using wpAny_loadPart' hl2
    rw [h1]
    wp_walk
    exact ⟨_, rfl, q⟩
  have first : wpAny (model prog w) A.in1 (Builtin.«list.__contains__.loop» ⟨[.ref l, x, rawInt ((0 : Nat) : Int)], []⟩) (GQ.FinOf prog w A (wants (fun v s' => ∃ b, v = .bool b ∧ Q (.bool b) s') E)) (fun e s' => wants (fun v s' => ∃ b, v = .bool b ∧ Q (.bool b) s') E (.error e) s') s := by
    obtain ⟨hp, g, d, tk, os⟩ := s
    wp_walk using wpAny_loadPart' hl
    rw [h0]
    refine wpAny_bind (wpAny_mono h (fun b s2 h2 => ?_) fun _ _ e => e)
    obtain ⟨h3, q⟩ := h2
    have l2 := last s2 h3
    obtain ⟨hp2, g2, d2, tk2, os2⟩ := s2
    have hc : (((0 : Nat) : Int) + 1) = ((1 : Nat) : Int) := by decide
    cases b with
    | true =>
      wp_walk
      exact ⟨_, rfl, q⟩
    | false =>
      wp_walk
      refine ⟨plainId_quiet plain_contains_loop _, codeAny_builtin entry_contains_loop ?_⟩
      rw [Around.under_plainId plain_contains_loop _]
      exact l2 q
  show wpAny _ A (do return .bool (← contains (.ref l) x)) Q E s
  refine wpAny_bind (wpAny_contains_slot ⟨_, hl, rfl⟩ F.slot_list_contains (wpAny_mono (GQ.call_here (Q := fun v s' => ∃ b, v = .bool b ∧ Q (.bool b) s') F.slot_list_contains ⟨_, hl, rfl⟩ F.entry_list_contains (F.args_list_contains_2 _ _) ?_) (fun v s' hv => ?_) fun _ _ e => e))
  · obtain ⟨hp, g, d, tk, os⟩ := s
    wp_walk using wpAny_loadPart' hl
    refine ⟨plainId_quiet plain_contains_loop _, codeAny_builtin entry_contains_loop ?_⟩
    rw [Around.under_plainId plain_contains_loop _]
    exact first
  · obtain ⟨b, rfl, hq⟩ := hv
    exact wpAny_truthy_bool (wpAny_pure hq)
end
section
variable {X : Cx} {CX : CXT} {C f : Addr} {fd : FuncData} {ps : List Str} {n : Nat} {sp : Sp} {E : XK}
/-- x in [y], y an instance with an own == -/
def rInO (C : Addr) (sp : Sp) (E : XK) : R2 := fun x y H Q => ∃ a b l dx gs dy fs, x = .ref b ∧ y = .ref l ∧ H l = some (.lst [.ref a]) ∧ H a = some (.ins C dx fs) ∧ H b = some (.ins C dy gs) ∧ (a = b → Q (.bl true) H) ∧
  (a ≠ b → sp [.ref a, .ref b] H (fun v H' => ∃ r, v = .bl r ∧ H' l = some (.lst [.ref a]) ∧ Q (.bl r) H') E)
theorem op_inO (F : FnOk X.prog X.w X.K X.mg X.base CX n f fd ps sp) (G : EqF X.K C f) (hb : Binds X.K fd ps []) (hx : Passes CX X E) (hr : Room (n + 1) X.A) : OpR X (compareOp .In) (rInO C sp E) := by
  intro pins s σ H x y v u Q I rx ry hq
  obtain ⟨a, b, l, dx, gs, dy, fs, rfl, rfl, hl, ha, hb', q1, q2⟩ := hq
  cases rx
  cases ry
  obtain ⟨z, its, k, r, e⟩ := I.hok l _ hl
  obtain ⟨u, rfl, ru⟩ : ∃ u, its = [u] ∧ RelV (.ref a) u := by
    cases r with
    | cons r t =>
      cases t
      exact ⟨_, rfl, r⟩
  cases ru
  refine in_one (by rfl) (by rfl) e ?_
  by_cases hab : a = b
  · subst hab
    exact SeqAt.EqAt.same (A := X.A.in1) (s := s) (.ref a) X.prog X.w X.xe _ ⟨⟨_, e⟩, .bl true, H, I, rfl, q1 rfl⟩
  · refine GQ.eqBool_refG hab ?_
    obtain ⟨mA, J, _⟩ := ins_get I.hok ha
    obtain ⟨od, J, _⟩ := J.look
    obtain ⟨mB, J', _⟩ := ins_get I.hok hb'
    obtain ⟨od', J', _⟩ := J'.look
    obtain ⟨m, hF⟩ := I.fr
    refine PySem.W.cmp_K (op := .Eq) (tb := .ref C) hr.in1.units0 hF I.ok.mod.kin J J'.type (by simp [PySem.W.notFirst]) G.hs G.hf (own_call2 F hb hx hr.in1 rfl I (show RelV (.ref b) (Value.ref b) from rfl) (q2 hab) fun w v s' H' I' rv q => ?_)
    obtain ⟨r', rfl, el, q⟩ := q
    cases rv
    obtain ⟨z', its', k', r2, e'⟩ := I'.hok l _ el
    obtain rfl : its' = [.ref a] := by
      cases r2 with
      | cons r t =>
        cases t
        cases r
        rfl
    exact ⟨r', rfl, ⟨_, e'⟩, .bl r', H', I', rfl, q⟩
end
end OwnE

namespace OwnS
open PySem PySem.Spec PyProof.Rows L2
section
variable {X : Cx} {CX : CXT} {C f : Addr} {fd : FuncData} {ps : List Str} {n : Nat} {sp : Sp} {E : XK}
/-- str(x), by an own __str__ -/
theorem call_strO (F : FnOk X.prog X.w X.K X.mg X.base CX n f fd ps sp) (S : Spc X.K C "__str__" f) (hb : Binds X.K fd ps []) (hx : Passes CX X E) (hr : Room (n + 3) X.A) :
    CallR X (.type "str") (fun xs H Q => ∃ a dx fs, xs = [.ref a] ∧ H a = some (.ins C dx fs) ∧ sp [.ref a] H (fun v H' => ∃ y : Str, v = .str y ∧ Q (.str y) H') E) := by
  intro pins s σ H xs us Q I r h
  obtain ⟨a, dx, fs, rfl, ha, hsp⟩ := h
  obtain rfl := Vals.ref1 r
  obtain ⟨mA, J, _⟩ := ins_get I.hok ha
  obtain ⟨od, J, _⟩ := J.look
  refine PySem.W.kso_call hr.in1.in1.units0 I.kIn J S.hs S.hf ?_
  refine own_call F hb hx ((hr.mono (show n + 2 ≤ n + 3 by omega)).in1.in1) rfl I hsp fun u v s' H' I' rv q => ?_
  obtain ⟨y, rfl, q⟩ := q
  obtain ⟨t, rfl⟩ := rv
  exact ⟨.str y, H', I', ⟨t, rfl⟩, q⟩
end
end OwnS

namespace OwnS
open PySem PySem.Spec PyProof.Rows L2
/-- an expression whose object is locked from then on (a new dict that is walked) -/
def tFrz (te : TE) : TE := fun σ H Q => te σ H fun x H1 => ∃ d u, x = .ref d ∧ H1 d = some u ∧ Mut (some u) ∧ ∀ od, Q (.ref d) (upd H1 d (.frz od u))
theorem pe_frz {X : Cx} {e : Expr} {te : TE} (he : PE X e te) : PE X e (tFrz te) := by
  refine ⟨fun pins s σ H Q I h => ?_⟩
  refine thn (he.run pins s σ H _ I h) fun u s1 ⟨x, H1, I1, rx, d, o, ex, hd, mu, q⟩ => ?_
  subst ex
  obtain ⟨od, I2⟩ := I1.lock hd mu
  exact ⟨.ref d, _, I2, rx, q od⟩
end OwnS

namespace Deed
open PySem PySem.Spec PyProof.Rows L2 LamX
section
variable {P : Program} {w : World} {K : PySem.W.Frag} {mg : Str → Option Value} {base : Heap} {T : List (Addr × Str)} {C : Addr}
theorem PenAt.lst {H : Hp} {p : Addr} (h : PenAt H p) : ∃ xs, H p = some (.lst xs) := by
  obtain ⟨x1, x2, x3, x4, z1, _⟩ := h
  exact ⟨_, z1⟩
theorem PenAt.xs {C x l p : Addr} {H H' : Hp} {b : Addr} {es : List V} (h : PenAt H p) (s : XS x l H H') (hSc : ScAt C H x b l es) (n : l ≠ p) : PenAt H' p := by
  obtain ⟨⟨dx, h1⟩, _⟩ := hSc
  obtain ⟨x1, x2, x3, x4, z1, z2⟩ := h
  exact ⟨x1, x2, x3, x4, s _ _ (fun z => by rw [z, h1] at z1; cases z1) n.symm z1 (fun ps z => by cases z), z2⟩
/-- a scribe is made -/
theorem made {H : Hp} {CF CA fk x dx : Addr} {n : Nat} {age : Int} {R : Hp → Prop} {E : XK} (nx : H x = none) (ndx : H dx = none) (ne : dx ≠ x) (hF : FolkAt H fk n) (h2 : 2 ≤ n) (h6 : n ≤ 6) (hag0 : 0 ≤ age) (hag1 : age ≤ 9999) (q : ∀ b t l H', Same H H' → H l = none → ScAt C H' x b l [] → BookAt H' b fk t n age [] → R H') :
    spScI C CF CA (.ref x :: ([.ref fk, .int age] ++ [])) (upd (upd H dx (.own x)) x (.ins C dx [])) (fun v H2 => v = .non ∧ R H2) E := by
  have sx : Same H (upd (upd H dx (.own x)) x (.ins C dx [])) := (same_new ndx _).trans (same_new (by rw [upd_ne ne.symm]; exact nx) _)
  have ex : (upd (upd H dx (.own x)) x (.ins C dx [])) x = some (.ins C dx []) := upd_same
  generalize (upd (upd H dx (.own x)) x (.ins C dx [])) = H6 at sx ex
  obtain ⟨ts, hts, htl, _, hfo⟩ := folk_tg (p := x) hF (by omega)
  have hfk : isFolkT (.tup ts) = true := by
    show ((decide (1 ≤ ts.length) && decide (ts.length ≤ 6)) && ts.all isPersonT) = true
    rw [hfo, htl, decide_eq_true (by omega), decide_eq_true h6]
    rfl
  have hag : ageT (.int age) = true := by
    show (decide (0 ≤ age) && decide (age ≤ 9999)) = true
    rw [decide_eq_true hag0, decide_eq_true hag1]
    rfl
  refine ⟨x, x, dx, _, _, _, _, rfl, ex, TgAt.same sx _ _ hts, .int age, fun d1 H7 s7 => ?_, fun d1 d2 H7 s7 => ?_, fun d1 d2 b t l H7 s7 nb nl hSc eb et => ⟨rfl, ?_⟩⟩
  · rw [hfk] at d1; cases d1
  · rw [hag] at d2; cases d2
  have s57 : Same H H7 := fun a o ea => s7 a o (fun z => by rw [z, nx] at ea; cases ea) (sx _ _ ea)
  exact q b t l H7 s57 (none_back sx nl) hSc ⟨eb, hF.kpT (Same.tup s57), h2, h6, hag0, hag1, et, fun _ h => (nomatch h), ⟨List.nodup_nil, fun _ h => (nomatch h), fun _ h => (nomatch h)⟩, Nat.zero_le _⟩
end
end Deed

namespace Deed
open PySem PySem.Spec PyProof.Rows L2 LamX
/-- a method of a class -/
structure CallM (P : Program) (w : World) (K : PySem.W.Frag) (mg : Str → Option Value) (base : Heap) (CX : CXT) (L : Nat) (C : Addr) (m : Str) (ps : List Str) (sp : Sp) where
  f : Addr
  fd : FuncData
  h : Meth K C m f
  b : Binds K fd ps []
  ok : FnOk P w K mg base CX L f fd ps sp
def CallM.mono {P : Program} {w : World} {K : PySem.W.Frag} {mg : Str → Option Value} {base : Heap} {CX : CXT} {L L' : Nat} {C : Addr} {m : Str} {ps : List Str} {sp : Sp} (c : CallM P w K mg base CX L C m ps sp) (h : L ≤ L') : CallM P w K mg base CX L' C m ps sp := ⟨c.f, c.fd, c.h, c.b, c.ok.mono h⟩
/-- an own special def of a class -/
structure CallS (P : Program) (w : World) (K : PySem.W.Frag) (mg : Str → Option Value) (base : Heap) (L : Nat) (C : Addr) (m : Str) (ps : List Str) (sp : Sp) where
  f : Addr
  fd : FuncData
  h : OwnS.Spc K C m f
  b : Binds K fd ps []
  ok : FnOk P w K mg base CX0 L f fd ps sp
def CallS.mono {P : Program} {w : World} {K : PySem.W.Frag} {mg : Str → Option Value} {base : Heap} {L L' : Nat} {C : Addr} {m : Str} {ps : List Str} {sp : Sp} (c : CallS P w K mg base L C m ps sp) (h : L ≤ L') : CallS P w K mg base L' C m ps sp := ⟨c.f, c.fd, c.h, c.b, c.ok.mono h⟩
/-- how many deeds and acts, as a text -/
def cntT (a b : Nat) : Str := ((("Scribe(" : Str) ++ PySem.Str.ofString (toString (a : Int)) ++ (" deeds, " : Str)) ++ PySem.Str.ofString (toString (b : Int))) ++ (" acts)" : Str)
abbrev nDe (zs : List (Addr × En)) : Nat := (zs.filter fun z => z.2.isDeed).length
abbrev nAc (zs : List (Addr × En)) : Nat := (zs.filter fun z => !z.2.isDeed).length
section
variable {P : Program} {w : World} {K : PySem.W.Frag} {mg : Str → Option Value} {base : Heap} {T : List (Addr × Str)} {C : Addr}
/-! book -/
abbrev nScB : List Str := ["self"]
theorem scScB : FnScope nScB nScB (defScope sScB) := ⟨rfl, rfl, rfl, by decide +kernel, rfl, by decide +kernel, by decide +kernel⟩
def spScB (C : Addr) : Sp := fun vs H Q _ => ∃ (x b l : Addr) (es : List V), vs = [.ref x] ∧ ScAt C H x b l es ∧ Q (.ref b) H
theorem ok_ScB {f : Addr} {fd : FuncData} {k : Nat} (F : Fun K "book" "Scribe.book" sScB f fd) (S : ScT K mg C) : FnOk P w K mg base CX0 (k + 1) f fd nScB (spScB C) := by
  refine F.ok scScB (fun vs H Q E h => ?_) (fun cdv A outer s H vs Q E hr h => ?_)
  · obtain ⟨x, b, l, es, rfl, _⟩ := h
    rfl
  · obtain ⟨x, b, l, es, rfl, hSc, q⟩ := h
    obtain ⟨⟨dx, hx⟩, hll⟩ := id hSc
    refine ⟨_, pss_one (ps_ret (pe_fld (pv 0) rfl)), ?_⟩
    exact ⟨_, rfl, x, C, dx, _, _, rfl, hx, S.cl, S.nK, sfl_kept b l, q⟩
/-! undo -/
abbrev sScU : Stmt := inClass (topS 80) 4
theorem scScU : FnScope nScB nScB (defScope sScU) := ⟨rfl, rfl, rfl, by decide +kernel, rfl, by decide +kernel, by decide +kernel⟩
theorem sfl_putE (b l l' : Addr) : putF "earlier" (.ref l') (sfl b l) = sfl b l' := by
  rw [sfl_eq, sfl_eq]
  show (if ("kept" : Str) = "earlier" then _ else (("kept" : Str), V.ref b) :: (if ("earlier" : Str) = "earlier" then (("earlier" : Str), V.ref l') :: _ else _)) = ([("kept", V.ref b), ("earlier", V.ref l')] : List (Str × V))
  rw [if_neg kKE, if_pos rfl]
def spScU (C CG : Addr) (T : List (Addr × Str)) : Sp := fun vs H Q E => ∃ (x b l : Addr) (es : List V), vs = [.ref x] ∧ ScAt C H x b l es ∧ Tabs T H ∧ (es = [] → E (.ref CG) none H) ∧
  (∀ fs r0, es = fs ++ [r0] → ∃ r, r0 = .ref r ∧ ∀ H', XS x l H H' → Tabs T H' → ScAt C H' x r l fs → Q .non H')
theorem ok_ScU {f CG : Addr} {fd : FuncData} {k : Nat} (F : Fun K "undo" "Scribe.undo" sScU f fd) (S : ScT K mg C) (NG : ExcCl K mg "NothingDone" CG) : FnOk P w K mg base (L2.CX P w) (k + 1) f fd nScB (spScU C CG T) := by
  refine F.okX scScU (fun vs H Q E h => ?_) (fun cdv A outer s H vs Q E hr h => ?_)
  · obtain ⟨x, b, l, es, rfl, _⟩ := h
    rfl
  · obtain ⟨x, b, l, es, rfl, hSc, hT, q1, q2⟩ := h
    obtain ⟨⟨dx, hx⟩, hl⟩ := id hSc
    have nxl : x ≠ l := fun z => by rw [z, hl] at hx; cases hx
    refine ⟨_, pss_cons (ps_if (pt_not (pt_truth (pe_fld (pv 0) rfl) (fun _ => rfl))) (pss_one (ps_raise rfl (takes_of rfl rfl rfl rfl) (pmk_own PySem.F.excBase_ValueError NG.xP NG.gP NG.kP (raises_own NG.bP NG.tP) rfl))) pss_nil)
      (pss_one (ps_fld (pv 0) (pe_bm0 PySem.F.plainAttrs_list PySem.F.slot_list_pop PySem.F.type_list_pop mt_pop (pe_fld (pv 0) rfl)) rfl)), ?_⟩
    refine ⟨_, rfl, x, C, dx, _, _, rfl, hx, S.cl, S.nE, sfl_earlier b l, _, .inl ⟨_, SqL.of hl, rfl⟩, ?_⟩
    rcases List.eq_nil_or_concat es with rfl | ⟨fs, r0, rfl⟩
    · exact iteT (q1 rfl)
    rw [List.concat_eq_append] at hl hSc q2 ⊢
    have hne : (fs ++ [r0]).isEmpty = false := by cases fs <;> rfl
    rw [hne]
    refine iteF ?_
    refine ⟨_, rfl, x, C, dx, _, _, rfl, hx, S.cl, S.nE, sfl_earlier b l, .inl ⟨rfl, _, SqL.of hl⟩, l, _, r0, rfl, rfl, hl, (by rw [List.length_append, List.getElem?_append_right (by simp)]; simp), ?_⟩
    obtain ⟨r, rfl, q3⟩ := q2 fs r0 rfl
    rw [List.dropLast_concat]
    have hx1 : (upd H l (.lst fs)) x = some (.ins C dx (sfl b l)) := by rw [upd_ne nxl]; exact hx
    have hl1 : (upd H l (.lst fs)) l = some (.lst fs) := upd_same
    have xs1 : XS x l H (upd H l (.lst fs)) := fun c u _ n2 e _ => by rw [upd_ne n2]; exact e
    have T1 : Tabs T (upd H l (.lst fs)) := Tabs.put hT hl _
    generalize (upd H l (.lst fs)) = H1 at hx1 hl1 xs1 T1
    refine ⟨_, rfl, x, C, dx, _, rfl, hx1, S.cl, S.nK, (by rw [sfl_eq]; show 2 < 1000; decide), ?_⟩
    rw [sfl_put]
    exact q3 _ (fun c u n1 n2 e ht => by rw [upd_ne n1]; exact xs1 c u n1 n2 e ht) (Tabs.ins T1 hx1 _) ⟨⟨dx, upd_same⟩, by rw [upd_ne nxl.symm]; exact hl1⟩
/-! write -/
abbrev nScW : List Str := ["self", "entry"]
theorem scScW : FnScope nScW nScW (defScope sScW) := ⟨rfl, rfl, rfl, by decide +kernel, rfl, by decide +kernel, by decide +kernel⟩
def spScW (C : Addr) (T : List (Addr × Str)) : Sp := fun vs H Q _ => ∃ (x b l fk t a : Addr) (es : List V) (n : Nat) (age : Int) (zs : List (Addr × En)) (e : En), vs = [.ref x, .ref a] ∧ ScAt C H x b l es ∧ es.length ≤ 900 ∧ BookAt H b fk t n age zs ∧ EntAt H a e ∧ BkOk n (ens zs ++ [e]) ∧ zs.length < 16 ∧ Tabs T H ∧
  ∀ b' t' (zs' : List (Addr × En)) H', XS x l H H' → Tabs T H' → ScAt C H' x b' l (es ++ [.ref b]) → BookAt H' b' fk t' n age zs' → zs'.Perm (zs ++ [(a, e)]) → zs'.Pairwise (fun u v => u.2.num < v.2.num) → Q .non H'
theorem ok_ScW {f : Addr} {fd : FuncData} {k : Nat} (F : Fun K "write" "Scribe.write" sScW f fd) (S : ScT K mg C) (C_t : CallM P w K mg base CX0 k C "turn_to" nScT (spScT C T)) (C_w : CallOk P w K mg base k "with_entry" pWithE spWithE) : FnOk P w K mg base CX0 (k + 1) f fd nScW (spScW C T) := by
  refine F.ok scScW (fun vs H Q E h => ?_) (fun cdv A outer s H vs Q E hr h => ?_)
  · obtain ⟨x, b, l, fk, t, a, es, n, age, zs, e, rfl, _⟩ := h
    rfl
  · obtain ⟨x, b, l, fk, t, a, es, n, age, zs, e, rfl, hSc, hes, hB, hE, hM, hl, hT, q⟩ := h
    obtain ⟨⟨dx, hx⟩, hll⟩ := id hSc
    refine ⟨_, pss_one (ps_expr (pe_meth (pv 0) S.cl C_t.h C_t.ok hr C_t.b .nil pass0 (pa_cons (pe_call C_w.ok hr (by rfl) C_w.g C_w.kp C_w.b .nil pass0 (pa_cons (pe_fld (pv 0) rfl) (pa_cons (pv 1) pa_nil))) pa_nil))), ?_⟩
    refine ⟨_, rfl, x, dx, _, rfl, hx, sfl_no b l (by decide +kernel) (by decide +kernel), _, rfl, x, C, dx, _, _, rfl, hx, S.cl, S.nK, sfl_kept b l, _, rfl, b, fk, t, a, n, age, zs, e, rfl, hB, hE, hM, hl, fun b' t' H1 s1 hB1 => ?_⟩
    refine ⟨x, b, l, b', fk, t', es, n, age, _, rfl, hSc.extN (.of s1), hes, hB1, hT.ext s1, fun b2 t2 zs2 H2 xs T2 hSc2 hB2 pm so => ?_⟩
    exact q b2 t2 zs2 H2 (fun c o n1 n2 e0 ht => xs c o n1 n2 (s1 _ _ e0) ht) T2 hSc2 hB2 pm so
/-! tear -/
abbrev nScR : List Str := ["self", "number"]
theorem scScR : FnScope nScR nScR (defScope sScR) := ⟨rfl, rfl, rfl, by decide +kernel, rfl, by decide +kernel, by decide +kernel⟩
def spScR (C : Addr) (T : List (Addr × Str)) : Sp := fun vs H Q _ => ∃ (x b l fk t : Addr) (es : List V) (n : Nat) (age m : Int) (zs : List (Addr × En)), vs = [.ref x, .int m] ∧ ScAt C H x b l es ∧ es.length ≤ 900 ∧ BookAt H b fk t n age zs ∧ m ∈ (ens zs).map (·.num) ∧ namers zs m = [] ∧ Tabs T H ∧
  ∀ b' t' (zs' : List (Addr × En)) H', XS x l H H' → Tabs T H' → ScAt C H' x b' l (es ++ [.ref b]) → BookAt H' b' fk t' n age zs' → zs'.Perm (zs.filter fun z => !decide (z.2.num = m)) → zs'.Pairwise (fun u v => u.2.num < v.2.num) → Q .non H'
theorem ok_ScR {f : Addr} {fd : FuncData} {k : Nat} (F : Fun K "tear" "Scribe.tear" sScR f fd) (S : ScT K mg C) (C_t : CallM P w K mg base CX0 k C "turn_to" nScT (spScT C T)) (C_w : CallOk P w K mg base k "without_entry" pWoutE spWoutE) : FnOk P w K mg base CX0 (k + 1) f fd nScR (spScR C T) := by
  refine F.ok scScR (fun vs H Q E h => ?_) (fun cdv A outer s H vs Q E hr h => ?_)
  · obtain ⟨x, b, l, fk, t, es, n, age, m, zs, rfl, _⟩ := h
    rfl
  · obtain ⟨x, b, l, fk, t, es, n, age, m, zs, rfl, hSc, hes, hB, hm, hna, hT, q⟩ := h
    obtain ⟨⟨dx, hx⟩, hll⟩ := id hSc
    refine ⟨_, pss_one (ps_expr (pe_meth (pv 0) S.cl C_t.h C_t.ok hr C_t.b .nil pass0 (pa_cons (pe_call C_w.ok hr (by rfl) C_w.g C_w.kp C_w.b .nil pass0 (pa_cons (pe_fld (pv 0) rfl) (pa_cons (pv 1) pa_nil))) pa_nil))), ?_⟩
    refine ⟨_, rfl, x, dx, _, rfl, hx, sfl_no b l (by decide +kernel) (by decide +kernel), _, rfl, x, C, dx, _, _, rfl, hx, S.cl, S.nK, sfl_kept b l, _, rfl, b, fk, t, n, age, m, zs, rfl, hB, hm, namers_nil hna, bk_gone hB.ok hm hna, fun b' t' H1 s1 hB1 => ?_⟩
    refine ⟨x, b, l, b', fk, t', es, n, age, _, rfl, hSc.extN (.of s1), hes, hB1, hT.ext s1, fun b2 t2 zs2 H2 xs T2 hSc2 hB2 pm so => ?_⟩
    exact q b2 t2 zs2 H2 (fun c o n1 n2 e0 ht => xs c o n1 n2 (s1 _ _ e0) ht) T2 hSc2 hB2 pm so
/-! __eq__ -/
abbrev sScE : Stmt := inClass (topS 80) 9
abbrev nScE : List Str := ["self", "other"]
theorem scScE : FnScope nScE nScE (defScope sScE) := ⟨rfl, rfl, rfl, by decide +kernel, rfl, by decide +kernel, by decide +kernel⟩
def spScE (K : PySem.W.Frag) (C : Addr) : Sp := fun vs H Q _ => ∃ (x b l : Addr) (es : List V) (y : V), vs = [.ref x, y] ∧ ScAt C H x b l es ∧
  ((∃ (x2 b2 l2 : Addr) (d d2 : PyData), y = .ref x2 ∧ (∃ dx, H x2 = some (.ins C dx (sfl b2 l2))) ∧ Dp K H (.ref b) d ∧ Dp K H (.ref b2) d2 ∧ SeqAt.shaped d = true ∧ SeqAt.shaped d2 = true ∧ Q (.bl (PyData.eqv d d2)) H) ∨
    ∃ t, TyX K H y t ∧ PySem.W.kitOne K t (.ref C) = some false ∧ Q (.bl false) H)
theorem ok_ScE {f : Addr} {fd : FuncData} {k : Nat} (F : Fun K "__eq__" "Scribe.__eq__" sScE f fd) (S : ScT K mg C) (c : C8.InsC K C) (m_isi : mg "isinstance" = none) : FnOk P w K mg base CX0 (k + 1) f fd nScE (spScE K C) := by
  refine F.ok scScE (fun vs H Q E h => ?_) (fun cdv A outer s H vs Q E hr h => ?_)
  · obtain ⟨x, b, l, es, y, rfl, _⟩ := h
    rfl
  · obtain ⟨x, b, l, es, y, rfl, hSc, h⟩ := h
    obtain ⟨⟨dx, hx⟩, hll⟩ := id hSc
    refine ⟨_, pss_one (ps_ret (pe_and (pe_callB call_isi (by rfl) m_isi (by decide +kernel) (pa_cons (pv 1) (pa_cons (pe_glob (v := .ref C) (by rfl) S.g rfl) pa_nil))) (pe_one (pe_cmpR (op_eqD hr.units) (pe_fld (pv 0) rfl) (pe_fld (pv 1) rfl) (nomark _))))), ?_⟩
    rcases h with ⟨x2, b2, l2, d, d2, rfl, ⟨dx2, hx2⟩, hd, hd2, s1, s2, q⟩ | ⟨t, ty, hk, q⟩
    · refine ⟨_, rfl, _, .ref C, .ref C, .ref C, true, rfl, .own C, .base (.ins hx2 c.cl c.ha c.hn c.htk c.hm), c.me, ?_⟩
      refine ⟨true, rfl, ?_⟩
      rw [if_pos rfl]
      refine ⟨_, rfl, x, C, dx, _, _, rfl, hx, S.cl, S.nK, sfl_kept b l, _, rfl, x2, C, dx2, _, _, rfl, hx2, S.cl, S.nK, sfl_kept b2 l2, d, d2, hd, hd2, s1, s2, q⟩
    · refine ⟨_, rfl, _, .ref C, t, .ref C, false, rfl, .own C, ty, hk, ?_⟩
      exact ⟨false, rfl, q⟩
/-! twin -/
abbrev sScN : Stmt := inClass (topS 80) 7
abbrev nScN : List Str := ["self", "other"]
theorem scScN : FnScope nScN ["self"] (defScope sScN) := ⟨rfl, rfl, rfl, by decide +kernel, rfl, by decide +kernel, by decide +kernel⟩
/-- a class made by its __init__ -/
structure CallK (P : Program) (w : World) (K : PySem.W.Frag) (mg : Str → Option Value) (base : Heap) (CX : CXT) (L : Nat) (x : Str) (C : Addr) (ps : List Str) (sp : Sp) where
  f : Addr
  fd : FuncData
  g : mg x = some (.ref C)
  m : Mk K C f
  b : Binds K fd ps []
  ok : FnOk P w K mg base CX L f fd ps sp
def CallK.mono {P : Program} {w : World} {K : PySem.W.Frag} {mg : Str → Option Value} {base : Heap} {CX : CXT} {L L' : Nat} {x : Str} {C : Addr} {ps : List Str} {sp : Sp} (c : CallK P w K mg base CX L x C ps sp) (h : L ≤ L') : CallK P w K mg base CX L' x C ps sp := ⟨c.f, c.fd, c.g, c.m, c.b, c.ok.mono h⟩
theorem passN {X : Cx} {P : Program} {w : World} : Passes (L2.CX P w) X (fun _ _ _ => False) := fun _ _ _ _ _ _ _ h => by
  obtain ⟨_, _, _, _, _, _, _, _, _, _, _, _, hE⟩ := h
  exact hE.elim
def spScN (C : Addr) : Sp := fun vs H Q _ => ∃ (x b l fk t : Addr) (es : List V) (n : Nat) (age : Int) (zs : List (Addr × En)), vs = [.ref x] ∧ ScAt C H x b l es ∧ es.length ≤ 900 ∧ BookAt H b fk t n age zs ∧
  ∀ y l2 H', Same H H' → H y = none → H l2 = none → ScAt C H' y b l2 es → Q (.ref y) H'
theorem ok_ScN {f CF CA : Addr} {fd : FuncData} {k : Nat} (F : Fun K "twin" "Scribe.twin" sScN f fd) (S : ScT K mg C) (C_mk : CallK P w K mg base (L2.CX P w) k "Scribe" C nScI (spScI C CF CA)) (m_list : mg "list" = none) : FnOk P w K mg base CX0 (k + 2) f fd ["self"] (spScN C) := by
  refine F.ok scScN (fun vs H Q E h => ?_) (fun cdv A outer s H vs Q E hr h => ?_)
  · obtain ⟨x, b, l, fk, t, es, n, age, zs, rfl, _⟩ := h
    rfl
  · obtain ⟨x, b, l, fk, t, es, n, age, zs, rfl, hSc, hes, hB, q⟩ := h
    obtain ⟨⟨dx, hx⟩, hll⟩ := id hSc
    have nd := scScN.nd
    refine ⟨_, pss_cons (ps_set (i := 1) nd rfl (.inl rfl) (pe_make C_mk.m C_mk.ok (hr.mono (by omega)) (by rfl) C_mk.g C_mk.b .nil passN (pa_cons (pe_ix ix_tup (pe_fld (pv 0) rfl) pe_int (fun _ _ => rfl)) (pa_cons (pe_ix ix_tup (pe_fld (pv 0) rfl) pe_int (fun _ _ => rfl)) pa_nil))))
      (pss_cons (ps_fld (pv 1) (pe_fld (pv 0) rfl) rfl)
      (pss_cons (ps_fld (pv 1) (pe_callTy call_list_of (by rfl) m_list (by decide +kernel) (pa_cons (pe_fld (pv 0) rfl) pa_nil)) rfl)
      (pss_one (ps_ret (pv 1))))), ?_⟩
    refine ⟨_, rfl, x, C, dx, _, _, rfl, hx, S.cl, S.nK, sfl_kept b l, b, _, 0, _, rfl, rfl, SqT.of hB.at_, (atI_nat (j := 0) rfl), _, rfl, x, C, dx, _, _, rfl, hx, S.cl, S.nK, sfl_kept b l, b, _, 1, _, rfl, rfl, SqT.of hB.at_, (atI_nat (j := 1) rfl), fun y dy ny ndy ne => ?_⟩
    have sy : Same H (upd (upd H dy (.own y)) y (.ins C dy [])) := (same_new ndy _).trans (same_new (by rw [upd_ne ne.symm]; exact ny) _)
    have ey : (upd (upd H dy (.own y)) y (.ins C dy [])) y = some (.ins C dy []) := upd_same
    generalize (upd (upd H dy (.own y)) y (.ins C dy [])) = H1 at sy ey
    obtain ⟨ts, hts, htl, _, hfo⟩ := folk_tg (p := x) hB.folk (by have := hB.n6; omega)
    have hfk : isFolkT (.tup ts) = true := by
      show ((decide (1 ≤ ts.length) && decide (ts.length ≤ 6)) && ts.all isPersonT) = true
      rw [hfo, htl, decide_eq_true (by have := hB.n2; omega), decide_eq_true hB.n6]
      rfl
    have hag : ageT (.int age) = true := by
      show (decide (0 ≤ age) && decide (age ≤ 9999)) = true
      rw [decide_eq_true hB.age0, decide_eq_true hB.age1]
      rfl
    refine ⟨x, y, dy, _, _, _, _, rfl, ey, TgAt.same sy _ _ hts, .int age, fun d1 H7 s7 => ?_, fun d1 d2 H7 s7 => ?_, fun d1 d2 b0 t0 l0 H2 s2 nb nl hS2 eb et => ⟨rfl, ?_⟩⟩
    · rw [hfk] at d1; cases d1
    · rw [hag] at d2; cases d2
    have s02 : Same H H2 := fun a o ea => s2 a o (fun z => by rw [z, ny] at ea; cases ea) (sy _ _ ea)
    obtain ⟨⟨dz, hy2⟩, hl02⟩ := hS2
    refine ⟨_, rfl, x, C, dx, _, _, rfl, s02 _ _ hx, S.cl, S.nK, sfl_kept b l, _, rfl, y, C, dz, _, rfl, hy2, S.cl, S.nK, (by rw [sfl_eq]; show 2 < 1000; decide), ?_⟩
    rw [sfl_put]
    have s3 : Same H (upd H2 y (.ins C dz (sfl b l0))) := fun a o ea => by rw [upd_ne fun z => by rw [z, ny] at ea; cases ea]; exact s02 a o ea
    have hy3 : (upd H2 y (.ins C dz (sfl b l0))) y = some (.ins C dz (sfl b l0)) := upd_same
    generalize (upd H2 y (.ins C dz (sfl b l0))) = H3 at s3 hy3
    refine ⟨_, rfl, x, C, dx, _, _, rfl, s3 _ _ hx, S.cl, S.nE, sfl_earlier b l, l, es, rfl, .inl (SqL.of (s3 _ _ hll)), fun l2 nl2 => ?_⟩
    have nly : y ≠ l2 := ne_of_none hy3 nl2
    have hy4 : (upd H3 l2 (.lst es)) y = some (.ins C dz (sfl b l0)) := by rw [upd_ne nly]; exact hy3
    have hl4 : (upd H3 l2 (.lst es)) l2 = some (.lst es) := upd_same
    have s4 : Same H (upd H3 l2 (.lst es)) := s3.trans (same_new nl2 _)
    generalize (upd H3 l2 (.lst es)) = H4 at hy4 hl4 s4
    refine ⟨_, rfl, y, C, dz, _, rfl, hy4, S.cl, S.nE, (by rw [sfl_eq]; show 2 < 1000; decide), ?_⟩
    rw [sfl_putE]
    refine ⟨_, rfl, ?_⟩
    refine q y l2 _ (fun a o ea => by rw [upd_ne fun z => by rw [z, ny] at ea; cases ea]; exact s4 a o ea) ny (none_back s3 nl2) ⟨⟨dz, upd_same⟩, by rw [upd_ne nly.symm]; exact hl4⟩
/-! standing -/
abbrev nScS : List Str := ["self", "deed", "d", "k"]
theorem scScS : FnScope nScS nScS (defScope sScS) := ⟨rfl, rfl, rfl, by decide +kernel, rfl, by decide +kernel, by decide +kernel⟩
def spScS (C : Addr) (T : List (Addr × Str)) : Sp := fun vs H Q _ => ∃ (x b l fk t : Addr) (es : List V) (n : Nat) (age : Int) (zs : List (Addr × En)) (e : En) (d k : Int), vs = [.ref x, .int e.num, .int d, .int k] ∧ ScAt C H x b l es ∧ BookAt H b fk t n age zs ∧ Tabs T H ∧ e ∈ ens zs ∧ e.isDeed = true ∧ (0 ≤ d ∧ d ≤ 9999) ∧ (0 ≤ k ∧ k ≤ 9999) ∧ ∀ H', ExtN H H' → Tabs T H' → Q (.str (st (ens zs) d k e)) H'
theorem ok_ScS {f : Addr} {fd : FuncData} {k : Nat} {dv : List V} (F : FunD K "standing" "Scribe.standing" (defArgs sScS) (defBody sScS) (defScope sScS) dv [] f fd) (S : ScT K mg C) (C_st : CallOk P w K mg base k "standing_of" pStOf (spStOf T)) : FnOk P w K mg base CX0 (k + 1) f fd nScS (spScS C T) := by
  refine F.ok scScS (fun vs H Q E h => ?_) (fun cdv A outer s H vs Q E hr h => ?_)
  · obtain ⟨x, b, l, fk, t, es, n, age, zs, e, d, k, rfl, _⟩ := h
    rfl
  · obtain ⟨x, b, l, fk, t, es, n, age, zs, e, d, k', rfl, hSc, hB, hT, he, hd, hd0, hk0, q⟩ := h
    obtain ⟨⟨dx, hx⟩, hll⟩ := id hSc
    refine ⟨_, PSs.nox (pss_one (ps_ret (pe_call C_st.ok hr (by rfl) C_st.g C_st.kp C_st.b .nil pass0 (pa_cons (pe_fld (pv 0) rfl) (pa_cons (pv 1) (pa_cons (pv 2) (pa_cons (pv 3) pa_nil))))))), ?_⟩
    exact ⟨_, rfl, x, C, dx, _, _, rfl, hx, S.cl, S.nK, sfl_kept b l, _, rfl, _, rfl, _, rfl, b, fk, t, n, age, zs, e, d, k', rfl, hB, hT, he, hd, hd0, hk0, q⟩
/-! __len__ -/
abbrev sScL : Stmt := inClass (topS 80) 8
theorem scScL : FnScope nScB nScB (defScope sScL) := ⟨rfl, rfl, rfl, by decide +kernel, rfl, by decide +kernel, by decide +kernel⟩
def spScL (C : Addr) : Sp := fun vs H Q _ => ∃ (x b l fk t : Addr) (es : List V) (n : Nat) (age : Int) (zs : List (Addr × En)), vs = [.ref x] ∧ ScAt C H x b l es ∧ BookAt H b fk t n age zs ∧ Q (.int zs.length) H
theorem ok_ScL {f : Addr} {fd : FuncData} {k : Nat} (F : Fun K "__len__" "Scribe.__len__" sScL f fd) (S : ScT K mg C) (m_len : mg "len" = none) : FnOk P w K mg base CX0 (k + 1) f fd nScB (spScL C) := by
  refine F.ok scScL (fun vs H Q E h => ?_) (fun cdv A outer s H vs Q E hr h => ?_)
  · obtain ⟨x, b, l, fk, t, es, n, age, zs, rfl, _⟩ := h
    rfl
  · obtain ⟨x, b, l, fk, t, es, n, age, zs, rfl, hSc, hB, q⟩ := h
    obtain ⟨⟨dx, hx⟩, hll⟩ := id hSc
    refine ⟨_, pss_one (ps_ret (pe_callB call_len_seq (by rfl) m_len (by decide +kernel) (pa_cons (pe_ix ix_tup (pe_fld (pv 0) rfl) pe_int (fun _ _ => rfl)) pa_nil))), ?_⟩
    refine ⟨_, rfl, x, C, dx, _, _, rfl, hx, S.cl, S.nK, sfl_kept b l, b, _, 2, _, rfl, rfl, SqT.of hB.at_, (atI_nat (j := 2) rfl), t, _, rfl, .inr (SqT.of hB.ents), ?_⟩
    rw [List.length_map]
    exact q
/-! __repr__ -/
abbrev sScP : Stmt := inClass (topS 80) 10
theorem scScP : FnScope nScB nScB (defScope sScP) := ⟨rfl, rfl, rfl, by decide +kernel, rfl, by decide +kernel, by decide +kernel⟩
def spScP (C : Addr) (T : List (Addr × Str)) : Sp := fun vs H Q _ => ∃ (x b l fk t : Addr) (es : List V) (n : Nat) (age : Int) (zs : List (Addr × En)), vs = [.ref x] ∧ ScAt C H x b l es ∧ BookAt H b fk t n age zs ∧ Tabs T H ∧ ∀ H', ExtN H H' → Tabs T H' → Q (.str (cntT (nDe zs) (nAc zs))) H'
theorem len_nat {n : Nat} (h : n ≤ 16) : (PySem.Str.ofString (toString (n : Int))).length ≤ 10 := Nat.le_trans (PyProof.Rows.toString_length_le (k := 10) (Int.natCast_nonneg n) (by decide) (by omega)) (Nat.le_refl _)
theorem ok_ScP {f : Addr} {fd : FuncData} {k : Nat} (F : Fun K "__repr__" "Scribe.__repr__" sScP f fd) (S : ScT K mg C) (C_de : CallOk P w K mg base k "deeds_of" ["book"] (spNums (·.isDeed) T)) (C_ac : CallOk P w K mg base k "acts_of" ["book"] (spNums (fun e => !e.isDeed) T)) (m_len : mg "len" = none) : FnOk P w K mg base CX0 (k + 1) f fd nScB (spScP C T) := by
  refine F.ok scScP (fun vs H Q E h => ?_) (fun cdv A outer s H vs Q E hr h => ?_)
  · obtain ⟨x, b, l, fk, t, es, n, age, zs, rfl, _⟩ := h
    rfl
  · obtain ⟨x, b, l, fk, t, es, n, age, zs, rfl, hSc, hB, hT, q⟩ := h
    obtain ⟨⟨dx, hx⟩, hll⟩ := id hSc
    refine ⟨_, pss_one (ps_ret (pe_joined (.cons pe_str (.cons (pe_fmt (pe_callB call_len_seq (by rfl) m_len (by decide +kernel) (pa_cons (pe_call C_de.ok hr (by rfl) C_de.g C_de.kp C_de.b .nil pass0 (pa_cons (pe_fld (pv 0) rfl) pa_nil)) pa_nil))) (.cons pe_str (.cons (pe_fmt (pe_callB call_len_seq (by rfl) m_len (by decide +kernel) (pa_cons (pe_call C_ac.ok hr (by rfl) C_ac.g C_ac.kp C_ac.b .nil pass0 (pa_cons (pe_fld (pv 0) rfl) pa_nil)) pa_nil))) (.cons pe_str .nil))))))), ?_⟩
    have hlen := hB.len
    have d16 : nDe zs ≤ 16 := Nat.le_trans (List.length_filter_le _ _) hlen
    have a16 : nAc zs ≤ 16 := Nat.le_trans (List.length_filter_le _ _) hlen
    have e1 := len_nat d16
    have e2 := len_nat a16
    have e3 : ("Scribe(" : Str).length = 7 := by decide +kernel
    have e4 : (" deeds, " : Str).length = 8 := by decide +kernel
    have e5 : (" acts)" : Str).length = 6 := by decide +kernel
    have e6 : PySem.Str.empty.length = 0 := by decide +kernel
    refine ⟨_, rfl, (by decide +kernel), ?_⟩
    refine ⟨_, rfl, x, C, dx, _, _, rfl, hx, S.cl, S.nK, sfl_kept b l, b, fk, t, n, age, zs, rfl, hB, hT, fun p1 zs1 H1 x1 T1 f1 el1 pm1 so1 => ?_⟩
    have el1' : H1 p1 = some (.lst (((zs1.filter fun z => z.2.isDeed).map fun z => z.2.num).map V.int)) := el1
    have hl1 : (((zs1.filter fun z => z.2.isDeed).map fun z => z.2.num).map V.int).length = nDe zs := by rw [List.length_map, List.length_map, (pm1.filter _).length_eq]
    refine ⟨p1, _, rfl, .inl (SqL.of el1'), .inr ⟨_, rfl, ?_, ?_⟩⟩
    · rw [hl1]
      exact log_small (by omega)
    rw [hl1]
    refine ⟨_, rfl, ?_, ?_⟩
    · simp only [strLen_append]
      rw [sizeLine_eq]
      omega
    refine ⟨_, rfl, ?_, ?_⟩
    · simp only [strLen_append]
      rw [sizeLine_eq]
      omega
    refine ⟨_, rfl, x, C, dx, _, _, rfl, x1 _ _ hx (fun ps z => by cases z), S.cl, S.nK, sfl_kept b l, b, fk, t, n, age, zs, rfl, hB.kp (ExtN.tup x1), T1, fun p2 zs2 H2 x2 T2 f2 el2 pm2 so2 => ?_⟩
    have el2' : H2 p2 = some (.lst (((zs2.filter fun z => !z.2.isDeed).map fun z => z.2.num).map V.int)) := el2
    have hl2 : (((zs2.filter fun z => !z.2.isDeed).map fun z => z.2.num).map V.int).length = nAc zs := by rw [List.length_map, List.length_map, (pm2.filter _).length_eq]
    refine ⟨p2, _, rfl, .inl (SqL.of el2'), .inr ⟨_, rfl, ?_, ?_⟩⟩
    · rw [hl2]
      exact log_small (by omega)
    rw [hl2]
    refine ⟨_, rfl, ?_, ?_⟩
    · simp only [strLen_append]
      rw [sizeLine_eq]
      omega
    refine ⟨_, rfl, ?_, ?_⟩
    · simp only [strLen_append]
      rw [sizeLine_eq]
      omega
    have h := q H2 (x1.trans x2) T2
    show Q (.str (PySem.Str.empty ++ ("Scribe(" : Str) ++ PySem.Str.ofString (toString ((nDe zs : Nat) : Int)) ++ (" deeds, " : Str) ++ PySem.Str.ofString (toString ((nAc zs : Nat) : Int)) ++ (" acts)" : Str))) H2
    rw [show PySem.Str.empty ++ ("Scribe(" : Str) = ("Scribe(" : Str) by decide +kernel]
    exact h
/-! __str__ -/
abbrev sScZ : Stmt := inClass (topS 80) 11
theorem scScZ : FnScope nScB nScB (defScope sScZ) := ⟨rfl, rfl, rfl, by decide +kernel, rfl, by decide +kernel, by decide +kernel⟩
def spScZ (C : Addr) (T : List (Addr × Str)) : Sp := fun vs H Q _ => ∃ (x b l fk t : Addr) (es : List V) (n : Nat) (age : Int) (zs : List (Addr × En)) (pz : List (Addr × Int × Option Int)), vs = [.ref x] ∧ ScAt C H x b l es ∧ BookAt H b fk t n age zs ∧ FolkZ H fk pz ∧ Tabs T H ∧
  ∀ (zs' : List (Addr × En)) H', ExtN H H' → Tabs T H' → zs'.Perm zs → zs'.Pairwise (fun u v => u.2.num < v.2.num) → Q (.str (bookT (pz.map (·.2)) age (ens zs'))) H'
theorem ok_ScZ {f : Addr} {fd : FuncData} {k : Nat} (F : Fun K "__str__" "Scribe.__str__" sScZ f fd) (S : ScT K mg C) (C_bt : CallOk P w K mg base k "book_text" pBookTx (spBookTx T)) (m_str : mg "str" = none) : FnOk P w K mg base CX0 (k + 1) f fd nScB (spScZ C T) := by
  refine F.ok scScZ (fun vs H Q E h => ?_) (fun cdv A outer s H vs Q E hr h => ?_)
  · obtain ⟨x, b, l, fk, t, es, n, age, zs, pz, rfl, _⟩ := h
    rfl
  · obtain ⟨x, b, l, fk, t, es, n, age, zs, pz, rfl, hSc, hB, hz, hT, q⟩ := h
    obtain ⟨⟨dx, hx⟩, hll⟩ := id hSc
    refine ⟨_, pss_one (ps_ret (pe_callTy SkE.call_str_str (by rfl) m_str (by decide +kernel) (pa_cons (pe_call C_bt.ok hr (by rfl) C_bt.g C_bt.kp C_bt.b .nil pass0 (pa_cons (pe_fld (pv 0) rfl) pa_nil)) pa_nil))), ?_⟩
    exact ⟨_, rfl, x, C, dx, _, _, rfl, hx, S.cl, S.nK, sfl_kept b l, b, fk, t, n, age, zs, pz, rfl, hB, hz, hT, fun zs' H' e1 T1 pm so => ⟨_, rfl, q zs' H' e1 T1 pm so⟩⟩
end
end Deed

namespace Deed
open PySem PySem.Spec PyProof.Rows L2 LamX
theorem XP.ofX {p x l : Addr} {H0 H H' : Hp} (k : XP p H0 H) (n1 : H0 x = none) (n2 : H0 l = none) (s : XS x l H H') : XP p H0 H' := fun c o n e t => s c o (fun z => by rw [z, n1] at e; cases e) (fun z => by rw [z, n2] at e; cases e) (k c o n e t) t
theorem XP.put {p L : Addr} {H0 H : Hp} (k : XP p H0 H) (n : H0 L = none) (o : HO) : XP p H0 (upd H L o) := fun c u h e t => by
  rw [upd_ne fun z => by rw [z, n] at e; cases e]
  exact k c u h e t
section
variable {P : Program} {w : World} {K : PySem.W.Frag} {mg : Str → Option Value} {base : Heap} {T : List (Addr × Str)} {C : Addr}
abbrev sLWritten : Stmt := topS 95
abbrev nLWritten : List Str := ["_law_pen_here", "_law_book_here", "_law_stray", "_law_scribe", "_law_left", "_law_good", "_law_more", "_law_entry"]
abbrev pLWritten : List Str := ["_law_pen_here", "_law_book_here", "_law_stray"]
theorem scLWritten : FnScope nLWritten pLWritten (defScope sLWritten) := ⟨rfl, rfl, rfl, by decide +kernel, rfl, by decide +kernel, by decide +kernel⟩
def spLWritten (C : Addr) (T : List (Addr × Str)) : Sp := fun vs H Q _ => ∃ (p b fk t : Addr) (n : Nat) (age : Int) (zs : List (Addr × En)) (s : Bool), vs = [.ref p, .ref b, .bl s] ∧ PenAt H p ∧ BookAt H b fk t n age zs ∧ Tabs T H ∧
  ∀ x l b' t' es (zs' : List (Addr × En)) H', XP p H H' → PenAt H' p → Tabs T H' → H x = none → H l = none → ScAt C H' x b' l es → es.length ≤ 48 → BookAt H' b' fk t' n age zs' → zs'.Perm zs → zs'.Pairwise (fun u v => u.2.num < v.2.num) → Q (.ref x) H'
theorem ok_LWritten {f CG CF CA : Addr} {fd : FuncData} {k : Nat} (F : Fun K "_law_written" "_law_written" sLWritten f fd) (S : ScT K mg C)
    (C_mk : CallK P w K mg base (L2.CX P w) (k + 1) "Scribe" C nScI (spScI C CF CA)) (C_bk : CallM P w K mg base CX0 (k + 2) C "book" nScB (spScB C)) (C_wr : CallM P w K mg base CX0 (k + 2) C "write" nScW (spScW C T)) (C_te : CallM P w K mg base CX0 (k + 2) C "tear" nScR (spScR C T)) (C_un : CallM P w K mg base (L2.CX P w) (k + 2) C "undo" nScB (spScU C CG T))
    (C__law_mixed : CallOk P w K mg base (k + 2) "_law_mixed" ["_law_pen_here", "_law_some"] (spMixed K)) (C__law_due_of : CallOk P w K mg base (k + 2) "_law_due_of" pLDueOf spLDueOf) (C__law_new_entry : CallOk P w K mg base (k + 2) "_law_new_entry" pLNewEnt spLNewEnt) (C__law_draw : CallOk P w K mg base (k + 2) "_law_draw" ["_law_pen_here", "_law_bound"] spDraw) : FnOk P w K mg base CX0 (k + 3) f fd pLWritten (spLWritten C T) := by
  refine F.ok scLWritten (fun vs H Q E h => ?_) (fun cdv A outer s H vs Q E hr h => ?_)
  · obtain ⟨p, b, fk, t, n, age, zs, s, rfl, _⟩ := h
    rfl
  · obtain ⟨p, b, fk, t, n, age, zs, sy, rfl, hP, hB, hT, q⟩ := h
    have nd := scLWritten.nd
    have hu := hu_of hr
    have h65 := Nat.lt_of_le_of_lt (Nat.add_le_add_left (show 65 ≤ 16 * (k + 2) + 200 by omega) _) (show _ + (16 * (k + 2) + 200) < cLine from by have h := hr.un; rw [Nat.add_assoc] at h; exact h)
    refine ⟨_, pss_cons (ps_asg (pe_tup (pa_cons (pe_make C_mk.m C_mk.ok hr (by rfl) C_mk.g C_mk.b .nil passN (pa_cons (pe_ix ix_tup (pv 1) pe_int (fun _ _ => rfl)) (pa_cons (pe_ix ix_tup (pv 1) pe_int (fun _ _ => rfl)) pa_nil))) (pa_cons (pe_call C__law_mixed.ok hr (by rfl) C__law_mixed.g C__law_mixed.kp C__law_mixed.b .nil pass0 (pa_cons (pv 0) (pa_cons (pe_ix ix_tup (pv 1) pe_int (fun _ _ => rfl)) pa_nil))) pa_nil))) (pg_tup (by rfl) (pgs_cons (pg_name (i := 3) nd rfl (.inr rfl)) (pgs_cons (pg_name (i := 4) nd rfl (.inl rfl)) pgs_nil))))
      (pss_cons (ps_while PassesOwn.never (pt_cmpR (op_neD hr.units) (pv 4) (pe_lst pa_nil) (nomark _))
        (pss_cons (ps_setLc (i := 5) (own := [("_law_entry", 7)]) (g := gName 7) (by rfl) nd rfl rfl (sw_true rfl rfl rfl (by decide +kernel)) (pi_list (pv 4)) (blkOk_by (own := [("_law_entry", 7)]) (N := nLWritten) (sc := defScope sLWritten) (by decide +kernel)) (fun _ _ _ _ _ => (pg_name (i := 7) nd rfl (.inl rfl)))
            (fun _ _ _ _ _ => (pts_one (pt_cmpR op_eq (pe_call C__law_due_of.ok hr (by rfl) C__law_due_of.g C__law_due_of.kp C__law_due_of.b .nil pass0 (pa_cons (pe_meth0 (pv 3) S.cl C_bk.h C_bk.ok hr C_bk.b .nil pass0) (pa_cons (pv 7) pa_nil))) pe_str (nomark _)))) (fun _ _ _ _ _ => (pv 7)))
        (pss_cons (ps_if (pt_cmpR (op_eqD hr.units) (pv 5) (pe_lst pa_nil) (nomark _)) (pss_one (ps_ret pe_non)) pss_nil)
        (pss_cons (ps_expr (pe_meth (pv 3) S.cl C_wr.h C_wr.ok hr C_wr.b .nil pass0 (pa_cons (pe_ix ix_list (pv 5) pe_int (fun _ _ => rfl)) pa_nil)))
        (pss_cons (ps_expr (pe_bm PySem.F.plainAttrs_list PySem.F.slot_list_remove PySem.F.type_list_remove (mt_removeD h65) (pv 4) (pa_cons (pe_ix ix_list (pv 5) pe_int (fun _ _ => rfl)) pa_nil)))
        (pss_cons (ps_set (i := 6) nd rfl (.inl rfl) (pe_call C__law_new_entry.ok hr (by rfl) C__law_new_entry.g C__law_new_entry.kp C__law_new_entry.b .nil pass0 (pa_cons (pv 0) (pa_cons (pv 1) pa_nil))))
        (pss_one (ps_if (PW.pt (pw_and (pt_val (pv 2)) (pw_and (pt_cmpR op_eq (pe_call C__law_due_of.ok hr (by rfl) C__law_due_of.g C__law_due_of.kp C__law_due_of.b .nil pass0 (pa_cons (pe_meth0 (pv 3) S.cl C_bk.h C_bk.ok hr C_bk.b .nil pass0) (pa_cons (pv 6) pa_nil))) pe_str (nomark _)) (pw_and1 (pt_cmpR op_notIn_seq (pe_ix ix_tup (pv 6) pe_int (fun _ _ => rfl)) (pe_lc (own := [("_law_entry", 7)]) (g := gName 7) (by rfl) nd (pi_list (pv 4)) (blkOk_by (own := [("_law_entry", 7)]) (N := nLWritten) (sc := defScope sLWritten) (by decide +kernel)) (fun _ _ _ _ _ => (pg_name (i := 7) nd rfl (.inl rfl))) (fun _ _ _ _ _ => pts_nil) (fun _ _ _ _ _ => (pe_ix (ix_tupK (K := K) (by rfl)) (pv 7) pe_int (fun _ _ => rfl)))) (by rfl))))))
          (pss_cons (ps_expr (pe_meth (pv 3) S.cl C_wr.h C_wr.ok hr C_wr.b .nil pass0 (pa_cons (pv 6) pa_nil)))
          (pss_one (ps_if (pt_cmpR op_eq (pe_call C__law_draw.ok hr (by rfl) C__law_draw.g C__law_draw.kp C__law_draw.b .nil pass0 (pa_cons (pv 0) (pa_cons pe_int pa_nil))) pe_int (nomark _))
            (pss_one (ps_expr (pe_meth (pv 3) S.cl C_te.h C_te.ok hr C_te.b .nil pass0 (pa_cons (pe_ix ix_tup (pv 6) pe_int (fun _ _ => rfl)) pa_nil))))
            (pss_one (ps_expr (pe_meth0 (pv 3) S.cl C_un.h C_un.ok hr C_un.b .nil passN)))))) pss_nil))))))))
      (pss_one (ps_ret (pv 3)))), ?_⟩
    have hzl := hB.len
    refine ⟨_, rfl, b, _, 0, _, rfl, rfl, SqT.of hB.at_, (atI_nat (j := 0) rfl), _, rfl, b, _, 1, _, rfl, rfl, SqT.of hB.at_, (atI_nat (j := 1) rfl), fun x dx nx ndx nex => made nx ndx nex hB.folk hB.n2 hB.n6 hB.age0 hB.age1 fun b0 t0 l H1 s1 nl sc1 hB1 => ?_⟩
    have hBb := hB.kp (Same.tup s1)
    have P1 : PenAt H1 p := ExtN.pen (.of s1) hP
    have T1 := hT.ext s1
    refine ⟨_, rfl, _, rfl, b, _, 2, _, rfl, rfl, SqT.of hBb.at_, (atI_nat (j := 2) rfl), p, t, refs zs, rfl, P1, .inr (SqT.of hBb.ents), by rw [List.length_map]; omega, fun L ys H3 k3 P3 nL eL pm => ⟨(by show 2 ≤ sizeLine; decide), fun t3 nt3 => ⟨t3, _, rfl, SqT.of upd_same, rfl, _, _, rfl, _, _, rfl, rfl, ?_⟩⟩⟩
    obtain ⟨ls, rfl, pml⟩ := perm_refs pm
    have s4 := same_new nt3 (.tup [.ref x, .ref L])
    generalize upd H3 t3 (.tup [.ref x, .ref L]) = H4 at s4
    replace eL := s4 _ _ eL
    replace P3 := ExtN.pen (.of s4) P3
    have k14 : Kp p H1 H4 := k3.trans (Kp.same s4)
    have nLp : L ≠ p := P1.free nL
    have x01 : XP p H H1 := .ofS s1
    have x04 : XP p H H4 := x01.trans (.ofK k14)
    have hB4 := hBb.kp (k14.tup P1)
    have hB04 := hB1.kp (k14.tup P1)
    have T4 := Tabs.kp T1 k14 P1
    obtain ⟨⟨dx1, hx1⟩, hl1⟩ := id sc1
    obtain ⟨pp, hpp⟩ := P1.lst
    have nlp : l ≠ p := (hP.free nl)
    have nxp : x ≠ p := (hP.free nx)
    have nLx : L ≠ x := fun z => by rw [z, hx1] at nL; cases nL
    have nLl : L ≠ l := fun z => by rw [z, hl1] at nL; cases nL
    have nL0 : H L = none := none_back s1 nL
    have sc4 : ScAt C H4 x b0 l [] := ⟨⟨dx1, k14 _ _ nxp hx1⟩, k14 _ _ nlp hl1⟩
    refine ⟨fun m σ H' => ∃ (b' t' : Addr) (es : List V) (fs ls : List (Addr × En)) (y5 y6 y7 : Option V), σ = [some (.ref p), some (.ref b), some (.bl sy), some (.ref x), some (.ref L), y5, y6, y7] ∧ H' L = some (.lst (refs ls)) ∧ XP p H H' ∧ PenAt H' p ∧ Tabs T H' ∧ ScAt C H' x b' l es ∧ es.length + 3 * ls.length ≤ 48 ∧ BookAt H' b' fk t' n age fs ∧ fs.Pairwise (fun u v => u.2.num < v.2.num) ∧ (∀ z ∈ ls, EntAt H' z.1 z.2) ∧ (fs ++ ls).Perm zs ∧ m = ls.length, ⟨_, b0, t0, [], [], ls, _, _, _, rfl, eL, x04, P3, T4, sc4, (by have := pml.length_eq; simp only [List.length_nil]; omega), hB04, List.Pairwise.nil, fun z hz => hB4.ent z (pml.mem_iff.mp hz), by rw [List.nil_append]; exact pml, rfl⟩, ?_⟩
    rintro m σ H5 ⟨b', t', es, fs, ls, y5, y6, y7, rfl, eL5, x5, P5, T5, sc5, hes, hB5, so5, hE5, pm5, rfl⟩
    have hin : ∀ y ∈ fs ++ ls, y.2 ∈ ens zs := fun y hy => List.mem_map.mpr ⟨y, pm5.mem_iff.mp hy, rfl⟩
    have hokl : ∀ e ∈ ens ls, EnOk n (dn (ens zs)) (an (ens zs)) e := fun e he => by
      obtain ⟨z, hz, rfl⟩ := List.mem_map.mp he
      exact hB.ok.ok _ (hin z (List.mem_append.mpr (.inr hz)))
    have hll : ls.length ≤ 16 := by
      have := pm5.length_eq
      rw [List.length_append] at this
      omega
    refine ⟨_, rfl, Nat.zero_le _, fun g1 ng1 => ?_⟩
    have s6 := same_new ng1 (.lst [])
    have e6 : (upd H5 g1 (.lst [])) g1 = some (.lst []) := upd_same
    generalize upd H5 g1 (.lst []) = H6 at s6 e6
    have x6 := x5.trans (XP.ofS s6)
    have P6 := ExtN.pen (.of s6) P5
    have T6 := T5.ext s6
    have sc6 := sc5.extN (.of s6)
    have hB6 := hB5.kp (Same.tup s6)
    have hE6 : ∀ z ∈ ls, EntAt H6 z.1 z.2 := fun z hz => (hE5 z hz).kp (Same.tup s6)
    have eL6 := s6 _ _ eL5
    refine ⟨_, _, .lst (SqL.of eL6) (dp_ents ls hE6), .lst (SqL.of e6) .nil, shaped_entsL (ens ls) hokl, by decide +kernel, _, rfl, ?_⟩
    rw [eqvL_nil]
    by_cases hne : ls = []
    · subst hne
      refine iteF ?_
      rw [List.append_nil] at pm5
      exact ⟨_, rfl, q x l b' t' es fs H6 x6 P6 T6 nx nl sc6 (by simpa using hes) hB6 pm5 so5⟩
    rw [show decide ((ens ls).map entD = []) = false from decide_eq_false fun z => hne (by
      cases ls with
      | nil => rfl
      | cons a r => cases z)]
    refine iteT ?_
    refine ⟨fun σ' H' => ∃ (b' t' : Addr) (es : List V) (fs ls' : List (Addr × En)) (y5 y6 y7 : Option V), σ' = [some (.ref p), some (.ref b), some (.bl sy), some (.ref x), some (.ref L), y5, y6, y7] ∧ H' L = some (.lst (refs ls')) ∧ XP p H H' ∧ PenAt H' p ∧ Tabs T H' ∧ ScAt C H' x b' l es ∧ es.length + 3 * ls'.length ≤ 48 ∧ BookAt H' b' fk t' n age fs ∧ fs.Pairwise (fun u v => u.2.num < v.2.num) ∧ (∀ z ∈ ls', EntAt H' z.1 z.2) ∧ (fs ++ ls').Perm zs ∧ ls'.length < ls.length, fun σ' H' h => ?_, ?_⟩
    · obtain ⟨b'', t'', es', fs', ls', z5, z6, z7, h1, h2, h3, h4, h5, h6, h7, h8, h9, h10, h11, h12⟩ := h
      exact ⟨_, h12, b'', t'', es', fs', ls', z5, z6, z7, h1, h2, h3, h4, h5, h6, h7, h8, h9, h10, h11, rfl⟩
    refine ⟨_, rfl, L, rfl, ⟨_, SqL.of eL6⟩, fun M nM => ?_⟩
    refine lc_sameV (walk_list (xs := refs ls)) ls (fun z => decide (dueS n (ens fs) z.2 = "ok")) (fun z => .ref z.1) (by rw [List.length_map]) (by omega) nM (fun H s => SqL.of (s _ _ eL6)) ?_ ?_
    · rintro i z y H7' H7 hz s7 ⟨rfl, hy⟩ Q1 Q0 q1 q0
      rw [List.getElem?_map, hz] at hy
      injection hy with hy
      subst hy
      have hzm := List.mem_of_getElem? hz
      have hoz := hokl z.2 (List.mem_map.mpr ⟨z, hzm, rfl⟩)
      have sc7 := sc6.extN (.of s7)
      obtain ⟨⟨dx7, hx7⟩, _⟩ := id sc7
      refine ⟨rfl, _, rfl, x, dx7, _, rfl, hx7, sfl_no _ _ (by decide +kernel) (by decide +kernel), x, b', l, _, rfl, sc7, _, rfl, b', fk, t', z.1, n, age, fs, z.2, rfl, hB6.kp (Same.tup s7), (hE6 z hzm).kp (Same.tup s7), hoz.word, by have := hoz.names_len; omega, fun H8 s8 => ⟨rfl, _, rfl, ?_⟩⟩
      rw [dec_strE]
      refine ite2 (fun c => ?_) (fun c => ?_)
      · exact ⟨_, rfl, q1 c _ s8⟩
      · exact q0 (Bool.eq_false_iff.mpr c) _ s8
    intro H7 s7 eM
    obtain ⟨zn, hzn, hdn⟩ := next_ok hB.ok hzl hB5.ok pm5 hne
    cases hg : ls.filter (fun z => decide (dueS n (ens fs) z.2 = "ok")) with
    | nil =>
      have : zn ∈ ls.filter (fun z => decide (dueS n (ens fs) z.2 = "ok")) := List.mem_filter.mpr ⟨hzn, decide_eq_true hdn⟩
      rw [hg] at this
      cases this
    | cons z0 gr =>
    rw [hg] at eM
    have hz0 : z0 ∈ ls.filter (fun z => decide (dueS n (ens fs) z.2 = "ok")) := by rw [hg]; exact List.mem_cons_self
    obtain ⟨hzl0, hd0⟩ := List.mem_filter.mp hz0
    have hd0 := of_decide_eq_true hd0
    have hgs : ∀ z ∈ z0 :: gr, z ∈ ls := fun z hz => by rw [← hg] at hz; exact (List.mem_filter.mp hz).1
    have ho0 := hokl z0.2 (List.mem_map.mpr ⟨z0, hzl0, rfl⟩)
    obtain ⟨hM, hfl, _⟩ := due_ok hB5.ok (by rw [List.length_map]; exact hB5.len) ho0.word ho0.neD hd0
    rw [List.length_map] at hfl
    refine ⟨_, rfl, Nat.zero_le _, fun g2 ng2 => ?_⟩
    have s8 := same_new ng2 (.lst [])
    have e8 : (upd H7 g2 (.lst [])) g2 = some (.lst []) := upd_same
    generalize upd H7 g2 (.lst []) = H8 at s8 e8
    have s68 := s7.trans s8
    have eM8 := s8 _ _ eM
    have x8 := x6.trans (XP.ofS s68)
    have P8 := ExtN.pen (.of s68) P6
    have T8 := T6.ext s68
    have sc8 := sc6.extN (.of s68)
    have hB8 := hB6.kp (Same.tup s68)
    have hE8 : ∀ z ∈ ls, EntAt H8 z.1 z.2 := fun z hz => (hE6 z hz).kp (Same.tup s68)
    have eL8 := s68 _ _ eL6
    refine ⟨_, _, .lst (SqL.of eM8) (dp_ents (z0 :: gr) fun z hz => hE8 z (hgs z hz)), .lst (SqL.of e8) .nil, shaped_entsL (n := n) (ds := dn (ens zs)) (as := an (ens zs)) (ens (z0 :: gr)) (fun e he => ?_), by decide +kernel, _, rfl, ?_⟩
    · obtain ⟨z, hz, rfl⟩ := List.mem_map.mp he
      exact hokl _ (List.mem_map.mpr ⟨z, hgs z hz, rfl⟩)
    rw [eqvL_nil, show decide ((ens (z0 :: gr)).map entD = []) = false from decide_eq_false fun z => by cases z]
    refine iteF ?_
    obtain ⟨⟨dx8, hx8⟩, _⟩ := id sc8
    -- written
    refine ⟨_, rfl, x, dx8, _, rfl, hx8, sfl_no _ _ (by decide +kernel) (by decide +kernel), _, rfl, M, _, 0, .ref z0.1, rfl, rfl, SqL.of eM8, (atI_nat (j := 0) rfl), x, b', l, fk, t', z0.1, es, n, age, fs, z0.2, rfl, sc8, by omega, hB8, hE8 z0 hzl0, hM, hfl, T8, fun b9 t9 fs9 H9 xs9 T9 sc9 hB9 pm9 so9 => ?_⟩
    have k89 : KpT H8 H9 := xs9.tup sc8
    have P9 := PenAt.xs P8 xs9 sc8 nlp
    have x9 := XP.ofX x8 nx nl xs9
    have eL9 := xs9 _ _ nLx nLl eL8 fun ps z => by cases z
    have hE9 : ∀ z ∈ ls, EntAt H9 z.1 z.2 := fun z hz => (hE8 z hz).kp k89
    have nMx : M ≠ x := fun z => by
      obtain ⟨⟨d, h⟩, _⟩ := sc6
      rw [z, h] at nM
      cases nM
    have nMl : M ≠ l := fun z => by rw [z, sc6.ls] at nM; cases nM
    have eM9 := xs9 _ _ nMx nMl eM8 fun ps z => by cases z
    obtain ⟨As, Bs, hAB⟩ := List.append_of_mem hzl0
    have ndl : ((ens ls).map (·.num)).Nodup := by
      have nd2 : ((ens (fs ++ ls)).map (·.num)).Nodup := ((pm5.map Prod.snd).map (·.num)).nodup_iff.mpr hB.ok.nd
      rw [show ens (fs ++ ls) = ens fs ++ ens ls by simp [ens], List.map_append, List.nodup_append] at nd2
      exact nd2.2.1
    refine ⟨_, rfl, .inl ⟨rfl, _, SqL.of eL9⟩, _, rfl, M, _, 0, .ref z0.1, rfl, rfl, SqL.of eM9, (atI_nat (j := 0) rfl), L, refs ls, (ens ls).map entD, .ref z0.1, entD z0.2, As.length, entD z0.2, rfl, rfl, eL9, dp_ents ls hE9, (hE9 z0 hzl0).dp, shaped_entsL (ens ls) hokl, ?_, ?_, eqv_ent_self _, ?_, ?_⟩
    · have h1 := depth_ent z0.2
      show (PyData.canLay0 (entD z0.2) && decide (PyData.depth (entD z0.2) ≤ 64)) = true
      rw [ho0.lay, decide_eq_true (by omega)]
      rfl
    · rw [hAB]
      simp [ens]
    · intro m z' hm hz'
      rw [hAB] at hz' ndl
      have hm2 : m < (ens As).length := by rw [List.length_map]; exact hm
      rw [show ens (As ++ z0 :: Bs) = ens As ++ z0.2 :: ens Bs by simp [ens], List.getElem?_map, List.getElem?_append_left hm2, List.getElem?_eq_getElem hm2] at hz'
      rw [show ens (As ++ z0 :: Bs) = ens As ++ z0.2 :: ens Bs by simp [ens], List.map_append, List.nodup_append] at ndl
      rw [← Option.some.inj hz']
      refine eqv_ent_ne (ndl.2.2 _ (List.mem_map.mpr ⟨_, List.getElem_mem hm2, rfl⟩) _ ?_)
      simp
    have eEr : (refs ls).eraseIdx As.length = refs (As ++ Bs) := by
      rw [hAB]
      have h1 : As.length = (refs As).length := (List.length_map _).symm
      rw [show refs (As ++ z0 :: Bs) = refs As ++ .ref z0.1 :: refs Bs by simp [refs], h1, List.eraseIdx_append_of_length_le (Nat.le_refl _), Nat.sub_self, List.eraseIdx_cons_zero]
      simp [refs]
    rw [eEr]
    have kU : KpT H9 (upd H9 L (.lst (refs (As ++ Bs)))) := KpT.lst eL9 _
    have P10 : PenAt (upd H9 L (.lst (refs (As ++ Bs)))) p := P9.put nLp _
    have T10 : Tabs T (upd H9 L (.lst (refs (As ++ Bs)))) := Tabs.put T9 eL9 _
    have x10 : XP p H (upd H9 L (.lst (refs (As ++ Bs)))) := x9.put nL0 _
    have eL10 : (upd H9 L (.lst (refs (As ++ Bs)))) L = some (.lst (refs (As ++ Bs))) := upd_same
    have sc10 : ScAt C (upd H9 L (.lst (refs (As ++ Bs)))) x b9 l (es ++ [.ref b']) := by
      obtain ⟨⟨dx, hx⟩, hl⟩ := sc9
      exact ⟨⟨dx, by rw [upd_ne nLx.symm]; exact hx⟩, by rw [upd_ne nLl.symm]; exact hl⟩
    generalize (upd H9 L (.lst (refs (As ++ Bs)))) = H10 at kU P10 T10 x10 eL10 sc10
    have hB10 := hB9.kp kU
    have hsub : ∀ z ∈ As ++ Bs, z ∈ ls := fun z hz => by
      rw [hAB]
      rcases List.mem_append.mp hz with h | h
      · exact List.mem_append.mpr (.inl h)
      · exact List.mem_append.mpr (.inr (List.mem_cons_of_mem _ h))
    have hE10 : ∀ z ∈ As ++ Bs, EntAt H10 z.1 z.2 := fun z hz => (hE9 z (hsub z hz)).kp kU
    have pmz : (fs9 ++ (As ++ Bs)).Perm zs := by
      refine List.Perm.trans ?_ pm5
      rw [hAB]
      refine (pm9.append_right (As ++ Bs)).trans ?_
      rw [List.append_assoc]
      exact List.Perm.append_left fs (show ((z0 :: (As ++ Bs) : List (Addr × En))).Perm (As ++ z0 :: Bs) from List.perm_middle.symm)
    have hl1 : (As ++ Bs).length + 1 = ls.length := by rw [hAB, List.length_append, List.length_append, List.length_cons]; omega
    -- an entry more
    refine ⟨_, rfl, _, rfl, p, b, fk, t, n, age, zs, rfl, P10, hB.kp (x10.tup hP), fun a e H11 k11 P11 hEe ⟨ds, as, hwk⟩ hnm => ?_⟩
    have k1011 := k11.tup P10
    have x11 := x10.trans (XP.ofK k11)
    have T11 := Tabs.kp T10 k11 P10
    have eL11 := k11 _ _ nLp eL10
    have sc11 : ScAt C H11 x b9 l (es ++ [.ref b']) := by
      obtain ⟨⟨dx, hx⟩, hl⟩ := sc10
      exact ⟨⟨dx, k11 _ _ nxp hx⟩, k11 _ _ nlp hl⟩
    have hB11 := hB10.kp k1011
    have hE11 : ∀ z ∈ As ++ Bs, EntAt H11 z.1 z.2 := fun z hz => (hE10 z hz).kp k1011
    have hes1 : (es ++ [V.ref b']).length = es.length + 1 := by rw [List.length_append]; rfl
    have fin : ∀ (b' t' : Addr) (es' : List V) (gs : List (Addr × En)) (y5 y6 y7 : Option V) (H' : Hp), XP p H H' → PenAt H' p → Tabs T H' → ScAt C H' x b' l es' → es'.length ≤ es.length + 3 → BookAt H' b' fk t' n age gs → gs.Pairwise (fun u v => u.2.num < v.2.num) → gs.Perm fs9 → H' L = some (.lst (refs (As ++ Bs))) → KpT H11 H' →
        ∃ (b'' t'' : Addr) (es'' : List V) (gs' ls' : List (Addr × En)) (z5 z6 z7 : Option V), [some (.ref p), some (.ref b), some (.bl sy), some (.ref x), some (.ref L), y5, y6, y7] = [some (.ref p), some (.ref b), some (.bl sy), some (.ref x), some (.ref L), z5, z6, z7] ∧ H' L = some (.lst (refs ls')) ∧ XP p H H' ∧ PenAt H' p ∧ Tabs T H' ∧ ScAt C H' x b'' l es'' ∧ es''.length + 3 * ls'.length ≤ 48 ∧ BookAt H' b'' fk t'' n age gs' ∧ gs'.Pairwise (fun u v => u.2.num < v.2.num) ∧ (∀ z ∈ ls', EntAt H' z.1 z.2) ∧ (gs' ++ ls').Perm zs ∧ ls'.length < ls.length := by
      intro b'' t'' es'' gs z5 z6 z7 H' h1 h2 h3 h4 h5 h6 h7 h8 h9 h10
      exact ⟨b'', t'', es'', gs, As ++ Bs, z5, z6, z7, rfl, h9, h1, h2, h3, h4, by omega, h6, h7, fun z hz => (hE11 z hz).kp h10, (h8.append_right _).trans pmz, by omega⟩
    refine ⟨_, rfl, _, rfl, ?_⟩
    cases sy with
    | false => exact iteF (fin b9 t9 _ fs9 _ _ _ H11 x11 P11 T11 sc11 (by omega) hB11 so9 (List.Perm.refl _) eL11 (KpT.refl _))
    | true =>
    refine iteT ?_
    obtain ⟨⟨dx11, hx11⟩, _⟩ := id sc11
    refine ⟨_, rfl, x, dx11, _, rfl, hx11, sfl_no _ _ (by decide +kernel) (by decide +kernel), x, b9, l, _, rfl, sc11, _, rfl, b9, fk, t9, a, n, age, fs9, e, rfl, hB11, hEe, hwk.word, by omega, fun H12 s12 => ⟨rfl, _, rfl, ?_⟩⟩
    have k12 := Same.tup s12
    have P12 := ExtN.pen (.of s12) P11
    have x12 := x11.trans (XP.ofS s12)
    have T12 := T11.ext s12
    have sc12 := sc11.extN (.of s12)
    have hB12 := hB11.kp k12
    have eL12 := s12 _ _ eL11
    have hEe12 := hEe.kp k12
    rw [dec_strE]
    refine ite2 (fun cd => ?_) (fun cd => ?_)
    rotate_left
    · exact fin b9 t9 _ fs9 _ _ _ H12 x12 P12 T12 sc12 (by omega) hB12 so9 (List.Perm.refl _) eL12 k12
    obtain ⟨xe, ex, g0, _⟩ := hEe12.tup
    refine ⟨_, rfl, a, xe, 0, _, rfl, rfl, SqT.of ex, g0, _, rfl, L, rfl, ⟨_, SqL.of eL12⟩, fun M2 nM2 => ?_⟩
    refine lc_sameM (walk_list (xs := refs (As ++ Bs))) (As ++ Bs) (fun z => .int z.2.num) (by rw [List.length_map]) (by omega) nM2 (fun H s => SqL.of (s _ _ eL12)) ?_ ?_
    · rintro i z y H3' H3 hz s3 ⟨rfl, hy⟩ Q1 q1
      rw [List.getElem?_map, hz] at hy
      injection hy with hy
      subst hy
      obtain ⟨xs, ex, g0, _⟩ := ((hE11 z (List.mem_of_getElem? hz)).kp (k12.trans (Same.tup s3))).tup
      exact ⟨rfl, _, rfl, z.1, xs, 0, _, rfl, rfl, SqT.of ex, g0, q1 _ (same_refl _)⟩
    intro H13 s13 eM13
    have eM13' : H13 M2 = some (.lst (((ens (As ++ Bs)).map (·.num)).map V.int)) := by
      rw [eM13]
      simp [ens, List.map_map, Function.comp_def]
    have k13 := k12.trans (Same.tup s13)
    have P13 := ExtN.pen (.of s13) P12
    have x13 := x12.trans (XP.ofS s13)
    have T13 := T12.ext s13
    have sc13 := sc12.extN (.of s13)
    have hB13 := hB12.kp (Same.tup s13)
    have eL13 := s13 _ _ eL12
    have hEe13 := hEe12.kp (Same.tup s13)
    refine ⟨M2, _, rfl, .inl (SqL.of eM13'), rfl, flat_ints _, _, rfl, ?_⟩
    rw [mem_inV]
    by_cases hm : e.num ∈ (ens (As ++ Bs)).map (·.num)
    · rw [decide_eq_true hm]
      exact iteF (fin b9 t9 _ fs9 _ _ _ H13 x13 P13 T13 sc13 (by omega) hB13 so9 (List.Perm.refl _) eL13 k13)
    rw [decide_eq_false hm]
    refine iteT ?_
    obtain ⟨hM2, hfl2, _⟩ := due_ok hB13.ok (by rw [List.length_map]; exact hB13.len) hwk.word hwk.neD (of_decide_eq_true cd)
    rw [List.length_map] at hfl2
    obtain ⟨⟨dx13, hx13⟩, _⟩ := id sc13
    refine ⟨_, rfl, x, dx13, _, rfl, hx13, sfl_no _ _ (by decide +kernel) (by decide +kernel), _, rfl, x, b9, l, fk, t9, a, _, n, age, fs9, e, rfl, sc13, by omega, hB13, hEe13, hM2, hfl2, T13, fun b14 t14 fs14 H14 xs14 T14 sc14 hB14 pm14 so14 => ?_⟩
    have k1314 : KpT H13 H14 := xs14.tup sc13
    have k14 := k13.trans k1314
    have P14 := PenAt.xs P13 xs14 sc13 nlp
    have x14 := XP.ofX x13 nx nl xs14
    have eL14 := xs14 _ _ nLx nLl eL13 fun ps z => by cases z
    refine ⟨_, rfl, p, 2, rfl, P14, by decide, by decide, fun v H15 k15 P15 v0 v1 => ⟨rfl, _, rfl, ?_⟩⟩
    have k1415 := k15.tup P14
    have x15 := x14.trans (XP.ofK k15)
    have T15 := Tabs.kp T14 k15 P14
    have eL15 := k15 _ _ nLp eL14
    have sc15 : ScAt C H15 x b14 l ((es ++ [.ref b']) ++ [.ref b9]) := by
      obtain ⟨⟨dx, hx⟩, hl⟩ := sc14
      exact ⟨⟨dx, k15 _ _ nxp hx⟩, k15 _ _ nlp hl⟩
    have hes2 : ((es ++ [V.ref b']) ++ [V.ref b9]).length = es.length + 2 := by rw [List.length_append, hes1]; rfl
    have hB15 := hB14.kp k1415
    have hEe15 := hEe13.kp (k1314.trans k1415)
    obtain ⟨⟨dx15, hx15⟩, _⟩ := id sc15
    rw [dec_intE]
    refine ite2 (fun c => ?_) (fun c => ?_)
    · -- torn out again
      obtain ⟨xe, ex, g0, _⟩ := hEe15.tup
      have hno : ∀ u ∈ ens fs14, e.num ∉ u.names := fun u hu => out_names hB13.ok hM2 u (by
        have h1 := (pm14.map Prod.snd).mem_iff.mp hu
        rwa [List.map_append] at h1)
      refine ⟨_, rfl, x, dx15, _, rfl, hx15, sfl_no _ _ (by decide +kernel) (by decide +kernel), _, rfl, a, xe, 0, _, rfl, rfl, SqT.of ex, g0, x, b14, l, fk, t14, _, n, age, e.num, fs14, rfl, sc15, by omega, hB15, ?_, ?_, T15, fun b16 t16 fs16 H16 xs16 T16 sc16 hB16 pm16 so16 => ?_⟩
      · exact List.mem_map.mpr ⟨e, (pm14.map Prod.snd).mem_iff.mpr (by simp), rfl⟩
      · refine List.map_eq_nil_iff.mpr (List.filter_eq_nil_iff.mpr fun z hz => ?_)
        rw [decide_eq_false (hno z.2 (List.mem_map.mpr ⟨z, hz, rfl⟩))]
        exact Bool.false_ne_true
      refine fin b16 t16 _ fs16 _ _ _ H16 (XP.ofX x15 nx nl xs16) (PenAt.xs P15 xs16 sc15 nlp) T16 sc16 (by rw [List.length_append, hes2]; exact Nat.le_refl _) hB16 so16 (pm16.trans ((pm14.filter _).trans ?_)) (xs16 _ _ nLx nLl eL15 fun ps z => by cases z) ((k14.trans k1415).trans (xs16.tup sc15))
      rw [filt_back hM2.less.2.1]
    · -- undone
      refine ⟨_, rfl, x, dx15, _, rfl, hx15, sfl_no _ _ (by decide +kernel) (by decide +kernel), x, b14, l, _, rfl, sc15, T15, fun z => absurd z (by simp), fun gs r0 hz => ?_⟩
      obtain ⟨hz1, hz2⟩ := List.append_inj' hz rfl
      injection hz2 with hz2
      subst hz1 hz2
      refine ⟨b9, rfl, fun H16 xs16 T16 sc16 => ?_⟩
      have k1316 := (k1314.trans k1415).trans (xs16.tup sc15)
      exact fin b9 t9 _ fs9 _ _ _ H16 (XP.ofX x15 nx nl xs16) (PenAt.xs P15 xs16 sc15 nlp) T16 sc16 (by omega) (hB13.kp k1316) so9 (List.Perm.refl _) (xs16 _ _ nLx nLl eL15 fun ps z => by cases z) (k13.trans k1316)
end
end Deed

namespace Deed
open PySem PySem.Spec PyProof.Rows L2 LamX
/-- all but the pen, the scribe, its list and the tables is as it was -/
def XQ (p x l : Addr) (H H' : Hp) : Prop := ∀ c o, c ≠ p → c ≠ x → c ≠ l → H c = some o → (∀ ps, o ≠ .tbl ps) → H' c = some o
section
variable {p x l : Addr} {H H1 H2 : Hp}
theorem XQ.trans (a : XQ p x l H H1) (b : XQ p x l H1 H2) : XQ p x l H H2 := fun c o n1 n2 n3 h t => b c o n1 n2 n3 (a c o n1 n2 n3 h t) t
theorem XQ.ofK (k : Kp p H H1) : XQ p x l H H1 := fun c o n1 _ _ h _ => k c o n1 h
theorem XQ.ofS (k : Same H H1) : XQ p x l H H1 := fun c o _ _ _ h _ => k c o h
theorem XQ.ofN (k : ExtN H H1) : XQ p x l H H1 := fun c o _ _ _ h t => k c o h t
theorem XQ.ofX (k : XS x l H H1) : XQ p x l H H1 := fun c o _ n2 n3 h t => k c o n2 n3 h t
end
theorem iteFB {A B : Prop} {b : Bool} (h : b = false) (q : B) : if b = true then A else B := by subst h; exact q
theorem eqvAll_len : ∀ {xs ys : List PyData}, xs.length ≠ ys.length → PyData.eqvAll xs ys = false
  | [], [], h => absurd rfl h
  | [], _ :: _, _ => by simp [PyData.eqvAll]
  | _ :: _, [], _ => by simp [PyData.eqvAll]
  | x :: xs, y :: ys, h => by
    rw [PyData.eqvAll, eqvAll_len (xs := xs) (ys := ys) (fun z => h (by rw [List.length_cons, List.length_cons, z])), Bool.and_false]
theorem eqv_less {ps : List (Int × Option Int)} {age : Int} {es es' : List En} (h : es.length ≠ es'.length) : PyData.eqv (bkD ps age es) (bkD ps age es') = false := by
  have h1 : PyData.eqvAll (es.map entD) (es'.map entD) = false := eqvAll_len (by rw [List.length_map, List.length_map]; exact h)
  simp [bkD, PyData.eqv, PyData.eqvAll, h1]
theorem num_pair : ∀ {l : List (Addr × En)}, l.Pairwise (fun u v => u.2.num < v.2.num) → ∀ u ∈ l, ∀ v ∈ l, u.2.num = v.2.num → u = v
  | [], _, _, h, _, _, _ => nomatch h
  | a :: r, hp, u, hu, v, hv, e => by
    rw [List.pairwise_cons] at hp
    rcases List.mem_cons.mp hu with rfl | hu' <;> rcases List.mem_cons.mp hv with rfl | hv'
    · rfl
    · have := hp.1 v hv'; omega
    · have := hp.1 u hu'; omega
    · exact num_pair hp.2 u hu' v hv' e
/-- an entry that no other one names is there -/
theorem some_free {n : Nat} {zs : List (Addr × En)} (hB : BkOk n (ens zs)) (so : zs.Pairwise (fun u v => u.2.num < v.2.num)) (hne : zs ≠ []) : ∃ z ∈ zs, dueO zs (.int z.2.num) = "ok" := by
  obtain ⟨fs, z, rfl⟩ := List.eq_nil_or_concat zs |>.resolve_left hne
  rw [List.concat_eq_append] at hB so ⊢
  refine ⟨z, by simp, ?_⟩
  have hm : z.2.num ∈ (ens (fs ++ [z])).map (·.num) := List.mem_map.mpr ⟨z.2, List.mem_map.mpr ⟨z, by simp, rfl⟩, rfl⟩
  show (if z.2.num ∈ (ens (fs ++ [z])).map (·.num) then (if namers (fs ++ [z]) z.2.num = [] then ("ok" : Str) else "named") else "missing") = "ok"
  rw [if_pos hm, if_pos]
  refine List.map_eq_nil_iff.mpr (List.filter_eq_nil_iff.mpr fun u hu => ?_)
  have hle : u.2.num ≤ z.2.num := by
    rcases List.mem_append.mp hu with h | h
    · have := (List.pairwise_append.mp so).2.2 u h z (by simp)
      omega
    · rw [List.mem_singleton.mp h]
      exact Int.le_refl _
  have hno : z.2.num ∉ u.2.names := fun hq => by
    have := ((hB.ok u.2 (List.mem_map.mpr ⟨u, hu, rfl⟩)).names_lt hq).1
    omega
  rw [decide_eq_false hno]
  exact Bool.false_ne_true
theorem due_free {zs : List (Addr × En)} {m : Int} (h : dueO zs (.int m) = "ok") : m ∈ (ens zs).map (·.num) ∧ namers zs m = [] := by
  have h1 : (if m ∈ (ens zs).map (·.num) then (if namers zs m = [] then ("ok" : Str) else "named") else "missing") = "ok" := h
  by_cases hm : m ∈ (ens zs).map (·.num)
  · rw [if_pos hm] at h1
    by_cases hn : namers zs m = []
    · exact ⟨hm, hn⟩
    · rw [if_neg hn] at h1
      exact absurd h1 (by decide +kernel)
  · rw [if_neg hm] at h1
    exact absurd h1 (by decide +kernel)
section
variable {P : Program} {w : World} {K : PySem.W.Frag} {mg : Str → Option Value} {base : Heap} {T : List (Addr × Str)} {C : Addr}
abbrev sLTornR : Stmt := topS 97
abbrev nLTornR : List Str := ["_law_pen_here", "_law_scribe", "_law_book_here", "_law_free", "_law_entry", "_law_other"]
abbrev pLTornR : List Str := ["_law_pen_here", "_law_scribe"]
theorem scLTornR : FnScope nLTornR pLTornR (defScope sLTornR) := ⟨rfl, rfl, rfl, by decide +kernel, rfl, by decide +kernel, by decide +kernel⟩
def spLTornR (C : Addr) (T : List (Addr × Str)) : Sp := fun vs H Q _ => ∃ (p x b l fk t : Addr) (es : List V) (n : Nat) (age : Int) (zs : List (Addr × En)), vs = [.ref p, .ref x] ∧ PenAt H p ∧ ScAt C H x b l es ∧ l ≠ p ∧ es.length ≤ 800 ∧ BookAt H b fk t n age zs ∧ zs.Pairwise (fun u v => u.2.num < v.2.num) ∧ Tabs T H ∧
  ∀ b' t' es' H', XQ p x l H H' → KpT H H' → PenAt H' p → Tabs T H' → ScAt C H' x b' l es' → es'.length ≤ es.length + 2 → BookAt H' b' fk t' n age zs → Q (.bl true) H'
theorem ok_LTornR {f : Addr} {fd : FuncData} {k : Nat} (F : Fun K "_law_torn_right" "_law_torn_right" sLTornR f fd) (S : ScT K mg C) (ic : C8.InsC K C)
    (C_bk : CallM P w K mg base CX0 (k + 1) C "book" nScB (spScB C)) (C_wr : CallM P w K mg base CX0 (k + 1) C "write" nScW (spScW C T)) (C_te : CallM P w K mg base CX0 (k + 1) C "tear" nScR (spScR C T)) (C_tw : CallM P w K mg base CX0 (k + 1) C "twin" ["self"] (spScN C)) (C_eq : CallS P w K mg base k C "__eq__" nScE (spScE K C)) (G : OwnE.EqF K C C_eq.f) (C_le : CallS P w K mg base k C "__len__" nScB (spScL C))
    (C__law_due_out : CallOk P w K mg base (k + 1) "_law_due_out" pLDueOut spLDueOut) (C__law_draw : CallOk P w K mg base (k + 1) "_law_draw" ["_law_pen_here", "_law_bound"] spDraw) (m_len : mg "len" = none) : FnOk P w K mg base CX0 (k + 2) f fd pLTornR (spLTornR C T) := by
  refine F.ok scLTornR (fun vs H Q E h => ?_) (fun cdv A outer s H vs Q E hr h => ?_)
  · obtain ⟨p, x, b, l, fk, t, es, n, age, zs, rfl, _⟩ := h
    rfl
  · obtain ⟨p, x, b, l, fk, t, es, n, age, zs, rfl, hP, hSc, nlp, hes, hB, hso, hT, q⟩ := h
    have nd := scLTornR.nd
    have hu := hu_of hr
    refine ⟨_, pss_cons (ps_set (i := 2) nd rfl (.inr rfl) (pe_meth0 (pv 1) S.cl C_bk.h C_bk.ok hr C_bk.b .nil pass0))
      (pss_cons (ps_setLc (i := 3) (own := [("_law_entry", 4)]) (g := gName 4) (by rfl) nd rfl rfl (sw_true rfl rfl rfl (by decide +kernel)) (pi_tup (pe_ix ix_tup (pv 2) pe_int (fun _ _ => rfl))) (blkOk_by (own := [("_law_entry", 4)]) (N := nLTornR) (sc := defScope sLTornR) (by decide +kernel)) (fun _ _ _ _ _ => (pg_name (i := 4) nd rfl (.inl rfl))) (fun _ _ _ _ _ => (pts_one (pt_cmpR op_eq (pe_call C__law_due_out.ok hr (by rfl) C__law_due_out.g C__law_due_out.kp C__law_due_out.b .nil pass0 (pa_cons (pv 2) (pa_cons (pe_ix (ix_tupK (K := K) (by rfl)) (pv 4) pe_int (fun _ _ => rfl)) pa_nil))) pe_str (nomark _))))
          (fun _ _ _ _ _ => (pv 4)))
      (pss_cons (ps_if (pt_cmpR (op_eqD hr.units) (pv 3) (pe_lst pa_nil) (nomark _)) (pss_one (ps_ret (pe_cmpR (op_eqD hr.units) (pe_ix ix_tup (pv 2) pe_int (fun _ _ => rfl)) (pe_tup pa_nil) (nomark _)))) pss_nil)
      (pss_cons (ps_par (i := 4) (j := 5) (by rfl) nd rfl rfl (by decide) rfl rfl (pa_cons (pe_ix ix_list (pv 3) (pe_call C__law_draw.ok hr (by rfl) C__law_draw.g C__law_draw.kp C__law_draw.b .nil pass0 (pa_cons (pv 0) (pa_cons (pe_callB call_len_seq (by rfl) m_len (by decide +kernel) (pa_cons (pv 3) pa_nil)) pa_nil))) (fun _ _ => rfl)) (pa_cons (pe_meth0 (pv 1) S.cl C_tw.h C_tw.ok hr C_tw.b .nil pass0) pa_nil)) (by rfl))
      (pss_cons (ps_expr (pe_meth (pv 1) S.cl C_te.h C_te.ok hr C_te.b .nil pass0 (pa_cons (pe_ix ix_tup (pv 4) pe_int (fun _ _ => rfl)) pa_nil)))
      (pss_cons (ps_if (PW.pt (pw_or (pt_cmpR (OwnE.op_eqO (E := fun _ _ _ => False) C_eq.ok G C_eq.b pass0 hr) (pv 1) (pv 5) (nomark _)) (pw_or1 (pt_cmpR op_ne (pe_callB (OwnS.call_lenO (E := fun _ _ _ => False) C_le.ok C_le.h C_le.b pass0 (hr.mono (by omega))) (by rfl) m_len (by decide +kernel) (pa_cons (pv 1) pa_nil)) (pe_op op_sub (pe_callB (OwnS.call_lenO (E := fun _ _ _ => False) C_le.ok C_le.h C_le.b pass0 (hr.mono (by omega))) (by rfl) m_len (by decide +kernel) (pa_cons (pv 5) pa_nil)) pe_int) (nomark _))))) (pss_one (ps_ret pe_bl)) pss_nil)
      (pss_cons (ps_expr (pe_meth (pv 1) S.cl C_wr.h C_wr.ok hr C_wr.b .nil pass0 (pa_cons (pv 4) pa_nil)))
      (pss_one (ps_ret (pe_and (pe_cmpR (OwnE.op_eqO (E := fun _ _ _ => False) C_eq.ok G C_eq.b pass0 hr) (pv 1) (pv 5) (nomark _)) (pe_one (pe_cmpR (op_eqD hr.units) (pe_meth0 (pv 1) S.cl C_bk.h C_bk.ok hr C_bk.b .nil pass0) (pv 2) (nomark _)))))))))))), ?_⟩
    have hzl := hB.len
    obtain ⟨⟨dx, hx⟩, hl⟩ := id hSc
    obtain ⟨pp, hpp⟩ := hP.lst
    have nxp : x ≠ p := fun z => by rw [z, hpp] at hx; cases hx
    have nxl : x ≠ l := fun z => by rw [z, hl] at hx; cases hx
    refine ⟨_, rfl, x, dx, _, rfl, hx, sfl_no _ _ (by decide +kernel) (by decide +kernel), x, b, l, _, rfl, hSc, ?_⟩
    refine ⟨_, rfl, b, _, 2, _, rfl, rfl, SqT.of hB.at_, (atI_nat (j := 2) rfl), t, rfl, ⟨_, SqT.of hB.ents⟩, fun M1 nM1 => ?_⟩
    refine lc_sameV (walk_tup (xs := refs zs)) zs (fun z => decide (dueO zs (.int z.2.num) = "ok")) (fun z => .ref z.1) (by rw [List.length_map]) (by omega) nM1 (fun H s => SqT.of (s _ _ hB.ents)) ?_ ?_
    · rintro i z y H7' H7 hz s7 ⟨rfl, hy⟩ Q1 Q0 q1 q0
      rw [List.getElem?_map, hz] at hy
      injection hy with hy
      subst hy
      have hzm := List.mem_of_getElem? hz
      obtain ⟨xs, ex, g0, _⟩ := ((hB.ent z hzm).kp (Same.tup s7)).tup
      refine ⟨rfl, _, rfl, _, rfl, z.1, xs, 0, _, rfl, rfl, SqT.of ex, g0, p, b, fk, t, n, age, zs, _, .int z.2.num, rfl, hB.kp (Same.tup s7), .int _, fun H8 s8 => ⟨rfl, _, rfl, ?_⟩⟩
      rw [dec_strE]
      refine ite2 (fun c => ?_) (fun c => ?_)
      · exact ⟨_, rfl, q1 c _ s8⟩
      · exact q0 (Bool.eq_false_iff.mpr c) _ s8
    intro H1 s1 eM
    have hB1 := hB.kp (Same.tup s1)
    refine ⟨_, rfl, Nat.zero_le _, fun g2 ng2 => ?_⟩
    have s2 := same_new ng2 (.lst [])
    have e2 : (upd H1 g2 (.lst [])) g2 = some (.lst []) := upd_same
    generalize upd H1 g2 (.lst []) = H2 at s2 e2
    have s02 := s1.trans s2
    have eM2 := s2 _ _ eM
    have hB2 := hB.kp (Same.tup s02)
    have P2 : PenAt H2 p := ExtN.pen (.of s02) hP
    have T2 := hT.ext s02
    have sc2 := hSc.extN (.of s02)
    obtain ⟨gs, hgs⟩ : ∃ gs, zs.filter (fun z => decide (dueO zs (.int z.2.num) = "ok")) = gs := ⟨_, rfl⟩
    rw [hgs] at eM2
    have hgz : ∀ z ∈ gs, z ∈ zs ∧ dueO zs (.int z.2.num) = "ok" := fun z hz => by
      rw [← hgs] at hz
      obtain ⟨h1, h2⟩ := List.mem_filter.mp hz
      exact ⟨h1, of_decide_eq_true h2⟩
    have hgl : gs.length ≤ 16 := by rw [← hgs]; exact Nat.le_trans (List.length_filter_le _ _) hzl
    refine ⟨_, _, .lst (SqL.of eM2) (dp_ents gs fun z hz => hB2.ent z (hgz z hz).1), .lst (SqL.of e2) .nil, shaped_entsL (n := n) (ds := dn (ens zs)) (as := an (ens zs)) (ens gs) (fun e he => ?_), by decide +kernel, _, rfl, ?_⟩
    · obtain ⟨z, hz, rfl⟩ := List.mem_map.mp he
      exact hB.ok.ok _ (List.mem_map.mpr ⟨z, (hgz z hz).1, rfl⟩)
    rw [eqvL_nil]
    cases gs with
    | nil =>
      have hzs : zs = [] := Classical.byContradiction fun hne => by
        obtain ⟨z, hz, hd⟩ := some_free hB.ok hso hne
        have : z ∈ zs.filter (fun z => decide (dueO zs (.int z.2.num) = "ok")) := List.mem_filter.mpr ⟨hz, decide_eq_true hd⟩
        rw [hgs] at this
        cases this
      subst hzs
      refine iteT ?_
      refine ⟨_, rfl, b, _, 2, _, rfl, rfl, SqT.of hB2.at_, (atI_nat (j := 2) rfl), Nat.zero_le _, fun t3 nt3 => ?_⟩
      have s3 := same_new nt3 (.tup [])
      have e3 : (upd H2 t3 (.tup [])) t3 = some (.tup []) := upd_same
      generalize upd H2 t3 (.tup []) = H3 at s3 e3
      have hB3 := hB2.kp (Same.tup s3)
      refine ⟨_, _, .tup (SqT.of hB3.ents) .nil, .tup (SqT.of e3) .nil, by decide +kernel, by decide +kernel, ?_⟩
      rw [show PyData.eqv (.tuple []) (.tuple []) = true by decide +kernel]
      have s03 := s02.trans s3
      exact q b t es H3 (.ofS s03) (Same.tup s03) (ExtN.pen (.of s3) P2) (T2.ext s3) (sc2.extN (.of s3)) (by omega) hB3
    | cons z0 gr =>
    rw [show decide ((ens (z0 :: gr)).map entD = []) = false from decide_eq_false fun z => by cases z]
    refine iteF ?_
    have hgl2 : ((refs (z0 :: gr)).length : Int) = (gr.length : Int) + 1 := by rw [List.length_map, List.length_cons]; rfl
    rw [List.length_cons] at hgl
    refine ⟨_, rfl, _, rfl, _, rfl, M1, _, rfl, .inl (SqL.of eM2), p, _, rfl, P2, (by show (0 : Int) < ((refs (z0 :: gr)).length : Int); rw [hgl2]; omega), (by show ((refs (z0 :: gr)).length : Int) < 1073741824; rw [hgl2]; omega), fun v H3 k3 P3 v0 v1 => ?_⟩
    have v1 : v < ((refs (z0 :: gr)).length : Int) := v1
    have hvl : v.toNat < (z0 :: gr).length := by rw [hgl2] at v1; rw [List.length_cons]; omega
    obtain ⟨z, hz⟩ : ∃ z, (z0 :: gr)[v.toNat]? = some z := ⟨_, List.getElem?_eq_getElem hvl⟩
    obtain ⟨hzz, hdz⟩ := hgz z (List.mem_of_getElem? hz)
    obtain ⟨hzn, hna⟩ := due_free hdz
    have nMp : M1 ≠ p := fun e => by rw [e, hpp] at nM1; cases nM1
    have eM3 := k3 _ _ nMp eM2
    have k23 := k3.tup P2
    have T3 := Tabs.kp T2 k3 P2
    have sc3 : ScAt C H3 x b l es := by
      obtain ⟨⟨d, h1⟩, h2⟩ := sc2
      exact ⟨⟨d, k3 _ _ nxp h1⟩, k3 _ _ nlp h2⟩
    have hB3 := hB2.kp k23
    have x3 : XQ p x l H H3 := (XQ.ofS s02).trans (.ofK k3)
    have k03 : KpT H H3 := (Same.tup s02).trans k23
    have hat : atI (refs (z0 :: gr)) v = some (.ref z.1) := by
      rw [show v = ((v.toNat : Nat) : Int) by omega]
      exact atI_nat (by rw [List.getElem?_map, hz]; rfl)
    obtain ⟨⟨dx3, hx3⟩, _⟩ := id sc3
    refine ⟨M1, _, v, .ref z.1, rfl, rfl, SqL.of eM3, hat, _, rfl, x, dx3, _, rfl, hx3, sfl_no _ _ (by decide +kernel) (by decide +kernel), x, b, l, fk, t, es, n, age, zs, rfl, sc3, by omega, hB3, fun y l2 H4 s4 ny nl2 scy => ?_⟩
    refine ⟨_, _, rfl, ?_⟩
    have sc4 := sc3.extN (.of s4)
    have hB4 := hB3.kp (Same.tup s4)
    have P4 : PenAt H4 p := ExtN.pen (.of s4) P3
    have T4 := T3.ext s4
    have x4 := x3.trans (XQ.ofS s4)
    have k04 := k03.trans (Same.tup s4)
    obtain ⟨⟨dx4, hx4⟩, hl4⟩ := id sc4
    have nyx : y ≠ x := fun e => by rw [e, hx3] at ny; cases ny
    have nyl : y ≠ l := fun e => by rw [e, sc3.ls] at ny; cases ny
    have nl2x : l2 ≠ x := fun e => by rw [e, hx3] at nl2; cases nl2
    have nl2l : l2 ≠ l := fun e => by rw [e, sc3.ls] at nl2; cases nl2
    have hEz4 := hB4.ent z hzz
    obtain ⟨xe, ex, g0, _⟩ := hEz4.tup
    refine ⟨_, rfl, x, dx4, _, rfl, hx4, sfl_no _ _ (by decide +kernel) (by decide +kernel), _, rfl, z.1, xe, 0, _, rfl, rfl, SqT.of ex, g0, x, b, l, fk, t, es, n, age, z.2.num, zs, rfl, sc4, by omega, hB4, hzn, hna, T4, fun b5 t5 zs5 H5 xs5 T5 sc5 hB5 pm5 so5 => ?_⟩
    have k45 := xs5.tup sc4
    have P5 := PenAt.xs P4 xs5 sc4 nlp
    have x5 := x4.trans (XQ.ofX xs5)
    have k05 := k04.trans k45
    have scy5 : ScAt C H5 y b l2 es := by
      obtain ⟨⟨d, h1⟩, h2⟩ := scy
      exact ⟨⟨d, xs5 _ _ nyx nyl h1 fun ps q => by cases q⟩, xs5 _ _ nl2x nl2l h2 fun ps q => by cases q⟩
    have hBy5 := hB4.kp k45
    obtain ⟨A, u, B, hAB, hun, hfl⟩ := filter_gone hB.ok.nd hzn
    have huz : u = z := num_pair hso u (by rw [hAB]; simp) z hzz hun
    subst huz
    have hlen5 : zs5.length + 1 = zs.length := by rw [pm5.length_eq, hfl, hAB, List.length_append, List.length_append, List.length_cons]; omega
    obtain ⟨⟨dx5, hx5⟩, _⟩ := id sc5
    obtain ⟨⟨dy5, hy5⟩, _⟩ := id scy5
    obtain ⟨ps, hd1, hd2⟩ := BookAt.dp (K := K) hB5 hBy5
    have el : (ens zs5).length = zs5.length := List.length_map _
    have el' : (ens zs).length = zs.length := List.length_map _
    refine ⟨_, rfl, _, rfl, x, dx5, _, .ref C, rfl, hx5, .base (.ins hy5 ic.cl ic.ha ic.hn ic.htk ic.hm), by simp [PySem.W.notFirst], x, b5, l, _, _, rfl, sc5, .inl ⟨y, b, l2, _, _, rfl, ⟨_, hy5⟩, hd1, hd2, shaped_bk ps age _ hB5.ok.ok, shaped_bk ps age _ hBy5.ok.ok, ?_⟩⟩
    rw [eqv_less (by rw [el, el']; omega)]
    refine ⟨_, rfl, _, rfl, ?_⟩
    refine iteF ?_
    refine ⟨_, rfl, x, dx5, _, rfl, hx5, x, b5, l, fk, t5, _, n, age, zs5, rfl, sc5, hB5, _, rfl, by omega, by omega, ?_⟩
    refine ⟨_, rfl, y, dy5, _, rfl, hy5, y, b, l2, fk, t, _, n, age, zs, rfl, scy5, hBy5, _, rfl, by omega, by omega, ?_⟩
    refine ⟨_, _, rfl, rfl, rfl, _, rfl, ?_⟩
    have hle : V.int (zs5.length : Int) = V.int ((zs.length : Int) - 1) := by rw [show ((zs.length : Int) - 1) = (zs5.length : Int) by omega]
    refine iteFB (by rw [decide_eq_true hle]; rfl) ?_
    -- written anew
    have hEz5 := hEz4.kp k45
    have pmw : (zs5 ++ [(u.1, u.2)]).Perm zs := by
      rw [hAB]
      refine (pm5.append_right _).trans ?_
      rw [hfl, List.append_assoc]
      exact List.Perm.append_left A (show (B ++ [u]).Perm (u :: B) from List.perm_append_singleton u B)
    have hM5 : BkOk n (ens zs5 ++ [u.2]) := by
      have h1 := hB.ok.perm (pmw.map Prod.snd)
      rw [List.map_append] at h1
      exact h1
    refine ⟨_, rfl, x, dx5, _, rfl, hx5, sfl_no _ _ (by decide +kernel) (by decide +kernel), _, rfl, x, b5, l, fk, t5, u.1, _, n, age, zs5, u.2, rfl, sc5, by rw [List.length_append]; show es.length + 1 ≤ 900; omega, hB5, hEz5, hM5, by omega, T5, fun b6 t6 zs6 H6 xs6 T6 sc6 hB6 pm6 so6 => ?_⟩
    have e6 : zs6 = zs := up_pair so6 hso (pm6.trans pmw)
    subst e6
    have k56 := xs6.tup sc5
    have k06 := k05.trans k56
    have scy6 : ScAt C H6 y b l2 es := by
      obtain ⟨⟨d, h1⟩, h2⟩ := scy5
      exact ⟨⟨d, xs6 _ _ nyx nyl h1 fun ps q => by cases q⟩, xs6 _ _ nl2x nl2l h2 fun ps q => by cases q⟩
    have hBy6 := hBy5.kp k56
    obtain ⟨⟨dx6, hx6⟩, _⟩ := id sc6
    obtain ⟨⟨dy6, hy6⟩, _⟩ := id scy6
    obtain ⟨ps6, hd3, hd4⟩ := BookAt.dp (K := K) hB6 hBy6
    refine ⟨_, rfl, _, rfl, x, dx6, _, .ref C, rfl, hx6, .base (.ins hy6 ic.cl ic.ha ic.hn ic.htk ic.hm), by simp [PySem.W.notFirst], x, b6, l, _, _, rfl, sc6, .inl ⟨y, b, l2, _, _, rfl, ⟨_, hy6⟩, hd3, hd4, shaped_bk ps6 age _ hB6.ok.ok, shaped_bk ps6 age _ hBy6.ok.ok, ?_⟩⟩
    rw [eqv_bk]
    refine ⟨_, rfl, _, rfl, ?_⟩
    rw [if_pos (show (true == true) = true from rfl)]
    refine ⟨_, rfl, x, dx6, _, rfl, hx6, sfl_no _ _ (by decide +kernel) (by decide +kernel), x, b6, l, _, rfl, sc6, _, rfl, _, _, hd3, hd4, shaped_bk ps6 age _ hB6.ok.ok, shaped_bk ps6 age _ hBy6.ok.ok, ?_⟩
    rw [eqv_bk]
    exact q b6 t6 _ H6 (x5.trans (.ofX xs6)) k06 (PenAt.xs P5 xs6 sc5 nlp) T6 sc6 (by rw [List.length_append, List.length_append]; show es.length + 1 + 1 ≤ es.length + 2; omega) hB6
end
end Deed

namespace Deed
open PySem PySem.Spec PyProof.Rows L2 LamX TL TX
theorem sqL_N {K : PySem.W.Frag} {H H' : Hp} {a : Addr} {xs : List V} (h : SqL K H a xs) (e : ExtN H H') : SqL K H' a xs :=
  h.elim (fun h => .inl (h.elim (fun h => .inl (e _ _ h fun ps z => by cases z)) fun ⟨o, h⟩ => .inr ⟨o, e _ _ h fun ps z => by cases z⟩)) .inr
theorem perOk_of {H : Hp} {fk : Addr} {n : Nat} {pz : List (Addr × Int × Option Int)} (hF : FolkAt H fk n) (hz : FolkZ H fk pz) : pz.length = n ∧ ∀ q ∈ pz.map (·.2), PerOk q := by
  obtain ⟨xs, ex, hl, hx⟩ := hF
  have h1 := hz.at_
  rw [ex] at h1
  injection h1 with h1
  injection h1 with h1
  refine ⟨by rw [← hl, h1, List.length_map], fun q hq => ?_⟩
  obtain ⟨z, hm, rfl⟩ := List.mem_map.mp hq
  obtain ⟨a, b, d, e1, e2, e3, e4, e5⟩ := hx (V.ref z.1) (by rw [h1]; exact List.mem_map_of_mem (f := fun z : Addr × Int × Option Int => V.ref z.1) hm)
  have h2 := (hz.per z hm).1
  injection e1 with e1
  rw [e1, e2] at h2
  injection h2 with h2
  injection h2 with h2
  injection h2 with h3 h4
  injection h3 with h3
  injection h4 with h4 _
  refine ⟨by omega, by omega, fun i hi => ?_⟩
  rw [hi] at h4
  rcases e5 with e5 | ⟨j, e5, e6, e7⟩
  · rw [e5] at h4
    cases h4
  · rw [e5] at h4
    injection h4 with h4
    omega
theorem dpZ_all {K : PySem.W.Frag} {H : Hp} : ∀ pz : List (Addr × Int × Option Int), (∀ z ∈ pz, PerZ H z) → DpAll K H (pz.map fun z => V.ref z.1) ((pz.map (·.2)).map perD)
  | [], _ => .nil
  | z :: r, h => .cons (perD_dp (h z List.mem_cons_self).1) (dpZ_all r fun y hy => h y (List.mem_cons_of_mem _ hy))
theorem BookAt.dpZ {K : PySem.W.Frag} {H : Hp} {b fk t : Addr} {n : Nat} {age : Int} {zs : List (Addr × En)} {pz : List (Addr × Int × Option Int)} (h : BookAt H b fk t n age zs) (hz : FolkZ H fk pz) : Dp K H (.ref b) (bkD (pz.map (·.2)) age (ens zs)) :=
  .tup (SqT.of h.at_) (.cons (.tup (SqT.of hz.at_) (dpZ_all pz hz.per)) (.cons (.int _) (.cons (.tup (SqT.of h.ents) (dp_ents zs h.ent)) .nil)))
theorem BookAt.shaped' {H : Hp} {b fk t : Addr} {n : Nat} {age : Int} {zs : List (Addr × En)} (h : BookAt H b fk t n age zs) (ps : List (Int × Option Int)) : SeqAt.shaped (bkD ps age (ens zs)) = true := shaped_bk ps age _ h.ok.ok
/-- a scribe and the entries of its book -/
def ScB (C : Addr) (H : Hp) (x l fk : Addr) (n : Nat) (age : Int) (us : List (Addr × En)) (N : Nat) : Prop := ∃ b t es, ScAt C H x b l es ∧ BookAt H b fk t n age us ∧ es.length ≤ N
section
variable {C : Addr} {H H' : Hp} {x l fk p y m : Addr} {n : Nat} {age : Int} {us : List (Addr × En)} {N : Nat}
theorem ScB.xp (h : ScB C H x l fk n age us N) (k : XP p H H') (P : PenAt H p) (nl : l ≠ p) : ScB C H' x l fk n age us N := by
  obtain ⟨b, t, es, ⟨⟨dx, h1⟩, h2⟩, hB, hl⟩ := h
  have kt := k.tup P
  obtain ⟨_, _, _, _, z1, _⟩ := P
  exact ⟨b, t, es, ⟨⟨dx, k _ _ (fun z => by rw [z, z1] at h1; cases h1) h1 fun ps z => by cases z⟩, k _ _ nl h2 fun ps z => by cases z⟩, hB.kp kt, hl⟩
theorem ScB.xq (h : ScB C H x l fk n age us N) (k : XQ p y m H H') (kt : KpT H H') (P : PenAt H p) (nl : l ≠ p) (n1 : x ≠ y) (n2 : x ≠ m) (n3 : l ≠ y) (n4 : l ≠ m) : ScB C H' x l fk n age us N := by
  obtain ⟨b, t, es, ⟨⟨dx, h1⟩, h2⟩, hB, hl⟩ := h
  obtain ⟨_, _, _, _, z1, _⟩ := P
  exact ⟨b, t, es, ⟨⟨dx, k _ _ (fun z => by rw [z, z1] at h1; cases h1) n1 n2 h1 fun ps z => by cases z⟩, k _ _ nl n3 n4 h2 fun ps z => by cases z⟩, hB.kp kt, hl⟩
theorem ScB.more {M : Nat} (h : ScB C H x l fk n age us N) (i : N ≤ M) : ScB C H x l fk n age us M := by
  obtain ⟨b, t, es, h1, h2, h3⟩ := h
  exact ⟨b, t, es, h1, h2, Nat.le_trans h3 i⟩
end
/-- two scribes with the same book -/
def RB (C : Addr) (a b : Addr) (H : Hp) : Prop := ∃ (l m fk : Addr) (n : Nat) (age : Int) (us : List (Addr × En)) (N : Nat), ScB C H a l fk n age us N ∧ ScB C H b m fk n age us N
theorem monRB (C : Addr) : ∀ a b H H', Ext H H' → RB C a b H → RB C a b H' := fun a b H H' e h => by
  have s : Same H H' := e
  obtain ⟨l, m, fk, n, age, us, N, ⟨b1, t1, es1, s1, h1, i1⟩, ⟨b2, t2, es2, s2, h2, i2⟩⟩ := h
  exact ⟨l, m, fk, n, age, us, N, ⟨b1, t1, es1, s1.extN (.of s), h1.kp (Same.tup s), i1⟩, ⟨b2, t2, es2, s2.extN (.of s), h2.kp (Same.tup s), i2⟩⟩
section
variable {P : Program} {w : World} {K : PySem.W.Frag} {mg : Str → Option Value} {base : Heap} {T : List (Addr × Str)} {C : Addr}
theorem eqRB {L : Nat} {f : Addr} {fd : FuncData} (h : FnOk P w K mg base CX0 L f fd nScE (spScE K C)) : FnOk P w K mg base CX0 L f fd nScE (spEq (RB C)) := h.imp fun vs H Q E z => by
  obtain ⟨a, b, rfl, ⟨l, m, fk, n, age, us, N, ⟨b1, t1, es1, s1, h1, i1⟩, ⟨b2, t2, es2, s2, h2, i2⟩⟩, q⟩ := z
  obtain ⟨ps, d1, d2⟩ := BookAt.dp (K := K) h1 h2
  refine ⟨a, b1, l, es1, .ref b, rfl, s1, .inl ⟨b, b2, m, _, _, rfl, s2.ob, d1, d2, shaped_bk ps age _ h1.ok.ok, shaped_bk ps age _ h2.ok.ok, ?_⟩⟩
  rw [eqv_bk]
  exact q H (same_refl H)
/-- x == y of two with the same book -/
theorem eqTwo {H : Hp} {x y : Addr} {Q : VK} {E : XK} (ic : C8.InsC K C) (h : RB C x y H) (q : Q (.bl true) H) : OwnE.rEqO K C (spScE K C) E true (.ref x) (.ref y) H Q := by
  obtain ⟨l, m, fk, n, age, us, N, ⟨b1, t1, es1, s1, h1, i1⟩, ⟨b2, t2, es2, s2, h2, i2⟩⟩ := h
  obtain ⟨ps, d1, d2⟩ := BookAt.dp (K := K) h1 h2
  obtain ⟨⟨dx, hx⟩, _⟩ := id s1
  obtain ⟨⟨dy, hy⟩, _⟩ := id s2
  refine ⟨x, dx, _, .ref C, rfl, hx, .base (.ins hy ic.cl ic.ha ic.hn ic.htk ic.hm), by simp [PySem.W.notFirst], x, b1, l, _, _, rfl, s1, .inl ⟨y, b2, m, _, _, rfl, ⟨_, hy⟩, d1, d2, shaped_bk ps age _ h1.ok.ok, shaped_bk ps age _ h2.ok.ok, ?_⟩⟩
  rw [eqv_bk]
  exact ⟨_, rfl, q⟩
theorem neTwo {H : Hp} {x y : Addr} {Q : VK} {E : XK} (ic : C8.InsC K C) (h : RB C x y H) (q : Q (.bl false) H) : OwnE.rEqO K C (spScE K C) E false (.ref x) (.ref y) H Q := by
  obtain ⟨l, m, fk, n, age, us, N, ⟨b1, t1, es1, s1, h1, i1⟩, ⟨b2, t2, es2, s2, h2, i2⟩⟩ := h
  obtain ⟨ps, d1, d2⟩ := BookAt.dp (K := K) h1 h2
  obtain ⟨⟨dx, hx⟩, _⟩ := id s1
  obtain ⟨⟨dy, hy⟩, _⟩ := id s2
  refine ⟨x, dx, _, .ref C, rfl, hx, .base (.ins hy ic.cl ic.ha ic.hn ic.htk ic.hm), by simp [PySem.W.notFirst], x, b1, l, _, _, rfl, s1, .inl ⟨y, b2, m, _, _, rfl, ⟨_, hy⟩, d1, d2, shaped_bk ps age _ h1.ok.ok, shaped_bk ps age _ h2.ok.ok, ?_⟩⟩
  rw [eqv_bk]
  exact ⟨_, rfl, q⟩
abbrev sLaw : Stmt := topS 98
abbrev nLaw : List Str := ["_law_script", "_law_pen_here", "_law_book_here", "_law_one", "_law_other", "_law_scribe", "_law_text", "_law_turn", "_law_day_here", "_law_known", "_law_deed_here", "_law_word"]
theorem scLaw : FnScope nLaw ["_law_script"] (defScope sLaw) := ⟨rfl, rfl, rfl, by decide +kernel, rfl, by decide +kernel, by decide +kernel⟩
def spLaw (K : PySem.W.Frag) (T : List (Addr × Str)) : Sp := fun vs H Q _ => ∃ (a : Addr) (ns : List Int), vs = [.ref a] ∧ SqL K H a (ns.map V.int) ∧ ns.length ≤ 63 ∧ Tabs T H ∧ ∀ H', Q (.bl true) H'
theorem ok_law {f : Addr} {fd : FuncData} {k j : Nat} (F : Fun K "law" "law" sLaw f fd) (S : ScT K mg C) (ic : C8.InsC K C) (hj : j + 4 ≤ k)
    (C_bk : CallM P w K mg base CX0 k C "book" nScB (spScB C)) (C_sg : CallM P w K mg base CX0 k C "standing" nScS (spScS C T)) (C_eq : CallS P w K mg base j C "__eq__" nScE (spScE K C)) (G : OwnE.EqF K C C_eq.f) (C_le : CallS P w K mg base j C "__len__" nScB (spScL C)) (C_re : CallS P w K mg base j C "__repr__" nScB (spScP C T)) (C_st : CallS P w K mg base j C "__str__" nScB (spScZ C T))
    (C__law_cell_at : CallOk P w K mg base k "_law_cell_at" ["_law_script", "_law_k"] (spCell K)) (C__law_pen : CallOk P w K mg base k "_law_pen" ["_law_cell"] spPen) (C__law_book : CallOk P w K mg base k "_law_book" ["_law_pen_here", "_law_most"] spBook) (C__law_written : CallOk P w K mg base k "_law_written" pLWritten (spLWritten C T)) (C_book_text : CallOk P w K mg base k "book_text" pBookTx (spBookTx T)) (C_book_read : CallOk P w K mg base k "book_read" pBookRd (spBookRd T)) (C__law_torn_right : CallOk P w K mg base k "_law_torn_right" pLTornR (spLTornR C T)) (C__law_day : CallOk P w K mg base k "_law_day" pDay spDay) (C_all_standing : CallOk P w K mg base k "all_standing" pAllSt (spAllSt T))
    (m_str : mg "str" = none) (m_len : mg "len" = none) (m_repr : mg "repr" = none) (m_range : mg "range" = none) : FnOk P w K mg base CX0 (k + 1) f fd ["_law_script"] (spLaw K T) := by
  refine F.ok scLaw (fun vs H Q E h => ?_) (fun cdv A outer s H vs Q E hr h => ?_)
  · obtain ⟨a, ns, rfl, _⟩ := h
    rfl
  · obtain ⟨a, ns, rfl, hS, h63, hT, q⟩ := h
    have nd := scLaw.nd
    have okR := eqRB C_eq.ok
    have monR := monRB C
    have hrj := hr.mono (show j + 4 ≤ k by omega)
    refine ⟨_, pss_cons (ps_set (i := 1) nd rfl (.inl rfl) (pe_call C__law_pen.ok hr (by rfl) C__law_pen.g C__law_pen.kp C__law_pen.b .nil pass0 (pa_cons (pe_call C__law_cell_at.ok hr (by rfl) C__law_cell_at.g C__law_cell_at.kp C__law_cell_at.b .nil pass0 (pa_cons (pv 0) (pa_cons pe_int pa_nil))) pa_nil)))
      (pss_cons (ps_set (i := 2) nd rfl (.inl rfl) (pe_call C__law_book.ok hr (by rfl) C__law_book.g C__law_book.kp C__law_book.b .nil pass0 (pa_cons (pv 1) (pa_cons pe_int pa_nil))))
      (pss_cons (ps_par (i := 3) (j := 4) (by rfl) nd rfl rfl (by decide) rfl rfl (pa_cons (pe_call C__law_written.ok hr (by rfl) C__law_written.g C__law_written.kp C__law_written.b .nil pass0 (pa_cons (pv 1) (pa_cons (pv 2) (pa_cons pe_bl pa_nil)))) (pa_cons (pe_call C__law_written.ok hr (by rfl) C__law_written.g C__law_written.kp C__law_written.b .nil pass0 (pa_cons (pv 1) (pa_cons (pv 2) (pa_cons pe_bl pa_nil)))) pa_nil)) (by rfl))
      (pss_cons (ps_if (PW.pt (pw_or (pt_cmpR op_isN (pv 3) pe_non (nomark _)) (pw_or (pt_cmpR op_isN (pv 4) pe_non (nomark _)) (pw_or (pt_not (pt_cmpR (OwnE.op_eqO (E := fun _ _ _ => False) C_eq.ok G C_eq.b pass0 (hrj.mono (by omega))) (pv 3) (pv 4) (nomark _))) (pw_or (pt_cmpR (OwnE.op_neO (E := fun _ _ _ => False) C_eq.ok G C_eq.b pass0 (hrj.mono (by omega))) (pv 3) (pv 4) (nomark _)) (pw_or1 (pt_cmpR (op_neD hr.units) (pe_meth0 (pv 3) S.cl C_bk.h C_bk.ok hr C_bk.b .nil pass0) (pe_meth0 (pv 4) S.cl C_bk.h C_bk.ok hr C_bk.b .nil pass0) (nomark _)))))))) (pss_one (ps_ret pe_bl)) pss_nil)
      (pss_cons (ps_for PassesOwn.never rfl (pi_tup (pe_tup (pa_cons (pv 3) (pa_cons (pv 4) pa_nil)))) (pg_name (i := 5) nd rfl (.inl rfl))
        (pss_cons (ps_set (i := 6) nd rfl (.inl rfl) (pe_callTy (OwnS.call_strO (E := fun _ _ _ => False) C_st.ok C_st.h C_st.b pass0 (hrj.mono (by omega))) (by rfl) m_str (by decide +kernel) (pa_cons (pv 5) pa_nil)))
      (pss_cons (ps_if (PW.pt (pw_or (pt_cmpR op_ne (pv 6) (pe_call C_book_text.ok hr (by rfl) C_book_text.g C_book_text.kp C_book_text.b .nil pass0 (pa_cons (pv 2) pa_nil)) (nomark _)) (pw_or (pt_cmpR (op_neD hr.units) (pe_call C_book_read.ok hr (by rfl) C_book_read.g C_book_read.kp C_book_read.b .nil pass0 (pa_cons (pv 6) pa_nil)) (pe_meth0 (pv 5) S.cl C_bk.h C_bk.ok hr C_bk.b .nil pass0) (nomark _)) (pw_or1 (pt_cmpR op_ne (pe_callB (OwnS.call_lenO (E := fun _ _ _ => False) C_le.ok C_le.h C_le.b pass0 (hrj.mono (by omega))) (by rfl) m_len (by decide +kernel) (pa_cons (pv 5) pa_nil)) (pe_callB call_len_seq (by rfl) m_len (by decide +kernel) (pa_cons (pe_ix ix_tup (pv 2) pe_int (fun _ _ => rfl)) pa_nil)) (nomark _)))))) (pss_one (ps_ret pe_bl)) pss_nil)
      (pss_one (ps_if (PW.pt (pw_or (pt_cmpR op_ne (pe_callB (OwnS.call_reprO (E := fun _ _ _ => False) C_re.ok C_re.h C_re.b pass0 (hrj.mono (by omega))) (by rfl) m_repr (by decide +kernel) (pa_cons (pv 5) pa_nil)) (pe_callB (OwnS.call_reprO (E := fun _ _ _ => False) C_re.ok C_re.h C_re.b pass0 (hrj.mono (by omega))) (by rfl) m_repr (by decide +kernel) (pa_cons (pv 3) pa_nil)) (nomark _)) (pw_or1 (pt_not (pt_val (pe_call C__law_torn_right.ok hr (by rfl) C__law_torn_right.g C__law_torn_right.kp C__law_torn_right.b .nil pass0 (pa_cons (pv 1) (pa_cons (pv 5) pa_nil)))))))) (pss_one (ps_ret pe_bl)) pss_nil)))))
      (pss_cons (ps_for PassesOwn.never rfl (pi_range1 rfl m_range (pa_cons pe_int pa_nil)) (pg_name (i := 7) nd rfl (.inl rfl))
        (pss_cons (ps_par (i := 8) (j := 9) (by rfl) nd rfl rfl (by decide) rfl rfl (pa_cons (pe_call C__law_day.ok hr (by rfl) C__law_day.g C__law_day.kp C__law_day.b .nil pass0 (pa_cons (pv 1) pa_nil)) (pa_cons (pe_call C__law_day.ok hr (by rfl) C__law_day.g C__law_day.kp C__law_day.b .nil pass0 (pa_cons (pv 1) pa_nil)) pa_nil)) (by rfl))
      (pss_one (ps_for PassesOwn.never rfl (pi_items (OwnS.pe_frz (pe_call C_all_standing.ok hr (by rfl) C_all_standing.g C_all_standing.kp C_all_standing.b .nil pass0 (pa_cons (pv 2) (pa_cons (pv 8) (pa_cons (pv 9) pa_nil)))))) (pg_tup (by rfl) (pgs_cons (pg_name (i := 10) nd rfl (.inl rfl)) (pgs_cons (pg_name (i := 11) nd rfl (.inl rfl)) pgs_nil)))
        (pss_one (ps_if (PW.pt (pw_or (pt_cmpR op_ne (pe_meth (pv 3) S.cl C_sg.h C_sg.ok hr C_sg.b .nil pass0 (pa_cons (pv 10) (pa_cons (pv 8) (pa_cons (pv 9) pa_nil)))) (pv 11) (nomark _)) (pw_or1 (pt_cmpR op_ne (pe_meth (pv 4) S.cl C_sg.h C_sg.ok hr C_sg.b .nil pass0 (pa_cons (pv 10) (pa_cons (pv 8) (pa_cons (pv 9) pa_nil)))) (pv 11) (nomark _))))) (pss_one (ps_ret pe_bl)) pss_nil))))))
      (pss_one (ps_ret (pe_and (pe_cmpR (OwnE.op_eqO (E := fun _ _ _ => False) C_eq.ok G C_eq.b pass0 (hrj.mono (by omega))) (pv 3) (pv 4) (nomark _)) (pe_one (pe_cmpR (op_eqG (rcG_list (mon_ins monR) (eqG_ins (E := fun _ _ _ => False) okR C_eq.h.hs C_eq.h.hf C_eq.b pass0)) (hrj.mono (by omega))) (pe_lst (pa_cons (pv 3) pa_nil)) (pe_lst (pa_cons (pv 4) pa_nil)) (nomark _))))))))))), ?_⟩
    refine ⟨_, rfl, a, ns, _, rfl, hS, by omega, fun cv => ?_⟩
    refine ⟨cv, rfl, fun p H1 s1 np P1 => ?_⟩
    refine ⟨_, rfl, p, 10, rfl, P1, by decide, by decide, fun b fk t n age zs H2 k2 P2 hB2 _ => ?_⟩
    have T2 := Tabs.kp (hT.ext s1) k2 P1
    refine ⟨_, rfl, _, rfl, p, b, fk, t, n, age, zs, false, rfl, P2, hB2, T2, fun x l b3 t3 es3 us H3 x3 P3 T3 nx nl sc3 hl3 hb3 pm3 so3 => ?_⟩
    have hB3 := hB2.kp (x3.tup P2)
    refine ⟨_, rfl, _, rfl, p, b, fk, t, n, age, zs, true, rfl, P3, hB3, T3, fun y m b4 t4 es4 us4 H4 x4 P4 T4 ny nm sc4 hl4 hb4 pm4 so4 => ?_⟩
    have hus : us4 = us := up_pair so4 so3 (pm4.trans pm3.symm)
    rw [hus] at hb4
    have hB4 := hB3.kp (x4.tup P3)
    have nlp : l ≠ p := P2.free nl
    have nmp : m ≠ p := P3.free nm
    have nyx : y ≠ x := fun e => by
      obtain ⟨⟨d, h⟩, _⟩ := sc3
      rw [e, h] at ny
      cases ny
    have nyl : y ≠ l := fun e => by rw [e, sc3.ls] at ny; cases ny
    have nmx : m ≠ x := fun e => by
      obtain ⟨⟨d, h⟩, _⟩ := sc3
      rw [e, h] at nm
      cases nm
    have nml : m ≠ l := fun e => by rw [e, sc3.ls] at nm; cases nm
    have scx4 : ScB C H4 x l fk n age us 48 := ScB.xp ⟨b3, t3, es3, sc3, hb3, hl3⟩ x4 P3 nlp
    have scy4 : ScB C H4 y m fk n age us 48 := ⟨b4, t4, es4, sc4, hb4, hl4⟩
    have hlu : us.length = zs.length := pm3.length_eq
    have hz16 := hB2.len
    clear hus so4 pm4 sc3 hb3 sc4 hb4
    refine ⟨_, _, rfl, ?_⟩
    refine ⟨_, rfl, rfl, _, rfl, ?_⟩
    refine iteFB rfl ?_
    refine ⟨_, rfl, rfl, _, rfl, ?_⟩
    refine iteFB rfl ?_
    have rb4 : RB C x y H4 := ⟨l, m, fk, n, age, us, 48, scx4, scy4⟩
    refine ⟨_, rfl, _, rfl, eqTwo ic rb4 ⟨_, rfl, ?_⟩⟩
    refine iteFB rfl ?_
    refine ⟨_, rfl, _, rfl, neTwo ic rb4 ⟨_, rfl, ?_⟩⟩
    refine iteFB rfl ?_
    obtain ⟨bx, tx, ex, scx, hbx, _⟩ := id scx4
    obtain ⟨by_, ty, ey, scy, hby, _⟩ := id scy4
    obtain ⟨⟨dx, hx⟩, _⟩ := id scx
    obtain ⟨⟨dy, hy⟩, _⟩ := id scy
    obtain ⟨ps, hd1, hd2⟩ := BookAt.dp (K := K) hbx hby
    refine ⟨_, rfl, x, dx, _, rfl, hx, sfl_no _ _ (by decide +kernel) (by decide +kernel), x, bx, l, ex, rfl, scx, _, rfl, y, dy, _, rfl, hy, sfl_no _ _ (by decide +kernel) (by decide +kernel), y, by_, m, ey, rfl, scy, _, _, hd1, hd2, shaped_bk ps age _ hbx.ok.ok, shaped_bk ps age _ hby.ok.ok, _, rfl, ?_⟩
    rw [eqv_bk]
    refine iteF ?_
    clear hd1 hd2 scx scy hbx hby hx hy
    -- the one and the other
    refine ⟨_, rfl, _, rfl, (by show 2 ≤ sizeLine; decide), fun t1 nt1 => ?_⟩
    have s5 := same_new nt1 (.tup [.ref x, .ref y])
    have e5 : (upd H4 t1 (.tup [.ref x, .ref y])) t1 = some (.tup [.ref x, .ref y]) := upd_same
    generalize upd H4 t1 (.tup [.ref x, .ref y]) = H5 at s5 e5
    have P5 : PenAt H5 p := ExtN.pen (.of s5) P4
    have T5 := T4.ext s5
    have hB5 := hB4.kp (Same.tup s5)
    refine ⟨_, rfl, ⟨_, SqT.of e5⟩, ?_⟩
    refine for_tup (xs := [.ref x, .ref y]) (fun i σ H' => ∃ z5 z6, σ = [some (.ref a), some (.ref p), some (.ref b), some (.ref x), some (.ref y), z5, z6, none, none, none, none, none] ∧ PenAt H' p ∧ Tabs T H' ∧ KpT H5 H' ∧ ScB C H' x l fk n age us (48 + 2 * i) ∧ ScB C H' y m fk n age us (48 + 2 * i)) ⟨_, _, rfl, P5, T5, KpT.refl _, scx4.xp (XP.ofS s5) P4 nlp, scy4.xp (XP.ofS s5) P4 nmp⟩ (fun i σ H' _ h => ?_) ?_ ?_
    · obtain ⟨_, _, _, _, _, k, _⟩ := h
      exact SqT.of (k _ _ e5)
    · rintro i v σ H6 hv ⟨z5, z6, rfl, P6, T6, k6, sx6, sy6⟩
      have hi2 : i < 2 := (List.getElem?_eq_some_iff.mp hv).1
      have hor : v = .ref x ∨ v = .ref y := by
        have := List.mem_of_getElem? hv
        simpa using this
      obtain ⟨v', lv, w', lw, hvv, hV, hW, nlv, nlw, n1, n2, n3, n4, back⟩ : ∃ v' lv w' lw, v = .ref v' ∧ ScB C H6 v' lv fk n age us (48 + 2 * i) ∧ ScB C H6 w' lw fk n age us (48 + 2 * i) ∧ lv ≠ p ∧ lw ≠ p ∧ w' ≠ v' ∧ w' ≠ lv ∧ lw ≠ v' ∧ lw ≠ lv ∧ ∀ H' N, ScB C H' v' lv fk n age us N → ScB C H' w' lw fk n age us N → ScB C H' x l fk n age us N ∧ ScB C H' y m fk n age us N := by
        rcases hor with h | h
        · exact ⟨x, l, y, m, h, sx6, sy6, nlp, nmp, nyx, nyl, nmx, nml, fun _ _ h1 h2 => ⟨h1, h2⟩⟩
        · exact ⟨y, m, x, l, h, sy6, sx6, nmp, nlp, nyx.symm, nmx.symm, nyl.symm, nml.symm, fun _ _ h1 h2 => ⟨h2, h1⟩⟩
      subst hvv
      obtain ⟨bv, tv, ev, scv, hBv, hlv⟩ := id hV
      obtain ⟨pz, hF6⟩ := hBv.folk.z hBv.n6
      obtain ⟨hpl, hpo⟩ := perOk_of hBv.folk hF6
      have hB6 := hB5.kp k6
      have hul := hBv.len
      have hps : (pz.map (·.2)).length = n := by rw [List.length_map]; exact hpl
      obtain ⟨tx, htx⟩ : ∃ tx, bookT (pz.map (·.2)) age (ens us) = tx := ⟨_, rfl⟩
      obtain ⟨⟨dv, hdv⟩, _⟩ := id scv
      -- its text
      refine ⟨_, rfl, v', dv, _, rfl, hdv, v', bv, lv, fk, tv, ev, n, age, us, pz, rfl, scv, hBv, hF6, T6, fun us7 H7 e7 T7 pm7 so7 => ?_⟩
      rw [up_pair so7 so3 pm7, htx]
      refine ⟨_, rfl, ?_⟩
      refine ⟨_, rfl, _, rfl, b, fk, t, n, age, zs, pz, rfl, hB6.kp (ExtN.tup e7), hF6.kp (ExtN.tup e7), T7, fun us8 H8 e8 T8 pm8 so8 => ?_⟩
      rw [up_pair so8 so3 (pm8.trans pm3.symm), htx]
      refine ⟨rfl, _, rfl, ?_⟩
      rw [decide_eq_true rfl]
      refine iteF ?_
      -- read
      refine ⟨_, rfl, pz.map (·.2), age, ens us, by rw [htx]; rfl, by rw [hps]; exact hBv.n2, by rw [hps]; exact hBv.n6, hpo, hBv.age0, hBv.age1, by rw [show (ens us).length = us.length from List.length_map _]; exact hul, by rw [hps]; exact hBv.ok, (List.pairwise_map (f := fun z : Addr × En => z.2) (R := fun u v : En => u.num < v.num)).mpr so3, T8, fun b9 fk9 t9 pz9 zs9 H9 e9 T9 hB9 hF9 hp9 hes9 => ?_⟩
      have e69 : ExtN H6 H9 := (e7.trans e8).trans e9
      have scv9 := scv.extN e69
      have hBv9 := hBv.kp (ExtN.tup e69)
      have hB69 := hB6.kp (ExtN.tup e69)
      obtain ⟨⟨dv9, hdv9⟩, _⟩ := id scv9
      have hd1 := BookAt.dpZ (K := K) hB9 hF9
      have hd2 := BookAt.dpZ (K := K) hBv9 (hF6.kp (ExtN.tup e69))
      rw [hp9, hes9] at hd1
      refine ⟨_, rfl, v', dv9, _, rfl, hdv9, sfl_no _ _ (by decide +kernel) (by decide +kernel), v', bv, lv, ev, rfl, scv9, _, _, hd1, hd2, shaped_bk _ age _ hBv9.ok.ok, shaped_bk _ age _ hBv9.ok.ok, _, rfl, ?_⟩
      rw [eqv_bk]
      refine iteF ?_
      -- how many
      refine ⟨_, rfl, v', dv9, _, rfl, hdv9, v', bv, lv, fk, tv, ev, n, age, us, rfl, scv9, hBv9, _, rfl, by omega, by omega, ?_⟩
      refine ⟨_, rfl, b, _, 2, _, rfl, rfl, SqT.of hB69.at_, (atI_nat (j := 2) rfl), t, _, rfl, .inr (SqT.of hB69.ents), rfl, _, rfl, ?_⟩
      rw [List.length_map, hlu, decide_eq_true rfl]
      refine iteF ?_
      -- repr
      have P9 := ExtN.pen e69 P6
      refine ⟨_, rfl, v', dv9, _, rfl, hdv9, v', bv, lv, fk, tv, ev, n, age, us, rfl, scv9, hBv9, T9, fun H10 e10 T10 => ⟨_, rfl, ?_⟩⟩
      have e610 := e69.trans e10
      obtain ⟨bx, tx1, ex1, scx1, hbx1, _⟩ := sx6.xp (XP.ofN e610) P6 nlp
      obtain ⟨⟨dx1, hdx1⟩, _⟩ := id scx1
      refine ⟨_, rfl, x, dx1, _, rfl, hdx1, x, bx, l, fk, tx1, ex1, n, age, us, rfl, scx1, hbx1, T10, fun H11 e11 T11 => ⟨_, rfl, rfl, _, rfl, ?_⟩⟩
      rw [decide_eq_true rfl]
      refine iteF ?_
      have e611 := e610.trans e11
      have P11 := ExtN.pen e611 P6
      have scv11 := scv.extN e611
      have hBv11 := hBv.kp (ExtN.tup e611)
      refine ⟨_, rfl, _, rfl, p, v', bv, lv, fk, tv, ev, n, age, us, rfl, P11, scv11, nlv, by omega, hBv11, so3, T11, fun b' t' es' H12 x12 k12 P12 T12 sc12 hl12 hB12 => ⟨_, rfl, ?_⟩⟩
      refine iteF ?_
      have hW12 := (hW.xp (XP.ofN e611) P6 nlw).xq x12 k12 P11 nlw n1 n2 n3 n4
      obtain ⟨f1, f2⟩ := back H12 (48 + 2 * (i + 1)) ⟨b', t', es', sc12, hB12, by omega⟩ (hW12.more (by omega))
      exact ⟨_, _, rfl, P12, T12, k6.trans ((ExtN.tup e611).trans k12), f1, f2⟩
    rintro σ H6 ⟨z5, z6, rfl, P6, T6, k6, sx6, sy6⟩
    -- what deeds are
    refine ⟨_, rfl, by omega, by omega, ?_⟩
    refine for_range (lo := 0) (n := 4) (fun i σ H' => ∃ z5 z6 z7 z8 z9 z10 z11, σ = [some (.ref a), some (.ref p), some (.ref b), some (.ref x), some (.ref y), z5, z6, z7, z8, z9, z10, z11] ∧ PenAt H' p ∧ Tabs T H' ∧ KpT H5 H' ∧ ScB C H' x l fk n age us 60 ∧ ScB C H' y m fk n age us 60) ⟨_, _, _, _, _, _, _, rfl, P6, T6, k6, sx6.more (by show 48 + 2 * 2 ≤ 60; decide), sy6.more (by show 48 + 2 * 2 ≤ 60; decide)⟩ ?_ ?_
    · rintro i0 σ H7 hi ⟨z5, z6, z7, z8, z9, z10, z11, rfl, P7, T7, k7, sx7, sy7⟩
      refine ⟨_, rfl, p, rfl, P7, fun d H8 k8 P8 d0 d1 => ⟨_, rfl, p, rfl, P8, fun kk H9 k9 P9 kk0 kk1 => ⟨_, _, rfl, ?_⟩⟩⟩
      have k79 : Kp p H7 H9 := k8.trans k9
      have T9 := Tabs.kp T7 k79 P7
      have sx9 := sx7.xp (XP.ofK k79) P7 nlp
      have sy9 := sy7.xp (XP.ofK k79) P7 nmp
      have k59 := k7.trans (k79.tup P7)
      have hB9 := hB5.kp k59
      refine ⟨_, rfl, _, rfl, _, rfl, b, fk, t, n, age, zs, d, kk, rfl, hB9, T9, ⟨d0, by omega⟩, ⟨kk0, by omega⟩, fun fo ys H10 e10 T10 nfo efo hDU => ?_⟩
      refine ⟨fo, _, rfl, efo, trivial, fun od => ⟨fo, od, _, rfl, upd_same, ?_⟩⟩
      obtain ⟨pq, hpq⟩ := P9.lst
      have nfp : p ≠ fo := nfo.ne hpq fun ps z => by cases z
      have x910 : XP p H9 (upd H10 fo (.frz od (.dK (wdE (ens zs) d kk (ens ys))))) := fun c u n1 e h => by
        rw [upd_ne (nfo.ne e h)]
        exact e10 _ _ e h
      have e11 : (upd H10 fo (.frz od (.dK (wdE (ens zs) d kk (ens ys))))) fo = some (.frz od (.dK (wdE (ens zs) d kk (ens ys)))) := upd_same
      have T11 : Tabs T (upd H10 fo (.frz od (.dK (wdE (ens zs) d kk (ens ys))))) := fun q0 hq0 => by
        obtain ⟨ps0, h1, h2, h3⟩ := T10 q0 hq0
        refine ⟨ps0, by rw [upd_ne fun z => by rw [z, efo] at h1; cases h1]; exact h1, h2, fun pos cv hcv => ?_⟩
        obtain ⟨c0, e1, e2⟩ := h3 pos cv hcv
        exact ⟨c0, e1, by rw [upd_ne fun z => by rw [z, efo] at e2; unfold CodeO at e2; cases e2]; exact e2⟩
      have P11 : PenAt (upd H10 fo (.frz od (.dK (wdE (ens zs) d kk (ens ys))))) p := (ExtN.pen e10 P9).put nfp.symm _
      generalize (upd H10 fo (.frz od (.dK (wdE (ens zs) d kk (ens ys))))) = H11 at x910 e11 T11 P11
      refine for_it walk_items (fun i σ H' => ∃ y5 y6, σ = [some (.ref a), some (.ref p), some (.ref b), some (.ref x), some (.ref y), z5, z6, some (.int (0 + (i0 : Int))), some (.int d), some (.int kk), y5, y6] ∧ ExtN H11 H' ∧ Tabs T H') ⟨_, _, rfl, ExtN.refl _, T11⟩ (fun i σ H' _ h => ?_) ?_ ?_
      · obtain ⟨_, _, _, e, _⟩ := h
        exact e _ _ e11 fun ps z => by cases z
      · rintro j v σ H12 H13 hj ⟨y5, y6, rfl, e12, T12⟩ ⟨T0, w1, w2, rfl, nT, rfl, g1, g2⟩
        obtain ⟨u, hu⟩ : ∃ u, (ens ys)[j]? = some u := ⟨_, List.getElem?_eq_getElem (by unfold wdE at hj; rw [List.length_map] at hj; exact hj)⟩
        have hkv : (wdE (ens zs) d kk (ens ys))[j]? = some (Sum.inl u.num, .str (st (ens zs) d kk u)) := by
          unfold wdE
          rw [List.getElem?_map, hu]
          rfl
        dsimp only at g1 g2
        rw [hkv] at g1 g2
        cases g1
        cases g2
        obtain ⟨hue, hud⟩ := (hDU.2.1 u).mp (List.mem_of_getElem? hu)
        have huu : u ∈ ens us := (ens_perm pm3 u).mpr hue
        have hst : st (ens us) d kk u = st (ens zs) d kk u := st_mem (fun e => ens_perm pm3 e) d kk u
        have s13 := same_new nT (.tup [kV (Sum.inl u.num), .str (st (ens zs) d kk u)])
        have e13 : (upd H12 T0 (.tup [kV (Sum.inl u.num), .str (st (ens zs) d kk u)])) T0 = some (.tup [.int u.num, .str (st (ens zs) d kk u)]) := upd_same
        generalize (upd H12 T0 (.tup [kV (Sum.inl u.num), .str (st (ens zs) d kk u)])) = H13 at s13 e13
        refine ⟨T0, _, rfl, SqT.of e13, rfl, _, _, rfl, _, _, rfl, rfl, ?_⟩
        have x913 : XP p H9 H13 := x910.trans ((XP.ofN e12).trans (XP.ofS s13))
        obtain ⟨bx, tx1, ex1, scx1, hbx1, _⟩ := sx9.xp x913 P9 nlp
        obtain ⟨⟨dx1, hdx1⟩, _⟩ := id scx1
        refine ⟨_, rfl, x, dx1, _, rfl, hdx1, sfl_no _ _ (by decide +kernel) (by decide +kernel), _, rfl, _, rfl, _, rfl, x, bx, l, fk, tx1, ex1, n, age, us, u, d, kk, rfl, scx1, hbx1, T12.ext s13, huu, hud, ⟨d0, by omega⟩, ⟨kk0, by omega⟩, fun H14 e14 T14 => ?_⟩
        rw [hst]
        refine ⟨_, rfl, rfl, _, rfl, ?_⟩
        rw [decide_eq_true rfl]
        refine iteF ?_
        obtain ⟨by1, ty1, ey1, scy1, hby1, _⟩ := sy9.xp (x913.trans (XP.ofN e14)) P9 nmp
        obtain ⟨⟨dy1, hdy1⟩, _⟩ := id scy1
        refine ⟨_, rfl, y, dy1, _, rfl, hdy1, sfl_no _ _ (by decide +kernel) (by decide +kernel), _, rfl, _, rfl, _, rfl, y, by1, m, fk, ty1, ey1, n, age, us, u, d, kk, rfl, scy1, hby1, T14, huu, hud, ⟨d0, by omega⟩, ⟨kk0, by omega⟩, fun H15 e15 T15 => ?_⟩
        rw [hst]
        refine ⟨_, rfl, rfl, _, rfl, ?_⟩
        rw [decide_eq_true rfl]
        exact iteF ⟨_, _, rfl, e12.trans ((ExtN.of s13).trans (e14.trans e15)), T15⟩
      rintro σ H12 ⟨y5, y6, rfl, e12, T12⟩
      have x912 : XP p H9 H12 := x910.trans (XP.ofN e12)
      exact ⟨_, _, _, _, _, _, _, rfl, ExtN.pen e12 P11, T12, k59.trans (x912.tup P9), sx9.xp x912 P9 nlp, sy9.xp x912 P9 nmp⟩
    rintro σ H7 ⟨z5, z6, z7, z8, z9, z10, z11, rfl, P7, T7, k7, sx7, sy7⟩
    have rb7 : RB C x y H7 := ⟨l, m, fk, n, age, us, 60, sx7, sy7⟩
    refine ⟨_, rfl, _, rfl, eqTwo ic rb7 ⟨_, rfl, ?_⟩⟩
    rw [if_pos (show true = true from rfl)]
    refine ⟨_, rfl, (by show 1 ≤ sizeLine; decide), fun l2 nl2 => ?_⟩
    have s8 := same_new nl2 (.lst [.ref x])
    have e8 : (upd H7 l2 (.lst [.ref x])) l2 = some (.lst [.ref x]) := upd_same
    generalize upd H7 l2 (.lst [.ref x]) = H8 at s8 e8
    refine ⟨_, rfl, (by show 1 ≤ sizeLine; decide), fun l3 nl3 => ?_⟩
    have s9 := same_new nl3 (.lst [.ref y])
    have e9 : (upd H8 l3 (.lst [.ref y])) l3 = some (.lst [.ref y]) := upd_same
    generalize upd H8 l3 (.lst [.ref y]) = H9 at s9 e9
    have s79 := s8.trans s9
    have sx9 := sx7.xp (XP.ofS s79) P7 nlp
    have sy9 := sy7.xp (XP.ofS s79) P7 nmp
    refine ⟨⟨l2, l3, _, _, rfl, rfl, s9 _ _ e8, e9, rfl, fun i u v h1 h2 => ?_⟩, fun H' _ => q H'⟩
    have hu : u = .ref x := by
      have := List.mem_of_getElem? h1
      simpa using this
    have hv : v = .ref y := by
      have := List.mem_of_getElem? h2
      simpa using this
    subst hu hv
    obtain ⟨⟨bx, tx, ex, ⟨⟨dx, hx⟩, hxl⟩, hbx⟩, ⟨by1, ty, ey, ⟨⟨dy, hy⟩, hyl⟩, hby⟩⟩ := And.intro (id sx9) (id sy9)
    exact ⟨x, y, dx, dy, _, _, rfl, rfl, hx, hy, l, m, fk, n, age, us, 60, sx9, sy9⟩
end
end Deed

namespace Deed
open PySem PySem.Spec PyProof.Rows L2 LamX
theorem funOf {K : PySem.W.Frag} {x : Str} {st : Stmt} {f : Addr} {fd : FuncData} (F : FunD K x x (defArgs st) (defBody st) (defScope st) [] [] f fd) : Fun K x x st f fd := by
  obtain ⟨oc, od, dV, kV, doc, pm, an, cdv, ct, osl, e, lk, hcd, hD, hK⟩ := F.ex
  rcases hD with ⟨_, hD⟩ | ⟨hD, _⟩
  · subst hD
    exact ⟨⟨oc, od, kV, doc, pm, an, cdv, ct, osl, e, lk, hcd⟩, F.kp⟩
  · exact absurd rfl hD
theorem funOfM {K : PySem.W.Frag} {x q : Str} {st : Stmt} {f : Addr} {fd : FuncData} (F : FunD K x q (defArgs st) (defBody st) (defScope st) [] [] f fd) : Fun K x q st f fd := by
  obtain ⟨oc, od, dV, kV, doc, pm, an, cdv, ct, osl, e, lk, hcd, hD, hK⟩ := F.ex
  rcases hD with ⟨_, hD⟩ | ⟨hD, _⟩
  · subst hD
    exact ⟨⟨oc, od, kV, doc, pm, an, cdv, ct, osl, e, lk, hcd⟩, F.kp⟩
  · exact absurd rfl hD
theorem codeAt {K : PySem.W.Frag} {x : Str} {st : Stmt} {p : He.Defn} {fd : FuncData} (F : Fun K x x st (He.fAd K p) fd) : fd.code = .ref (He.cT K p).1 := by
  obtain ⟨oc, od, kV, doc, pm, an, cdv, ct, osl, e, lk, hcd⟩ := F.ex
  obtain ⟨c, ec⟩ := He.codeIn_ref hcd
  have e2 : fd.code = .ref c := by rw [e, ← ec]
  rw [show (He.cT K p).1 = c from He.codeOf_eq lk e2]
  exact e2
abbrev l : PySem.W.OpenLaw := PySem.Challenge.rw_deedsheaf_k74_whole_a_scribe_and_their_b
theorem facts {w : World} {K : PySem.W.Frag} {h : Heap} {mg : Str → Option Value} {f : Addr} (X : K.In h) (G : h.Ns mainGlobals mg) (hfa : mg ("law" : Str) = some (.ref f)) (c : He.SaysX faAll fnAll tsAll tfAll exAll w h K) (cs : two K = twV) : LawAtS l w K CX0 43 63 "_law_script" mg f h := by
  obtain ⟨d0, F0'⟩ := c.t.d.def_ 0 (d := mkD "_law_cell_at" sCell) rfl
  have g0 := He.glo_ok X G (c.t.d.fact 0 (f := .glo "_law_cell_at") rfl)
  have F0 : Fun K "_law_cell_at" "_law_cell_at" sCell (He.fAd K ("_law_cell_at", none)) d0 := funOf F0'
  have D0 : Df K mg "_law_cell_at" sCell ["_law_script", "_law_k"] _ d0 := ⟨F0, F0.binds (ps := ["_law_script", "_law_k"]) (fun _ _ _ _ _ _ us hl => match us, hl with | [_, _], _ => rfl), g0⟩
  obtain ⟨d1, F1'⟩ := c.t.d.def_ 1 (d := mkD "_law_pen" sPen) rfl
  have g1 := He.glo_ok X G (c.t.d.fact 1 (f := .glo "_law_pen") rfl)
  have F1 : Fun K "_law_pen" "_law_pen" sPen (He.fAd K ("_law_pen", none)) d1 := funOf F1'
  have D1 : Df K mg "_law_pen" sPen ["_law_cell"] _ d1 := ⟨F1, F1.binds (ps := ["_law_cell"]) (fun _ _ _ _ _ _ us hl => match us, hl with | [_], _ => rfl), g1⟩
  obtain ⟨d2, F2'⟩ := c.t.d.def_ 2 (d := mkD "_law_draw" sDraw) rfl
  have g2 := He.glo_ok X G (c.t.d.fact 2 (f := .glo "_law_draw") rfl)
  have F2 : Fun K "_law_draw" "_law_draw" sDraw (He.fAd K ("_law_draw", none)) d2 := funOf F2'
  have D2 : Df K mg "_law_draw" sDraw ["_law_pen_here", "_law_bound"] _ d2 := ⟨F2, F2.binds (ps := ["_law_pen_here", "_law_bound"]) (fun _ _ _ _ _ _ us hl => match us, hl with | [_, _], _ => rfl), g2⟩
  obtain ⟨d3, F3'⟩ := c.t.d.def_ 3 (d := mkD "_law_day" sDay) rfl
  have g3 := He.glo_ok X G (c.t.d.fact 3 (f := .glo "_law_day") rfl)
  have F3 : Fun K "_law_day" "_law_day" sDay (He.fAd K ("_law_day", none)) d3 := funOf F3'
  have D3 : Df K mg "_law_day" sDay ["_law_pen_here"] _ d3 := ⟨F3, F3.binds (ps := ["_law_pen_here"]) (fun _ _ _ _ _ _ us hl => match us, hl with | [_], _ => rfl), g3⟩
  obtain ⟨d4, F4'⟩ := c.t.d.def_ 4 (d := mkD "_law_folk" sFolk) rfl
  have g4 := He.glo_ok X G (c.t.d.fact 4 (f := .glo "_law_folk") rfl)
  have F4 : Fun K "_law_folk" "_law_folk" sFolk (He.fAd K ("_law_folk", none)) d4 := funOf F4'
  have D4 : Df K mg "_law_folk" sFolk ["_law_pen_here", "_law_least"] _ d4 := ⟨F4, F4.binds (ps := ["_law_pen_here", "_law_least"]) (fun _ _ _ _ _ _ us hl => match us, hl with | [_, _], _ => rfl), g4⟩
  obtain ⟨d5, F5'⟩ := c.t.d.def_ 5 (d := mkD "_law_mixed" sMixed) rfl
  have g5 := He.glo_ok X G (c.t.d.fact 5 (f := .glo "_law_mixed") rfl)
  have F5 : Fun K "_law_mixed" "_law_mixed" sMixed (He.fAd K ("_law_mixed", none)) d5 := funOf F5'
  have D5 : Df K mg "_law_mixed" sMixed ["_law_pen_here", "_law_some"] _ d5 := ⟨F5, F5.binds (ps := ["_law_pen_here", "_law_some"]) (fun _ _ _ _ _ _ us hl => match us, hl with | [_, _], _ => rfl), g5⟩
  obtain ⟨d6, F6'⟩ := c.t.d.def_ 6 (d := mkD "_law_few" sFew) rfl
  have g6 := He.glo_ok X G (c.t.d.fact 6 (f := .glo "_law_few") rfl)
  have F6 : Fun K "_law_few" "_law_few" sFew (He.fAd K ("_law_few", none)) d6 := funOf F6'
  have D6 : Df K mg "_law_few" sFew ["_law_pen_here", "_law_some", "_law_most"] _ d6 := ⟨F6, F6.binds (ps := ["_law_pen_here", "_law_some", "_law_most"]) (fun _ _ _ _ _ _ us hl => match us, hl with | [_, _, _], _ => rfl), g6⟩
  obtain ⟨d7, F7'⟩ := c.t.d.def_ 7 (d := mkD "_law_deed" sDeed) rfl
  have g7 := He.glo_ok X G (c.t.d.fact 7 (f := .glo "_law_deed") rfl)
  have F7 : Fun K "_law_deed" "_law_deed" sDeed (He.fAd K ("_law_deed", none)) d7 := funOf F7'
  have D7 : Df K mg "_law_deed" sDeed ["_law_pen_here", "_law_number", "_law_folk_here", "_law_deeds"] _ d7 := ⟨F7, F7.binds (ps := ["_law_pen_here", "_law_number", "_law_folk_here", "_law_deeds"]) (fun _ _ _ _ _ _ us hl => match us, hl with | [_, _, _, _], _ => rfl), g7⟩
  obtain ⟨d8, F8'⟩ := c.t.d.def_ 8 (d := mkD "_law_act" sAct) rfl
  have g8 := He.glo_ok X G (c.t.d.fact 8 (f := .glo "_law_act") rfl)
  have F8 : Fun K "_law_act" "_law_act" sAct (He.fAd K ("_law_act", none)) d8 := funOf F8'
  have D8 : Df K mg "_law_act" sAct ["_law_pen_here", "_law_number", "_law_deeds", "_law_acts"] _ d8 := ⟨F8, F8.binds (ps := ["_law_pen_here", "_law_number", "_law_deeds", "_law_acts"]) (fun _ _ _ _ _ _ us hl => match us, hl with | [_, _, _, _], _ => rfl), g8⟩
  obtain ⟨d9, F9'⟩ := c.t.d.def_ 9 (d := mkD "_law_book" sBook) rfl
  have g9 := He.glo_ok X G (c.t.d.fact 9 (f := .glo "_law_book") rfl)
  have F9 : Fun K "_law_book" "_law_book" sBook (He.fAd K ("_law_book", none)) d9 := funOf F9'
  have D9 : Df K mg "_law_book" sBook ["_law_pen_here", "_law_most"] _ d9 := ⟨F9, F9.binds (ps := ["_law_pen_here", "_law_most"]) (fun _ _ _ _ _ _ us hl => match us, hl with | [_, _], _ => rfl), g9⟩
  obtain ⟨d10, F10'⟩ := c.t.d.def_ 10 (d := mkD "is_whole" sWhole) rfl
  have g10 := He.glo_ok X G (c.t.d.fact 10 (f := .glo "is_whole") rfl)
  have F10 : Fun K "is_whole" "is_whole" sWhole (He.fAd K ("is_whole", none)) d10 := funOf F10'
  have D10 : Df K mg "is_whole" sWhole ["thing"] _ d10 := ⟨F10, F10.binds (ps := ["thing"]) (fun _ _ _ _ _ _ us hl => match us, hl with | [_], _ => rfl), g10⟩
  obtain ⟨d11, F11'⟩ := c.t.d.def_ 11 (d := mkD "is_within" sWithin) rfl
  have g11 := He.glo_ok X G (c.t.d.fact 11 (f := .glo "is_within") rfl)
  have F11 : Fun K "is_within" "is_within" sWithin (He.fAd K ("is_within", none)) d11 := funOf F11'
  have D11 : Df K mg "is_within" sWithin ["thing", "low", "high"] _ d11 := ⟨F11, F11.binds (ps := ["thing", "low", "high"]) (fun _ _ _ _ _ _ us hl => match us, hl with | [_, _, _], _ => rfl), g11⟩
  obtain ⟨d12, F12'⟩ := c.t.d.def_ 12 (d := mkD "is_day" sIsDay) rfl
  have g12 := He.glo_ok X G (c.t.d.fact 12 (f := .glo "is_day") rfl)
  have F12 : Fun K "is_day" "is_day" sIsDay (He.fAd K ("is_day", none)) d12 := funOf F12'
  have D12 : Df K mg "is_day" sIsDay ["thing"] _ d12 := ⟨F12, F12.binds (ps := ["thing"]) (fun _ _ _ _ _ _ us hl => match us, hl with | [_], _ => rfl), g12⟩
  obtain ⟨d13, F13'⟩ := c.t.d.def_ 13 (d := mkD "is_age" sIsAgeG) rfl
  have g13 := He.glo_ok X G (c.t.d.fact 13 (f := .glo "is_age") rfl)
  have F13 : Fun K "is_age" "is_age" sIsAgeG (He.fAd K ("is_age", none)) d13 := funOf F13'
  have D13 : Df K mg "is_age" sIsAgeG ["thing"] _ d13 := ⟨F13, F13.binds (ps := ["thing"]) (fun _ _ _ _ _ _ us hl => match us, hl with | [_], _ => rfl), g13⟩
  obtain ⟨d14, F14'⟩ := c.t.d.def_ 14 (d := mkD "is_person" sIsPerson) rfl
  have g14 := He.glo_ok X G (c.t.d.fact 14 (f := .glo "is_person") rfl)
  have F14 : Fun K "is_person" "is_person" sIsPerson (He.fAd K ("is_person", none)) d14 := funOf F14'
  have D14 : Df K mg "is_person" sIsPerson ["thing"] _ d14 := ⟨F14, F14.binds (ps := ["thing"]) (fun _ _ _ _ _ _ us hl => match us, hl with | [_], _ => rfl), g14⟩
  obtain ⟨d15, F15'⟩ := c.t.d.def_ 15 (d := mkD "is_folk" sIsFolkG) rfl
  have g15 := He.glo_ok X G (c.t.d.fact 15 (f := .glo "is_folk") rfl)
  have F15 : Fun K "is_folk" "is_folk" sIsFolkG (He.fAd K ("is_folk", none)) d15 := funOf F15'
  have D15 : Df K mg "is_folk" sIsFolkG ["thing"] _ d15 := ⟨F15, F15.binds (ps := ["thing"]) (fun _ _ _ _ _ _ us hl => match us, hl with | [_], _ => rfl), g15⟩
  obtain ⟨d16, F16'⟩ := c.t.d.def_ 16 (d := mkD "is_rising" sIsRisG) rfl
  have g16 := He.glo_ok X G (c.t.d.fact 16 (f := .glo "is_rising") rfl)
  have F16 : Fun K "is_rising" "is_rising" sIsRisG (He.fAd K ("is_rising", none)) d16 := funOf F16'
  have D16 : Df K mg "is_rising" sIsRisG ["things"] _ d16 := ⟨F16, F16.binds (ps := ["things"]) (fun _ _ _ _ _ _ us hl => match us, hl with | [_], _ => rfl), g16⟩
  obtain ⟨d17, F17'⟩ := c.t.d.def_ 17 (d := mkD "is_rising_below" sIsRisB) rfl
  have g17 := He.glo_ok X G (c.t.d.fact 17 (f := .glo "is_rising_below") rfl)
  have F17 : Fun K "is_rising_below" "is_rising_below" sIsRisB (He.fAd K ("is_rising_below", none)) d17 := funOf F17'
  have D17 : Df K mg "is_rising_below" sIsRisB ["thing", "most", "limit"] _ d17 := ⟨F17, F17.binds (ps := ["thing", "most", "limit"]) (fun _ _ _ _ _ _ us hl => match us, hl with | [_, _, _], _ => rfl), g17⟩
  obtain ⟨d18, F18'⟩ := c.t.d.def_ 18 (d := mkD "is_deed_tail" sIsDeedT) rfl
  have g18 := He.glo_ok X G (c.t.d.fact 18 (f := .glo "is_deed_tail") rfl)
  have F18 : Fun K "is_deed_tail" "is_deed_tail" sIsDeedT (He.fAd K ("is_deed_tail", none)) d18 := funOf F18'
  have D18 : Df K mg "is_deed_tail" sIsDeedT ["folk", "number", "tail"] _ d18 := ⟨F18, F18.binds (ps := ["folk", "number", "tail"]) (fun _ _ _ _ _ _ us hl => match us, hl with | [_, _, _], _ => rfl), g18⟩
  obtain ⟨d19, F19'⟩ := c.t.d.def_ 19 (d := mkD "is_act_tail" sIsActT) rfl
  have g19 := He.glo_ok X G (c.t.d.fact 19 (f := .glo "is_act_tail") rfl)
  have F19 : Fun K "is_act_tail" "is_act_tail" sIsActT (He.fAd K ("is_act_tail", none)) d19 := funOf F19'
  have D19 : Df K mg "is_act_tail" sIsActT ["number", "tail"] _ d19 := ⟨F19, F19.binds (ps := ["number", "tail"]) (fun _ _ _ _ _ _ us hl => match us, hl with | [_, _], _ => rfl), g19⟩
  obtain ⟨d20, F20'⟩ := c.t.d.def_ 20 (d := mkD "is_entry" sIsEntG) rfl
  have g20 := He.glo_ok X G (c.t.d.fact 20 (f := .glo "is_entry") rfl)
  have F20 : Fun K "is_entry" "is_entry" sIsEntG (He.fAd K ("is_entry", none)) d20 := funOf F20'
  have D20 : Df K mg "is_entry" sIsEntG ["folk", "thing"] _ d20 := ⟨F20, F20.binds (ps := ["folk", "thing"]) (fun _ _ _ _ _ _ us hl => match us, hl with | [_, _], _ => rfl), g20⟩
  obtain ⟨d21, F21'⟩ := c.t.d.def_ 21 (d := mkD "names_fit" sNFit) rfl
  have g21 := He.glo_ok X G (c.t.d.fact 21 (f := .glo "names_fit") rfl)
  have F21 : Fun K "names_fit" "names_fit" sNFit (He.fAd K ("names_fit", none)) d21 := funOf F21'
  have D21 : Df K mg "names_fit" sNFit ["words", "entry"] _ d21 := ⟨F21, F21.binds (ps := ["words", "entry"]) (fun _ _ _ _ _ _ us hl => match us, hl with | [_, _], _ => rfl), g21⟩
  obtain ⟨d22, F22'⟩ := c.t.d.def_ 22 (d := mkD "is_book" sIsBk) rfl
  have g22 := He.glo_ok X G (c.t.d.fact 22 (f := .glo "is_book") rfl)
  have F22 : Fun K "is_book" "is_book" sIsBk (He.fAd K ("is_book", none)) d22 := funOf F22'
  have D22 : Df K mg "is_book" sIsBk ["thing"] _ d22 := ⟨F22, F22.binds (ps := ["thing"]) (fun _ _ _ _ _ _ us hl => match us, hl with | [_], _ => rfl), g22⟩
  obtain ⟨d23, F23'⟩ := c.t.d.def_ 23 (d := mkD "entries_rising" sRising) rfl
  have g23 := He.glo_ok X G (c.t.d.fact 23 (f := .glo "entries_rising") rfl)
  have F23 : Fun K "entries_rising" "entries_rising" sRising (He.fAd K ("entries_rising", none)) d23 := funOf F23'
  have D23 : Df K mg "entries_rising" sRising ["book"] _ d23 := ⟨F23, F23.binds (ps := ["book"]) (fun _ _ _ _ _ _ us hl => match us, hl with | [_], _ => rfl), g23⟩
  obtain ⟨d24, F24'⟩ := c.t.d.def_ 24 (d := mkD "deed_entries" sDeedE) rfl
  have g24 := He.glo_ok X G (c.t.d.fact 24 (f := .glo "deed_entries") rfl)
  have F24 : Fun K "deed_entries" "deed_entries" sDeedE (He.fAd K ("deed_entries", none)) d24 := funOf F24'
  have D24 : Df K mg "deed_entries" sDeedE ["book"] _ d24 := ⟨F24, F24.binds (ps := ["book"]) (fun _ _ _ _ _ _ us hl => match us, hl with | [_], _ => rfl), g24⟩
  obtain ⟨d25, F25'⟩ := c.t.d.def_ 25 (d := mkD "act_entries" sActE) rfl
  have g25 := He.glo_ok X G (c.t.d.fact 25 (f := .glo "act_entries") rfl)
  have F25 : Fun K "act_entries" "act_entries" sActE (He.fAd K ("act_entries", none)) d25 := funOf F25'
  have D25 : Df K mg "act_entries" sActE ["book"] _ d25 := ⟨F25, F25.binds (ps := ["book"]) (fun _ _ _ _ _ _ us hl => match us, hl with | [_], _ => rfl), g25⟩
  obtain ⟨d26, F26'⟩ := c.t.d.def_ 26 (d := mkD "deeds_of" sDeedsOf) rfl
  have g26 := He.glo_ok X G (c.t.d.fact 26 (f := .glo "deeds_of") rfl)
  have F26 : Fun K "deeds_of" "deeds_of" sDeedsOf (He.fAd K ("deeds_of", none)) d26 := funOf F26'
  have D26 : Df K mg "deeds_of" sDeedsOf ["book"] _ d26 := ⟨F26, F26.binds (ps := ["book"]) (fun _ _ _ _ _ _ us hl => match us, hl with | [_], _ => rfl), g26⟩
  obtain ⟨d27, F27'⟩ := c.t.d.def_ 27 (d := mkD "acts_of" sActsOf) rfl
  have g27 := He.glo_ok X G (c.t.d.fact 27 (f := .glo "acts_of") rfl)
  have F27 : Fun K "acts_of" "acts_of" sActsOf (He.fAd K ("acts_of", none)) d27 := funOf F27'
  have D27 : Df K mg "acts_of" sActsOf ["book"] _ d27 := ⟨F27, F27.binds (ps := ["book"]) (fun _ _ _ _ _ _ us hl => match us, hl with | [_], _ => rfl), g27⟩
  obtain ⟨d28, F28'⟩ := c.t.d.def_ 28 (d := mkD "check_day" sCheckDay) rfl
  have g28 := He.glo_ok X G (c.t.d.fact 28 (f := .glo "check_day") rfl)
  have F28 : Fun K "check_day" "check_day" sCheckDay (He.fAd K ("check_day", none)) d28 := funOf F28'
  have D28 : Df K mg "check_day" sCheckDay ["thing"] _ d28 := ⟨F28, F28.binds (ps := ["thing"]) (fun _ _ _ _ _ _ us hl => match us, hl with | [_], _ => rfl), g28⟩
  obtain ⟨d29, F29'⟩ := c.t.d.def_ 29 (d := mkD "check_deed" sCheckDeed) rfl
  have g29 := He.glo_ok X G (c.t.d.fact 29 (f := .glo "check_deed") rfl)
  have F29 : Fun K "check_deed" "check_deed" sCheckDeed (He.fAd K ("check_deed", none)) d29 := funOf F29'
  have D29 : Df K mg "check_deed" sCheckDeed ["book", "thing"] _ d29 := ⟨F29, F29.binds (ps := ["book", "thing"]) (fun _ _ _ _ _ _ us hl => match us, hl with | [_, _], _ => rfl), g29⟩
  obtain ⟨d30, F30'⟩ := c.t.d.def_ 30 (d := mkD "open_acts" sOpenA) rfl
  have g30 := He.glo_ok X G (c.t.d.fact 30 (f := .glo "open_acts") rfl)
  have F30 : Fun K "open_acts" "open_acts" sOpenA (He.fAd K ("open_acts", none)) d30 := funOf F30'
  have D30 : Df K mg "open_acts" sOpenA ["book", "d", "k"] _ d30 := ⟨F30, F30.binds (ps := ["book", "d", "k"]) (fun _ _ _ _ _ _ us hl => match us, hl with | [_, _, _], _ => rfl), g30⟩
  obtain ⟨d31, F31'⟩ := c.t.d.def_ 31 (d := mkD "acts_on" sActsOn) rfl
  have g31 := He.glo_ok X G (c.t.d.fact 31 (f := .glo "acts_on") rfl)
  have F31 : Fun K "acts_on" "acts_on" sActsOn (He.fAd K ("acts_on", none)) d31 := funOf F31'
  have D31 : Df K mg "acts_on" sActsOn ["acts", "word", "number"] _ d31 := ⟨F31, F31.binds (ps := ["acts", "word", "number"]) (fun _ _ _ _ _ _ us hl => match us, hl with | [_, _, _], _ => rfl), g31⟩
  obtain ⟨d32, F32'⟩ := c.t.d.def_ 32 (d := mkD "acts_in_force" sForced) rfl
  have g32 := He.glo_ok X G (c.t.d.fact 32 (f := .glo "acts_in_force") rfl)
  have F32 : Fun K "acts_in_force" "acts_in_force" sForced (He.fAd K ("acts_in_force", none)) d32 := funOf F32'
  have D32 : Df K mg "acts_in_force" sForced ["acts"] _ d32 := ⟨F32, F32.binds (ps := ["acts"]) (fun _ _ _ _ _ _ us hl => match us, hl with | [_], _ => rfl), g32⟩
  obtain ⟨d33, F33'⟩ := c.t.d.def_ 33 (d := mkD "word_of_deed" sWordOf) rfl
  have g33 := He.glo_ok X G (c.t.d.fact 33 (f := .glo "word_of_deed") rfl)
  have F33 : Fun K "word_of_deed" "word_of_deed" sWordOf (He.fAd K ("word_of_deed", none)) d33 := funOf F33'
  have D33 : Df K mg "word_of_deed" sWordOf ["deed", "forced", "words", "d", "k"] _ d33 := ⟨F33, F33.binds (ps := ["deed", "forced", "words", "d", "k"]) (fun _ _ _ _ _ _ us hl => match us, hl with | [_, _, _, _, _], _ => rfl), g33⟩
  obtain ⟨d34, F34'⟩ := c.t.d.def_ 34 (d := mkDd "all_standing" sAllSt [.int 9999]) rfl
  have g34 := He.glo_ok X G (c.t.d.fact 34 (f := .glo "all_standing") rfl)
  have F34 : FunD K "all_standing" "all_standing" (defArgs sAllSt) (defBody sAllSt) (defScope sAllSt) [V.int 9999] [] (He.fAd K ("all_standing", none)) d34 := F34'
  obtain ⟨ds34, hv34, b34⟩ := FunD.binds1 (ps := ["book", "d", "k"]) F34 3 1 (by decide) rfl (fun T kV doc pm an cdv ct us its h1 h2 => match us, its, h1, h2 with | [_, _, _], [_], _, _ => ⟨_, rfl, rfl⟩)
  cases hv34
  obtain ⟨d35, F35'⟩ := c.t.d.def_ 35 (d := mkDd "standing_of" sStOf [.int 9999]) rfl
  have g35 := He.glo_ok X G (c.t.d.fact 35 (f := .glo "standing_of") rfl)
  have F35 : FunD K "standing_of" "standing_of" (defArgs sStOf) (defBody sStOf) (defScope sStOf) [V.int 9999] [] (He.fAd K ("standing_of", none)) d35 := F35'
  obtain ⟨ds35, hv35, b35⟩ := FunD.binds1 (ps := ["book", "deed", "d", "k"]) F35 4 1 (by decide) rfl (fun T kV doc pm an cdv ct us its h1 h2 => match us, its, h1, h2 with | [_, _, _, _], [_], _, _ => ⟨_, rfl, rfl⟩)
  cases hv35
  obtain ⟨d36, F36'⟩ := c.t.d.def_ 36 (d := mkD "named_in" sNamedIn) rfl
  have g36 := He.glo_ok X G (c.t.d.fact 36 (f := .glo "named_in") rfl)
  have F36 : Fun K "named_in" "named_in" sNamedIn (He.fAd K ("named_in", none)) d36 := funOf F36'
  have D36 : Df K mg "named_in" sNamedIn ["entry"] _ d36 := ⟨F36, F36.binds (ps := ["entry"]) (fun _ _ _ _ _ _ us hl => match us, hl with | [_], _ => rfl), g36⟩
  obtain ⟨d37, F37'⟩ := c.t.d.def_ 37 (d := mkD "with_entry" sWithE) rfl
  have g37 := He.glo_ok X G (c.t.d.fact 37 (f := .glo "with_entry") rfl)
  have F37 : Fun K "with_entry" "with_entry" sWithE (He.fAd K ("with_entry", none)) d37 := funOf F37'
  have D37 : Df K mg "with_entry" sWithE ["book", "entry"] _ d37 := ⟨F37, F37.binds (ps := ["book", "entry"]) (fun _ _ _ _ _ _ us hl => match us, hl with | [_, _], _ => rfl), g37⟩
  obtain ⟨d38, F38'⟩ := c.t.d.def_ 38 (d := mkD "without_entry" sWoutE) rfl
  have g38 := He.glo_ok X G (c.t.d.fact 38 (f := .glo "without_entry") rfl)
  have F38 : Fun K "without_entry" "without_entry" sWoutE (He.fAd K ("without_entry", none)) d38 := funOf F38'
  have D38 : Df K mg "without_entry" sWoutE ["book", "number"] _ d38 := ⟨F38, F38.binds (ps := ["book", "number"]) (fun _ _ _ _ _ _ us hl => match us, hl with | [_, _], _ => rfl), g38⟩
  obtain ⟨d39, F39'⟩ := c.t.d.def_ 39 (d := mkD "by_numbers" sByN) rfl
  have g39 := He.glo_ok X G (c.t.d.fact 39 (f := .glo "by_numbers") rfl)
  have F39 : Fun K "by_numbers" "by_numbers" sByN (He.fAd K ("by_numbers", none)) d39 := funOf F39'
  have D39 : Df K mg "by_numbers" sByN ["book"] _ d39 := ⟨F39, F39.binds (ps := ["book"]) (fun _ _ _ _ _ _ us hl => match us, hl with | [_], _ => rfl), g39⟩
  obtain ⟨d40, F40'⟩ := c.t.d.def_ 40 (d := mkD "person_text" sPerT) rfl
  have g40 := He.glo_ok X G (c.t.d.fact 40 (f := .glo "person_text") rfl)
  have F40 : Fun K "person_text" "person_text" sPerT (He.fAd K ("person_text", none)) d40 := funOf F40'
  have D40 : Df K mg "person_text" sPerT ["person"] _ d40 := ⟨F40, F40.binds (ps := ["person"]) (fun _ _ _ _ _ _ us hl => match us, hl with | [_], _ => rfl), g40⟩
  obtain ⟨d41, F41'⟩ := c.t.d.def_ 41 (d := mkD "part_text" sPartT) rfl
  have g41 := He.glo_ok X G (c.t.d.fact 41 (f := .glo "part_text") rfl)
  have F41 : Fun K "part_text" "part_text" sPartT (He.fAd K ("part_text", none)) d41 := funOf F41'
  have D41 : Df K mg "part_text" sPartT ["part"] _ d41 := ⟨F41, F41.binds (ps := ["part"]) (fun _ _ _ _ _ _ us hl => match us, hl with | [_], _ => rfl), g41⟩
  obtain ⟨d42, F42'⟩ := c.t.d.def_ 42 (d := mkD "book_text" sBookTx) rfl
  have g42 := He.glo_ok X G (c.t.d.fact 42 (f := .glo "book_text") rfl)
  have F42 : Fun K "book_text" "book_text" sBookTx (He.fAd K ("book_text", none)) d42 := funOf F42'
  have D42 : Df K mg "book_text" sBookTx ["book"] _ d42 := ⟨F42, F42.binds (ps := ["book"]) (fun _ _ _ _ _ _ us hl => match us, hl with | [_], _ => rfl), g42⟩
  obtain ⟨d43, F43'⟩ := c.t.d.def_ 43 (d := mkD "is_number_text" sIsNumT) rfl
  have g43 := He.glo_ok X G (c.t.d.fact 43 (f := .glo "is_number_text") rfl)
  have F43 : Fun K "is_number_text" "is_number_text" sIsNumT (He.fAd K ("is_number_text", none)) d43 := funOf F43'
  have D43 : Df K mg "is_number_text" sIsNumT ["text"] _ d43 := ⟨F43, F43.binds (ps := ["text"]) (fun _ _ _ _ _ _ us hl => match us, hl with | [_], _ => rfl), g43⟩
  obtain ⟨d44, F44'⟩ := c.t.d.def_ 44 (d := mkD "are_number_texts" sAreNumT) rfl
  have g44 := He.glo_ok X G (c.t.d.fact 44 (f := .glo "are_number_texts") rfl)
  have F44 : Fun K "are_number_texts" "are_number_texts" sAreNumT (He.fAd K ("are_number_texts", none)) d44 := funOf F44'
  have D44 : Df K mg "are_number_texts" sAreNumT ["texts"] _ d44 := ⟨F44, F44.binds (ps := ["texts"]) (fun _ _ _ _ _ _ us hl => match us, hl with | [_], _ => rfl), g44⟩
  obtain ⟨d45, F45'⟩ := c.t.d.def_ 45 (d := mkD "is_list_text" sIsListT) rfl
  have g45 := He.glo_ok X G (c.t.d.fact 45 (f := .glo "is_list_text") rfl)
  have F45 : Fun K "is_list_text" "is_list_text" sIsListT (He.fAd K ("is_list_text", none)) d45 := funOf F45'
  have D45 : Df K mg "is_list_text" sIsListT ["text"] _ d45 := ⟨F45, F45.binds (ps := ["text"]) (fun _ _ _ _ _ _ us hl => match us, hl with | [_], _ => rfl), g45⟩
  obtain ⟨d46, F46'⟩ := c.t.d.def_ 46 (d := mkD "list_read" sListRd) rfl
  have g46 := He.glo_ok X G (c.t.d.fact 46 (f := .glo "list_read") rfl)
  have F46 : Fun K "list_read" "list_read" sListRd (He.fAd K ("list_read", none)) d46 := funOf F46'
  have D46 : Df K mg "list_read" sListRd ["text"] _ d46 := ⟨F46, F46.binds (ps := ["text"]) (fun _ _ _ _ _ _ us hl => match us, hl with | [_], _ => rfl), g46⟩
  obtain ⟨d47, F47'⟩ := c.t.d.def_ 47 (d := mkD "person_read" sPerRd) rfl
  have g47 := He.glo_ok X G (c.t.d.fact 47 (f := .glo "person_read") rfl)
  have F47 : Fun K "person_read" "person_read" sPerRd (He.fAd K ("person_read", none)) d47 := funOf F47'
  have D47 : Df K mg "person_read" sPerRd ["text"] _ d47 := ⟨F47, F47.binds (ps := ["text"]) (fun _ _ _ _ _ _ us hl => match us, hl with | [_], _ => rfl), g47⟩
  obtain ⟨d48, F48'⟩ := c.t.d.def_ 48 (d := mkD "folk_read" sFolkRd) rfl
  have g48 := He.glo_ok X G (c.t.d.fact 48 (f := .glo "folk_read") rfl)
  have F48 : Fun K "folk_read" "folk_read" sFolkRd (He.fAd K ("folk_read", none)) d48 := funOf F48'
  have D48 : Df K mg "folk_read" sFolkRd ["words"] _ d48 := ⟨F48, F48.binds (ps := ["words"]) (fun _ _ _ _ _ _ us hl => match us, hl with | [_], _ => rfl), g48⟩
  obtain ⟨d49, F49'⟩ := c.t.d.def_ 49 (d := mkD "deed_tail_read" sDeedTl) rfl
  have g49 := He.glo_ok X G (c.t.d.fact 49 (f := .glo "deed_tail_read") rfl)
  have F49 : Fun K "deed_tail_read" "deed_tail_read" sDeedTl (He.fAd K ("deed_tail_read", none)) d49 := funOf F49'
  have D49 : Df K mg "deed_tail_read" sDeedTl ["words"] _ d49 := ⟨F49, F49.binds (ps := ["words"]) (fun _ _ _ _ _ _ us hl => match us, hl with | [_], _ => rfl), g49⟩
  obtain ⟨d50, F50'⟩ := c.t.d.def_ 50 (d := mkD "tail_read" sTailRd) rfl
  have g50 := He.glo_ok X G (c.t.d.fact 50 (f := .glo "tail_read") rfl)
  have F50 : Fun K "tail_read" "tail_read" sTailRd (He.fAd K ("tail_read", none)) d50 := funOf F50'
  have D50 : Df K mg "tail_read" sTailRd ["word", "words"] _ d50 := ⟨F50, F50.binds (ps := ["word", "words"]) (fun _ _ _ _ _ _ us hl => match us, hl with | [_, _], _ => rfl), g50⟩
  obtain ⟨d51, F51'⟩ := c.t.d.def_ 51 (d := mkD "entry_read" sEntRd) rfl
  have g51 := He.glo_ok X G (c.t.d.fact 51 (f := .glo "entry_read") rfl)
  have F51 : Fun K "entry_read" "entry_read" sEntRd (He.fAd K ("entry_read", none)) d51 := funOf F51'
  have D51 : Df K mg "entry_read" sEntRd ["words"] _ d51 := ⟨F51, F51.binds (ps := ["words"]) (fun _ _ _ _ _ _ us hl => match us, hl with | [_], _ => rfl), g51⟩
  obtain ⟨d52, F52'⟩ := c.t.d.def_ 52 (d := mkD "parts_read" sPartsRd) rfl
  have g52 := He.glo_ok X G (c.t.d.fact 52 (f := .glo "parts_read") rfl)
  have F52 : Fun K "parts_read" "parts_read" sPartsRd (He.fAd K ("parts_read", none)) d52 := funOf F52'
  have D52 : Df K mg "parts_read" sPartsRd ["text"] _ d52 := ⟨F52, F52.binds (ps := ["text"]) (fun _ _ _ _ _ _ us hl => match us, hl with | [_], _ => rfl), g52⟩
  obtain ⟨d53, F53'⟩ := c.t.d.def_ 53 (d := mkD "book_read" sBookRd) rfl
  have g53 := He.glo_ok X G (c.t.d.fact 53 (f := .glo "book_read") rfl)
  have F53 : Fun K "book_read" "book_read" sBookRd (He.fAd K ("book_read", none)) d53 := funOf F53'
  have D53 : Df K mg "book_read" sBookRd ["text"] _ d53 := ⟨F53, F53.binds (ps := ["text"]) (fun _ _ _ _ _ _ us hl => match us, hl with | [_], _ => rfl), g53⟩
  obtain ⟨d54, F54'⟩ := c.t.d.def_ 54 (d := mkD "_law_named" sLNamed) rfl
  have g54 := He.glo_ok X G (c.t.d.fact 54 (f := .glo "_law_named") rfl)
  have F54 : Fun K "_law_named" "_law_named" sLNamed (He.fAd K ("_law_named", none)) d54 := funOf F54'
  have D54 : Df K mg "_law_named" sLNamed ["_law_entry"] _ d54 := ⟨F54, F54.binds (ps := ["_law_entry"]) (fun _ _ _ _ _ _ us hl => match us, hl with | [_], _ => rfl), g54⟩
  obtain ⟨d55, F55'⟩ := c.t.d.def_ 55 (d := mkD "_law_due_of" sLDueOf) rfl
  have g55 := He.glo_ok X G (c.t.d.fact 55 (f := .glo "_law_due_of") rfl)
  have F55 : Fun K "_law_due_of" "_law_due_of" sLDueOf (He.fAd K ("_law_due_of", none)) d55 := funOf F55'
  have D55 : Df K mg "_law_due_of" sLDueOf ["_law_book_here", "_law_entry"] _ d55 := ⟨F55, F55.binds (ps := ["_law_book_here", "_law_entry"]) (fun _ _ _ _ _ _ us hl => match us, hl with | [_, _], _ => rfl), g55⟩
  obtain ⟨d56, F56'⟩ := c.t.d.def_ 56 (d := mkD "_law_new_entry" sLNewEnt) rfl
  have g56 := He.glo_ok X G (c.t.d.fact 56 (f := .glo "_law_new_entry") rfl)
  have F56 : Fun K "_law_new_entry" "_law_new_entry" sLNewEnt (He.fAd K ("_law_new_entry", none)) d56 := funOf F56'
  have D56 : Df K mg "_law_new_entry" sLNewEnt ["_law_pen_here", "_law_book_here"] _ d56 := ⟨F56, F56.binds (ps := ["_law_pen_here", "_law_book_here"]) (fun _ _ _ _ _ _ us hl => match us, hl with | [_, _], _ => rfl), g56⟩
  obtain ⟨d57, F57'⟩ := c.t.d.def_ 57 (d := mkD "_law_written" sLWritten) rfl
  have g57 := He.glo_ok X G (c.t.d.fact 57 (f := .glo "_law_written") rfl)
  have F57 : Fun K "_law_written" "_law_written" sLWritten (He.fAd K ("_law_written", none)) d57 := funOf F57'
  have D57 : Df K mg "_law_written" sLWritten ["_law_pen_here", "_law_book_here", "_law_stray"] _ d57 := ⟨F57, F57.binds (ps := ["_law_pen_here", "_law_book_here", "_law_stray"]) (fun _ _ _ _ _ _ us hl => match us, hl with | [_, _, _], _ => rfl), g57⟩
  obtain ⟨d58, F58'⟩ := c.t.d.def_ 58 (d := mkD "_law_due_out" sLDueOut) rfl
  have g58 := He.glo_ok X G (c.t.d.fact 58 (f := .glo "_law_due_out") rfl)
  have F58 : Fun K "_law_due_out" "_law_due_out" sLDueOut (He.fAd K ("_law_due_out", none)) d58 := funOf F58'
  have D58 : Df K mg "_law_due_out" sLDueOut ["_law_book_here", "_law_number"] _ d58 := ⟨F58, F58.binds (ps := ["_law_book_here", "_law_number"]) (fun _ _ _ _ _ _ us hl => match us, hl with | [_, _], _ => rfl), g58⟩
  obtain ⟨d59, F59'⟩ := c.t.d.def_ 59 (d := mkD "_law_torn_right" sLTornR) rfl
  have g59 := He.glo_ok X G (c.t.d.fact 59 (f := .glo "_law_torn_right") rfl)
  have F59 : Fun K "_law_torn_right" "_law_torn_right" sLTornR (He.fAd K ("_law_torn_right", none)) d59 := funOf F59'
  have D59 : Df K mg "_law_torn_right" sLTornR ["_law_pen_here", "_law_scribe"] _ d59 := ⟨F59, F59.binds (ps := ["_law_pen_here", "_law_scribe"]) (fun _ _ _ _ _ _ us hl => match us, hl with | [_, _], _ => rfl), g59⟩
  obtain ⟨d60, F60'⟩ := c.t.d.def_ 60 (d := mkD "law" sLaw) rfl
  have g60 := He.glo_ok X G (c.t.d.fact 60 (f := .glo "law") rfl)
  have F60 : Fun K "law" "law" sLaw (He.fAd K ("law", none)) d60 := funOf F60'
  obtain ⟨dM___init__, FM___init__'⟩ := c.t.d.def_ 61 (d := ⟨("Scribe", some "__init__"), "__init__", "Scribe.__init__", defArgs sScI, defBody sScI, defScope sScI, [], []⟩) rfl
  have FM___init__ : Fun K "__init__" "Scribe.__init__" sScI (He.fAd K ("Scribe", some "__init__")) dM___init__ := funOfM FM___init__'
  have bM___init__ : Binds K dM___init__ ["self", "folk", "age"] [] := FM___init__.binds (ps := ["self", "folk", "age"]) (fun _ _ _ _ _ _ us hl => match us, hl with | [_, _, _], _ => rfl)
  obtain ⟨dM_turn_to, FM_turn_to'⟩ := c.t.d.def_ 62 (d := ⟨("Scribe", some "turn_to"), "turn_to", "Scribe.turn_to", defArgs sScT, defBody sScT, defScope sScT, [], []⟩) rfl
  have FM_turn_to : Fun K "turn_to" "Scribe.turn_to" sScT (He.fAd K ("Scribe", some "turn_to")) dM_turn_to := funOfM FM_turn_to'
  have bM_turn_to : Binds K dM_turn_to ["self", "other"] [] := FM_turn_to.binds (ps := ["self", "other"]) (fun _ _ _ _ _ _ us hl => match us, hl with | [_, _], _ => rfl)
  obtain ⟨dM_write, FM_write'⟩ := c.t.d.def_ 63 (d := ⟨("Scribe", some "write"), "write", "Scribe.write", defArgs sScW, defBody sScW, defScope sScW, [], []⟩) rfl
  have FM_write : Fun K "write" "Scribe.write" sScW (He.fAd K ("Scribe", some "write")) dM_write := funOfM FM_write'
  have bM_write : Binds K dM_write ["self", "entry"] [] := FM_write.binds (ps := ["self", "entry"]) (fun _ _ _ _ _ _ us hl => match us, hl with | [_, _], _ => rfl)
  obtain ⟨dM_tear, FM_tear'⟩ := c.t.d.def_ 64 (d := ⟨("Scribe", some "tear"), "tear", "Scribe.tear", defArgs sScR, defBody sScR, defScope sScR, [], []⟩) rfl
  have FM_tear : Fun K "tear" "Scribe.tear" sScR (He.fAd K ("Scribe", some "tear")) dM_tear := funOfM FM_tear'
  have bM_tear : Binds K dM_tear ["self", "number"] [] := FM_tear.binds (ps := ["self", "number"]) (fun _ _ _ _ _ _ us hl => match us, hl with | [_, _], _ => rfl)
  obtain ⟨dM_undo, FM_undo'⟩ := c.t.d.def_ 65 (d := ⟨("Scribe", some "undo"), "undo", "Scribe.undo", defArgs sScU, defBody sScU, defScope sScU, [], []⟩) rfl
  have FM_undo : Fun K "undo" "Scribe.undo" sScU (He.fAd K ("Scribe", some "undo")) dM_undo := funOfM FM_undo'
  have bM_undo : Binds K dM_undo ["self"] [] := FM_undo.binds (ps := ["self"]) (fun _ _ _ _ _ _ us hl => match us, hl with | [_], _ => rfl)
  obtain ⟨dM_book, FM_book'⟩ := c.t.d.def_ 66 (d := ⟨("Scribe", some "book"), "book", "Scribe.book", defArgs sScB, defBody sScB, defScope sScB, [], []⟩) rfl
  have FM_book : Fun K "book" "Scribe.book" sScB (He.fAd K ("Scribe", some "book")) dM_book := funOfM FM_book'
  have bM_book : Binds K dM_book ["self"] [] := FM_book.binds (ps := ["self"]) (fun _ _ _ _ _ _ us hl => match us, hl with | [_], _ => rfl)
  obtain ⟨dM_standing, FM_standing'⟩ := c.t.d.def_ 67 (d := ⟨("Scribe", some "standing"), "standing", "Scribe.standing", defArgs sScS, defBody sScS, defScope sScS, [.int 9999], []⟩) rfl
  have FM_standing : FunD K "standing" "Scribe.standing" (defArgs sScS) (defBody sScS) (defScope sScS) [V.int 9999] [] (He.fAd K ("Scribe", some "standing")) dM_standing := FM_standing'
  obtain ⟨dsM_standing, hvM_standing, bM_standing⟩ := FunD.binds1 (ps := ["self", "deed", "d", "k"]) FM_standing 4 1 (by decide) rfl (fun T kV doc pm an cdv ct us its h1 h2 => match us, its, h1, h2 with | [_, _, _, _], [_], _, _ => ⟨_, rfl, rfl⟩)
  cases hvM_standing
  obtain ⟨dM_twin, FM_twin'⟩ := c.t.d.def_ 68 (d := ⟨("Scribe", some "twin"), "twin", "Scribe.twin", defArgs sScN, defBody sScN, defScope sScN, [], []⟩) rfl
  have FM_twin : Fun K "twin" "Scribe.twin" sScN (He.fAd K ("Scribe", some "twin")) dM_twin := funOfM FM_twin'
  have bM_twin : Binds K dM_twin ["self"] [] := FM_twin.binds (ps := ["self"]) (fun _ _ _ _ _ _ us hl => match us, hl with | [_], _ => rfl)
  obtain ⟨dM___len__, FM___len__'⟩ := c.t.d.def_ 69 (d := ⟨("Scribe", some "__len__"), "__len__", "Scribe.__len__", defArgs sScL, defBody sScL, defScope sScL, [], []⟩) rfl
  have FM___len__ : Fun K "__len__" "Scribe.__len__" sScL (He.fAd K ("Scribe", some "__len__")) dM___len__ := funOfM FM___len__'
  have bM___len__ : Binds K dM___len__ ["self"] [] := FM___len__.binds (ps := ["self"]) (fun _ _ _ _ _ _ us hl => match us, hl with | [_], _ => rfl)
  obtain ⟨dM___eq__, FM___eq__'⟩ := c.t.d.def_ 70 (d := ⟨("Scribe", some "__eq__"), "__eq__", "Scribe.__eq__", defArgs sScE, defBody sScE, defScope sScE, [], []⟩) rfl
  have FM___eq__ : Fun K "__eq__" "Scribe.__eq__" sScE (He.fAd K ("Scribe", some "__eq__")) dM___eq__ := funOfM FM___eq__'
  have bM___eq__ : Binds K dM___eq__ ["self", "other"] [] := FM___eq__.binds (ps := ["self", "other"]) (fun _ _ _ _ _ _ us hl => match us, hl with | [_, _], _ => rfl)
  obtain ⟨dM___repr__, FM___repr__'⟩ := c.t.d.def_ 71 (d := ⟨("Scribe", some "__repr__"), "__repr__", "Scribe.__repr__", defArgs sScP, defBody sScP, defScope sScP, [], []⟩) rfl
  have FM___repr__ : Fun K "__repr__" "Scribe.__repr__" sScP (He.fAd K ("Scribe", some "__repr__")) dM___repr__ := funOfM FM___repr__'
  have bM___repr__ : Binds K dM___repr__ ["self"] [] := FM___repr__.binds (ps := ["self"]) (fun _ _ _ _ _ _ us hl => match us, hl with | [_], _ => rfl)
  obtain ⟨dM___str__, FM___str__'⟩ := c.t.d.def_ 72 (d := ⟨("Scribe", some "__str__"), "__str__", "Scribe.__str__", defArgs sScZ, defBody sScZ, defScope sScZ, [], []⟩) rfl
  have FM___str__ : Fun K "__str__" "Scribe.__str__" sScZ (He.fAd K ("Scribe", some "__str__")) dM___str__ := funOfM FM___str__'
  have bM___str__ : Binds K dM___str__ ["self"] [] := FM___str__.binds (ps := ["self"]) (fun _ _ _ _ _ _ us hl => match us, hl with | [_], _ => rfl)
  have m_range := He.free_ok X G (c.t.d.fact 61 (f := .free "range") rfl)
  have m_min := He.free_ok X G (c.t.d.fact 62 (f := .free "min") rfl)
  have m_max := He.free_ok X G (c.t.d.fact 63 (f := .free "max") rfl)
  have m_tuple := He.free_ok X G (c.t.d.fact 64 (f := .free "tuple") rfl)
  have m_list := He.free_ok X G (c.t.d.fact 65 (f := .free "list") rfl)
  have m_len := He.free_ok X G (c.t.d.fact 66 (f := .free "len") rfl)
  have m_sorted := He.free_ok X G (c.t.d.fact 67 (f := .free "sorted") rfl)
  have m_int := He.free_ok X G (c.t.d.fact 68 (f := .free "int") rfl)
  have m_isinstance := He.free_ok X G (c.t.d.fact 69 (f := .free "isinstance") rfl)
  have m_bool := He.free_ok X G (c.t.d.fact 70 (f := .free "bool") rfl)
  have m_dict := He.free_ok X G (c.t.d.fact 71 (f := .free "dict") rfl)
  have m_any := He.free_ok X G (c.t.d.fact 72 (f := .free "any") rfl)
  have m_all := He.free_ok X G (c.t.d.fact 73 (f := .free "all") rfl)
  have m_zip := He.free_ok X G (c.t.d.fact 74 (f := .free "zip") rfl)
  have m_str := He.free_ok X G (c.t.d.fact 75 (f := .free "str") rfl)
  have m_repr := He.free_ok X G (c.t.d.fact 76 (f := .free "repr") rfl)
  have i_NUMBER : MgInt mg "NUMBER" 0 := He.int_ok X G (c.t.d.fact 77 (f := .int "NUMBER" 0) rfl)
  have i_WORD : MgInt mg "WORD" 4 := He.int_ok X G (c.t.d.fact 78 (f := .int "WORD" 4) rfl)
  have i_DAY : MgInt mg "DAY" 1 := He.int_ok X G (c.t.d.fact 79 (f := .int "DAY" 1) rfl)
  have i_WRITTEN : MgInt mg "WRITTEN" 2 := He.int_ok X G (c.t.d.fact 80 (f := .int "WRITTEN" 2) rfl)
  have i_OF : MgInt mg "OF" 5 := He.int_ok X G (c.t.d.fact 81 (f := .int "OF" 5) rfl)
  have i_RESTS : MgInt mg "RESTS" 7 := He.int_ok X G (c.t.d.fact 82 (f := .int "RESTS" 7) rfl)
  have i_LAST_DAY : MgInt mg "LAST_DAY" 9999 := He.int_ok X G (c.t.d.fact 83 (f := .int "LAST_DAY" 9999) rfl)
  have i_LAST_NUMBER : MgInt mg "LAST_NUMBER" 30 := He.int_ok X G (c.t.d.fact 84 (f := .int "LAST_NUMBER" 30) rfl)
  have i_LAST_HAND : MgInt mg "LAST_HAND" 3 := He.int_ok X G (c.t.d.fact 85 (f := .int "LAST_HAND" 3) rfl)
  have i_MOST_FOLK : MgInt mg "MOST_FOLK" 6 := He.int_ok X G (c.t.d.fact 86 (f := .int "MOST_FOLK" 6) rfl)
  have i_MOST_ENTRIES : MgInt mg "MOST_ENTRIES" 16 := He.int_ok X G (c.t.d.fact 87 (f := .int "MOST_ENTRIES" 16) rfl)
  have i_MOST_RESTS : MgInt mg "MOST_RESTS" 2 := He.int_ok X G (c.t.d.fact 88 (f := .int "MOST_RESTS" 2) rfl)
  have i_MOST_WITNESSES : MgInt mg "MOST_WITNESSES" 3 := He.int_ok X G (c.t.d.fact 89 (f := .int "MOST_WITNESSES" 3) rfl)
  have i_MOST_FIGURES : MgInt mg "MOST_FIGURES" 40 := He.int_ok X G (c.t.d.fact 90 (f := .int "MOST_FIGURES" 40) rfl)
  have e := hfa.symm.trans g60
  cases e
  have b := FunD.bindsA (ps := ["_law_script"]) F60' fun _ _ _ _ _ _ us hl => match us, hl with | [_], _ => rfl
  have B : Bi mg := ⟨m_range, m_min, m_max, m_tuple, m_list, m_len, m_sorted, m_int⟩
  have t0 : (("entries_rising", none) : He.Defn) ∈ tfAll := by unfold tfAll; simp only [List.mem_cons, true_or, or_true]
  have hex := c.more
  unfold exAll at hex
  obtain ⟨hcar, hex⟩ := He.ba hex
  obtain ⟨haw, hex⟩ := He.ba hex
  obtain ⟨hle, hex⟩ := He.ba hex
  obtain ⟨hre, hex⟩ := He.ba hex
  obtain ⟨hst, hex⟩ := He.ba hex
  obtain ⟨heq, hex⟩ := He.ba hex
  obtain ⟨hne, hex⟩ := He.ba hex
  obtain ⟨hmr, hex⟩ := He.ba hex
  obtain ⟨hca, hex⟩ := He.ba hex
  obtain ⟨hcn, hex⟩ := He.ba hex
  obtain ⟨hct, hex⟩ := He.ba hex
  have hcm := hex
  obtain ⟨hle1, hle2⟩ := He.ba hle
  obtain ⟨hre1, hre2⟩ := He.ba hre
  obtain ⟨hst1, hst2⟩ := He.ba hst
  obtain ⟨heq1, heq2⟩ := He.ba heq
  have gCar := He.glo_ok X G (c.t.d.fact 91 (f := .glo "CARRYING") rfl)
  have cCar : CarryAt K mg := ⟨_, gCar, fun H => He.tupB_ok hcar H⟩
  have gAW := He.glo_ok X G (c.t.d.fact 92 (f := .glo "ACT_WORDS") rfl)
  have AW : ActWG K mg _ := ⟨gAW, fun H => He.tupB_ok haw H⟩
  have gS := He.glo_ok X G (c.t.d.fact 93 (f := .glo "Scribe") rfl)
  have gF := He.glo_ok X G (c.t.d.fact 94 (f := .glo "NoFolk") rfl)
  have gA := He.glo_ok X G (c.t.d.fact 95 (f := .glo "NoAge") rfl)
  have gG := He.glo_ok X G (c.t.d.fact 96 (f := .glo "NothingDone") rfl)
  obtain ⟨xF1, xF2, xF3, xF4⟩ := He.exc_ok (c.t.d.fact 97 (f := .exc "NoFolk") rfl)
  obtain ⟨xA1, xA2, xA3, xA4⟩ := He.exc_ok (c.t.d.fact 98 (f := .exc "NoAge") rfl)
  obtain ⟨xG1, xG2, xG3, xG4⟩ := He.exc_ok (c.t.d.fact 99 (f := .exc "NothingDone") rfl)
  have e_ff := He.exm_ok (c.t.d.fact 100 (f := .exm "NoFolk" "NoFolk" true) rfl)
  have e_aa := He.exm_ok (c.t.d.fact 101 (f := .exm "NoAge" "NoAge" true) rfl)
  have e_gg := He.exm_ok (c.t.d.fact 102 (f := .exm "NothingDone" "NothingDone" true) rfl)
  have nF : ExcCl K mg "NoFolk" _ := ⟨xF1, gF, xF2, xF3, xF4, e_ff⟩
  have nA : ExcCl K mg "NoAge" _ := ⟨xA1, gA, xA2, xA3, xA4, e_aa⟩
  have nG : ExcCl K mg "NothingDone" _ := ⟨xG1, gG, xG2, xG3, xG4, e_gg⟩
  have S : ScT K mg (He.ga K "Scribe") := ⟨He.cls_ok (c.t.d.fact 103 (f := .cls "Scribe") rfl), He.noat_ok (c.t.d.fact 104 (f := .noat "Scribe" "kept") rfl), He.noat_ok (c.t.d.fact 105 (f := .noat "Scribe" "earlier") rfl), gS⟩
  have hMk := He.mkr_ok (c.t.d.fact 106 (f := .mkr "Scribe") rfl)
  have hM_turn_to := He.meth_ok (c.t.d.fact 107 (f := .meth "Scribe" "turn_to") rfl)
  have hM_write := He.meth_ok (c.t.d.fact 108 (f := .meth "Scribe" "write") rfl)
  have hM_tear := He.meth_ok (c.t.d.fact 109 (f := .meth "Scribe" "tear") rfl)
  have hM_undo := He.meth_ok (c.t.d.fact 110 (f := .meth "Scribe" "undo") rfl)
  have hM_book := He.meth_ok (c.t.d.fact 111 (f := .meth "Scribe" "book") rfl)
  have hM_standing := He.meth_ok (c.t.d.fact 112 (f := .meth "Scribe" "standing") rfl)
  have hM_twin := He.meth_ok (c.t.d.fact 113 (f := .meth "Scribe" "twin") rfl)
  have ic : C8.InsC K (He.ga K "Scribe") := ⟨S.cl, of_decide_eq_true hca, of_decide_eq_true hcn, of_decide_eq_true hct, of_decide_eq_true hmr, of_decide_eq_true hcm⟩
  have GEQ : OwnE.EqF K (He.ga K "Scribe") (He.fAd K ("Scribe", some "__eq__")) := ⟨of_decide_eq_true heq1, heq2, of_decide_eq_true hne, of_decide_eq_true hmr⟩
  have mT : ∀ {p : Addr × Str}, p ∈ ([((He.cT K ("entries_rising", none)).2, qRis)] : List (Addr × Str)) ↔ (p = ((He.cT K ("entries_rising", none)).2, qRis)) := by
    intro p
    simp only [List.mem_cons, List.not_mem_nil, or_false]
  refine ⟨d60, tfAll.map (He.cT K), spLaw K [((He.cT K ("entries_rising", none)).2, qRis)], fun p hp => ?_, fun p hp => ?_, fun p hp => ?_, fun s v => b s [v] rfl, fun H a ns hl _ hH hS => ?_, fun base hK hG hTB => ?_⟩
  · obtain ⟨q, hq, rfl⟩ := List.mem_map.mp hp
    exact c.empty q hq
  · obtain ⟨q, hq, rfl⟩ := List.mem_map.mp hp
    exact c.out q hq
  · obtain ⟨q, hq, rfl⟩ := List.mem_map.mp hp
    exact PySem.W.codeHd_of_K X (c.hd q hq)
  · refine ⟨a, ns, rfl, hS, hl, fun p hp => ?_, fun _ => rfl⟩
    obtain rfl := mT.mp hp
    exact TabS.nil (hH _ (List.mem_map.mpr ⟨_, t0, rfl⟩))
  · have tb0 := hTB _ (List.mem_map.mpr ⟨_, t0, rfl⟩)
    have u0 : ∀ p ∈ ([((He.cT K ("entries_rising", none)).2, qRis)] : List (Addr × Str)), p.1 = (He.cT K ("entries_rising", none)).2 → p.2 = qRis := fun p hp e => by
      obtain rfl := mT.mp hp
      rfl
    have R : RisD K mg base [((He.cT K ("entries_rising", none)).2, qRis)] _ d23 := ⟨D23, ⟨_, _, codeAt F23, tb0, mT.mpr rfl, u0⟩, m_sorted, i_NUMBER⟩
    have GAE : ∀ k, FnOk l.prog w K mg base CX0 (k + 3) _ d25 ["book"] (spPick (fun e => !e.isDeed) _) := fun k => ok_actE (k := k) D25.F R i_WORD
    have GDE : ∀ k, FnOk l.prog w K mg base CX0 (k + 3) _ d24 ["book"] (spPick (·.isDeed) _) := fun k => ok_deedE (k := k) D24.F R i_WORD
    have GDO : FnOk l.prog w K mg base CX0 33 _ d26 ["book"] (spNums (·.isDeed) _) := ok_DeedsOf (k := 29) D26.F D24 (GDE 29) i_NUMBER
    have GCK : FnOk l.prog w K mg base CX0 34 _ d29 ["book", "thing"] (spCkDeed _) := ok_ckDeed (k := 32) D29.F D10 m_isinstance m_int m_bool D26 GDO
    have GCD : ∀ k, FnOk l.prog w K mg base CX0 (k + 4) _ d28 ["thing"] spCkDay := fun k => ok_ckDay (k := k) D28.F D12 D11 D10 m_isinstance m_int m_bool i_LAST_DAY
    have GOA : ∀ k, FnOk l.prog w K mg base CX0 (k + 4) _ d30 ["book", "d", "k"] (spOpenA _) := fun k => ok_openA (k := k) D30.F D25 (GAE k) i_WRITTEN i_DAY
    have GFO : ∀ k, FnOk l.prog w K mg base CX0 (k + 2) _ d32 ["acts"] spForced := fun k => ok_forced (k := k) D32.F D31 i_WORD i_OF i_NUMBER
    have GWO : ∀ k, FnOk l.prog w K mg base CX0 (k + 2) _ d33 ["deed", "forced", "words", "d", "k"] spWordOf := fun k => ok_wordOf (k := k) D33.F D31 i_WORD i_OF i_NUMBER i_WRITTEN i_DAY i_RESTS m_any cCar
    have GAL : ∀ k, FnOk l.prog w K mg base CX0 (k + 5) _ d34 ["book", "d", "k"] (spAllSt _) := fun k => ok_allSt (k := k + 4) F34 i_NUMBER D28 (GCD k) D30 (GOA k) D32 (GFO (k + 2)) D24 (GDE (k + 1)) D33 (GWO (k + 2))
    have GST := ok_stOf (k := 34) F35 D29 GCK g34 F34.kp b34 (GAL 29)
    let cDr : ∀ k, CDraw l.prog w K mg base (k + 1) := fun k => D2.call (ok_draw D2.F)
    let cMi : ∀ k, CallOk l.prog w K mg base (k + 2) "_law_mixed" _ (spMixed K) := fun k => D5.call (ok_mixed (k := k) D5.F D2 B)
    let cDy : ∀ k, CallOk l.prog w K mg base (k + 2) "_law_day" _ spDay := fun k => D3.call (ok_day (k := k + 1) D3.F (cDr k))
    let cFe : CallOk l.prog w K mg base 3 "_law_few" _ (spFew K) := D6.call (ok_few (k := 2) D6.F (cDr 1) (cMi 0) m_tuple m_sorted)
    let cDe : CallOk l.prog w K mg base 4 "_law_deed" _ (spDeed K) := D7.call (ok_deed (k := 3) D7.F (cDr 2) (cDy 1) (cMi 1) cFe m_list m_range m_len)
    let cAc : CallOk l.prog w K mg base 4 "_law_act" _ (spAct K) := D8.call (ok_act (k := 3) D8.F (cDr 2) (cDy 1) m_len)
    let cFo : CallOk l.prog w K mg base 4 "_law_folk" _ spFolk := D4.call (ok_folk (k := 3) D4.F (cDr 2) m_range m_min m_tuple)
    let cBo : CallOk l.prog w K mg base 5 "_law_book" _ spBook := D9.call (ok_book (k := 4) D9.F (cDr 3) cFo cDe cAc (cMi 2) m_int m_range m_tuple)
    let cWh : CallOk l.prog w K mg base 10 "is_whole" _ _ := D10.call (ok_IsWhole (k := 9) D10.F m_isinstance m_int m_bool)
    let cWi : CallOk l.prog w K mg base 11 "is_within" _ _ := D11.call (ok_IsWithin (k := 10) D11.F cWh)
    let cAg : CallOk l.prog w K mg base 12 "is_age" pIsAgeG (spB1 (Tg.within 0 9999)) := D13.call (ok_IsAgeG (k := 11) D13.F cWi i_LAST_DAY)
    let cDa : CallOk l.prog w K mg base 12 "is_day" _ _ := D12.call (ok_IsDayG (k := 11) D12.F cWi i_LAST_DAY)
    let cPe : CallOk l.prog w K mg base 12 "is_person" _ _ := D14.call (ok_IsPerson (k := 11) D14.F cWi m_isinstance m_tuple m_len i_LAST_DAY)
    let cFk : CallOk l.prog w K mg base 13 "is_folk" _ _ := D15.call (ok_IsFolkG (k := 12) D15.F cPe m_isinstance m_tuple m_len m_all i_MOST_FOLK)
    let cRi : CallOk l.prog w K mg base 11 "is_rising" _ _ := D16.call (ok_IsRisG (k := 10) D16.F m_zip m_all)
    let cRb : CallOk l.prog w K mg base 12 "is_rising_below" _ _ := D17.call (ok_IsRisB (k := 11) D17.F cWi cRi m_isinstance m_tuple m_len m_all)
    let cDt : CallOk l.prog w K mg base 13 "is_deed_tail" _ _ := D18.call (ok_IsDeedT (k := 12) D18.F (cWi.mono (by decide)) cRb m_len i_MOST_RESTS i_MOST_WITNESSES)
    let cAt : CallOk l.prog w K mg base 13 "is_act_tail" _ _ := D19.call (ok_IsActT (k := 12) D19.F (cWi.mono (by decide)) m_len)
    let cEn : CallOk l.prog w K mg base 14 "is_entry" _ _ := D20.call (ok_IsEntG (k := 13) D20.F cFk (cWi.mono (by decide)) (cDa.mono (by decide)) cDt cAt m_isinstance m_tuple m_len i_OF i_LAST_NUMBER i_LAST_HAND AW)
    let cNf : CallOk l.prog w K mg base 14 "names_fit" _ _ := D21.call (ok_NFit (k := 13) D21.F m_all i_WORD i_RESTS i_OF AW)
    let cWE : CallOk l.prog w K mg base 15 "with_entry" _ _ := D37.call (ok_WithE (k := 14) D37.F cEn cNf m_len i_NUMBER i_WORD i_MOST_ENTRIES)
    let cER : CallOk l.prog w K mg base 10 "entries_rising" ["book"] (spRising _) := D23.call (R.ok (k := 8))
    let cBN : CallOk l.prog w K mg base 11 "by_numbers" pByN (spByN _) := D39.call (ok_ByN (k := 10) D39.F cER m_tuple)
    let mTu : CallM l.prog w K mg base CX0 15 (He.ga K "Scribe") "turn_to" nScT (spScT _ _) := ⟨_, _, hM_turn_to, bM_turn_to, ok_ScT (k := 14) FM_turn_to S (cBN.mono (by decide))⟩
    let cNu : CallOk l.prog w K mg base 10 "is_number_text" _ _ := D43.call (ok_IsNumT (k := 9) D43.F m_len m_all i_MOST_FIGURES)
    let cNus : CallOk l.prog w K mg base 11 "are_number_texts" _ _ := D44.call (ok_AreNumT (k := 10) D44.F cNu m_all)
    let cLi : CallOk l.prog w K mg base 12 "is_list_text" _ _ := D45.call (ok_IsListT (k := 11) D45.F cNus)
    let cLr : CallOk l.prog w K mg base 12 "list_read" _ _ := D46.call (ok_ListRd (k := 11) D46.F m_int m_tuple)
    let cPt : CallOk l.prog w K mg base 10 "person_text" _ _ := D40.call (ok_PerT (k := 9) D40.F)
    let cPr : CallOk l.prog w K mg base 11 "person_read" _ _ := D47.call (ok_PerRd (k := 10) D47.F cNu m_int)
    let cPa : CallOk l.prog w K mg base 10 "part_text" _ _ := D41.call (ok_PartT (k := 9) D41.F m_isinstance m_tuple m_str)
    let cBt : CallOk l.prog w K mg base 11 "book_text" _ (spBookTx _) := D42.call (ok_BookTx (k := 10) D42.F cPt cER cPa)
    let cFr : CallOk l.prog w K mg base 12 "folk_read" _ _ := D48.call (ok_FolkRd (k := 11) D48.F cPr m_tuple)
    let cTl : CallOk l.prog w K mg base 13 "deed_tail_read" _ _ := D49.call (ok_DeedTl (k := 12) D49.F (cNus.mono (by decide)) cLi cLr m_len m_int)
    let cTr : CallOk l.prog w K mg base 14 "tail_read" _ _ := D50.call (ok_TailRd (k := 13) D50.F AW cTl (cNu.mono (by decide)) m_len m_int)
    let cErd : CallOk l.prog w K mg base 15 "entry_read" _ _ := D51.call (ok_EntRd (k := 14) D51.F (cNus.mono (by decide)) cTr m_len m_int m_tuple i_WORD i_OF)
    let cPs : CallOk l.prog w K mg base 16 "parts_read" _ _ := D52.call (ok_PartsRd (k := 15) D52.F (cFr.mono (by decide)) (cNu.mono (by decide)) cErd m_len m_int m_tuple)
    let cIb : CallOk l.prog w K mg base 16 "is_book" _ (spB1 isBookT) := D22.call (ok_IsBk (k := 15) D22.F (cFk.mono (by decide)) (cAg.mono (by decide)) (cEn.mono (by decide)) (cNf.mono (by decide)) m_isinstance m_tuple m_len m_all i_NUMBER i_WORD i_MOST_ENTRIES)
    let cBr : CallOk l.prog w K mg base 17 "book_read" _ (spBookRd _) := D53.call (ok_BookRd (k := 16) D53.F cPs cIb (cBt.mono (by decide)) m_isinstance m_str)
    have GAO : FnOk l.prog w K mg base CX0 33 _ d27 ["book"] (spNums (fun e => !e.isDeed) _) := ok_ActsOf (k := 29) D27.F D25 (GAE 29) i_NUMBER
    let cNa : CallOk l.prog w K mg base 10 "_law_named" _ spLNamedW := D54.call (ok_LNamedW (k := 9) D54.F m_list)
    let cAw : CallOk l.prog w K mg base 4 "_law_act" _ (spActW K) := D8.call (ok_actW (k := 3) D8.F (cDr 2) (cDy 1) m_len)
    let cNE : CallOk l.prog w K mg base 17 "_law_new_entry" _ _ := D56.call (ok_LNewEnt (k := 16) D56.F (cDr 15) (cDe.mono (by decide)) (cAw.mono (by decide)) m_sorted)
    let cDu : CallOk l.prog w K mg base 15 "_law_due_of" _ _ := D55.call (ok_LDueOf (k := 14) D55.F cEn (cNa.mono (by decide)) m_dict m_len m_int)
    let cNi : CallOk l.prog w K mg base 14 "named_in" _ _ := D36.call (ok_NamedIn (k := 13) D36.F i_WORD i_RESTS i_OF)
    let cWT : CallOk l.prog w K mg base 15 "without_entry" _ _ := D38.call (ok_WoutE (k := 14) (P := l.prog) (w := w) (base := base) D38.F (cWh.mono (by decide)) cNi m_tuple i_NUMBER)
    let cDO : CallOk l.prog w K mg base 12 "_law_due_out" _ _ := D58.call (ok_LDueOut (k := 11) D58.F (cNa.mono (by decide)) m_isinstance m_int m_bool)
    let mBk : CallM l.prog w K mg base CX0 2 (He.ga K "Scribe") "book" nScB (spScB _) := ⟨_, _, hM_book, bM_book, ok_ScB (k := 1) FM_book S⟩
    let mUn : CallM l.prog w K mg base (L2.CX l.prog w) 2 (He.ga K "Scribe") "undo" nScB (spScU _ _ [((He.cT K ("entries_rising", none)).2, qRis)]) := ⟨_, _, hM_undo, bM_undo, ok_ScU (k := 1) FM_undo S nG⟩
    let mWr : CallM l.prog w K mg base CX0 16 (He.ga K "Scribe") "write" nScW (spScW _ [((He.cT K ("entries_rising", none)).2, qRis)]) := ⟨_, _, hM_write, bM_write, ok_ScW (k := 15) FM_write S mTu cWE⟩
    let mTe : CallM l.prog w K mg base CX0 16 (He.ga K "Scribe") "tear" nScR (spScR _ [((He.cT K ("entries_rising", none)).2, qRis)]) := ⟨_, _, hM_tear, bM_tear, ok_ScR (k := 15) FM_tear S mTu cWT⟩
    let cSO : CallOk l.prog w K mg base 35 "standing_of" pStOf (spStOf _) := ⟨_, _, g35, F35.kp, b35, GST⟩
    let cAS : CallOk l.prog w K mg base 34 "all_standing" pAllSt (spAllSt [((He.cT K ("entries_rising", none)).2, qRis)]) := ⟨_, _, g34, F34.kp, b34, GAL 29⟩
    let mSg : CallM l.prog w K mg base CX0 38 (He.ga K "Scribe") "standing" nScS (spScS _ _) := ⟨_, _, hM_standing, bM_standing, (ok_ScS (k := 35) FM_standing S cSO).mono (by decide)⟩
    let sLe : CallS l.prog w K mg base 34 (He.ga K "Scribe") "__len__" nScB (spScL _) := ⟨_, _, ⟨of_decide_eq_true hle1, hle2⟩, bM___len__, (ok_ScL (k := 1) FM___len__ S m_len).mono (by decide)⟩
    let sRe : CallS l.prog w K mg base 34 (He.ga K "Scribe") "__repr__" nScB (spScP _ _) := ⟨_, _, ⟨of_decide_eq_true hre1, hre2⟩, bM___repr__, ok_ScP (k := 33) FM___repr__ S (D26.call GDO) (D27.call GAO) m_len⟩
    let sSt : CallS l.prog w K mg base 34 (He.ga K "Scribe") "__str__" nScB (spScZ _ _) := ⟨_, _, ⟨of_decide_eq_true hst1, hst2⟩, bM___str__, (ok_ScZ (k := 11) FM___str__ S cBt m_str).mono (by decide)⟩
    let sEq : CallS l.prog w K mg base 34 (He.ga K "Scribe") "__eq__" nScE (spScE K _) := ⟨_, _, ⟨of_decide_eq_true heq1, heq2⟩, bM___eq__, (ok_ScE (k := 1) FM___eq__ S ic m_isinstance).mono (by decide)⟩
    let cMk : CallK l.prog w K mg base (L2.CX l.prog w) 15 "Scribe" (He.ga K "Scribe") nScI (spScI _ _ _) := ⟨_, _, gS, hMk, bM___init__, ok_ScI (k := 14) FM___init__ S nF nA (cFk.mono (by decide)) (cAg.mono (by decide))⟩
    let mTw : CallM l.prog w K mg base CX0 17 (He.ga K "Scribe") "twin" ["self"] (spScN _) := ⟨_, _, hM_twin, bM_twin, ok_ScN (k := 15) FM_twin S cMk m_list⟩
    let cWr : CallOk l.prog w K mg base 39 "_law_written" pLWritten (spLWritten _ [((He.cT K ("entries_rising", none)).2, qRis)]) := D57.call (ok_LWritten (k := 36) D57.F S (cMk.mono (by decide)) (mBk.mono (by decide)) (mWr.mono (by decide)) (mTe.mono (by decide)) (mUn.mono (by decide)) (cMi 36) (cDu.mono (by decide)) (cNE.mono (by decide)) (cDr 37))
    let cTo : CallOk l.prog w K mg base 36 "_law_torn_right" pLTornR (spLTornR _ [((He.cT K ("entries_rising", none)).2, qRis)]) := D59.call (ok_LTornR (k := 34) D59.F S ic (mBk.mono (by decide)) (mWr.mono (by decide)) (mTe.mono (by decide)) (mTw.mono (by decide)) sEq GEQ sLe (cDO.mono (by decide)) (cDr 34) m_len)
    exact ok_law (k := 42) (j := 34) F60 S ic (by decide) (mBk.mono (by decide)) (mSg.mono (by decide)) sEq GEQ sLe sRe sSt (D0.call (ok_cell D0.F m_len)) (D1.call (ok_pen D1.F m_int)) (cBo.mono (by decide)) (cWr.mono (by decide)) (cBt.mono (by decide)) (cBr.mono (by decide)) (cTo.mono (by decide)) (cDy 40) (cAS.mono (by decide)) m_str m_len m_repr m_range
end Deed
open PySem PySem.W PySem.Calls PyProof.Rows
theorem PySem.Challenge.cw_deedsheaf_k74_whole_a_scribe_and_their_b_holds : PySem.Challenge.rw_deedsheaf_k74_whole_a_scribe_and_their_b.Holds := by
  w_on; o_law
  refine HandSHeadRun.head_any (r := OpenLaw.row PySem.Challenge.rw_deedsheaf_k74_whole_a_scribe_and_their_b) (q := view (OpenLaw.row PySem.Challenge.rw_deedsheaf_k74_whole_a_scribe_and_their_b).prog [98]) (H := Deed.hk) (ob := Deed.ob) (M := 12000) (loose := Deed.looseAll) (d := HandSHeadRun.topDef (OpenLaw.row PySem.Challenge.rw_deedsheaf_k74_whole_a_scribe_and_their_b).prog 98) (kwd := []) Deed.ob_eq
    (by kernel_rfl) (fun s => by kernel_rfl) Deed.run (by kernel_rfl) (by kernel_rfl) (by kernel_rfl) (by rfl) (by first | assumption | decide +kernel) (by decide +kernel) ⟨rfl, rfl, rfl, rfl, rfl, by decide +kernel⟩ ?hw ?hc
  case hw => w_witness2
  case hc =>
    refine LamX.walk_ofTsE (l := PySem.Challenge.rw_deedsheaf_k74_whole_a_scribe_and_their_b) (n := 63) (k := 43) (x := "_law_script") (CX := fun _ => L2.CX0) rfl (by decide) (by kernel_rfl) ⟨rfl, by decide, by decide⟩ ?F (fun _ _ _ _ _ z => z)
    intro w mg fa h Y G hmg0
    obtain ⟨K, KX, c, cs⟩ := Y
    have hmg : mg ("law" : PySem.Str) = some (.ref fa) := by
      have e : (HandSHeadRun.topDef (OpenLaw.row PySem.Challenge.rw_deedsheaf_k74_whole_a_scribe_and_their_b).prog 98).name = ("law" : PySem.Str) := by kernel_rfl
      rw [← e]
      exact hmg0
    exact ⟨K, KX, Deed.facts KX G hmg c cs⟩
