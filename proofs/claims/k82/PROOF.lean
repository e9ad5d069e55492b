import PyProof.Rows.All
import Wide.All
import OpenK.AllK
import Wide.FinOn
import KE.SortKeyHeap
import KE.KLam
import HandS.ForMost
import HandS.ForExc
import HandS.Flow
import HandS.Style
import HandS.SortInts
import HandS.SortKw
import HandS.TupAny
import HandS.TupMul
import HandS.Lambda
import HandS.EndTab
import HandS.Head2
import HandS.HeadEnd
import HandS.HeadHook4
import HandS.HeadWalk
import HandS.Walk
import HandS.IsInst
import HandS.Defaults
import HandS.More
import HandS.DictComp
import HandS.ListItems
import HandS.SetFor
import HandS.Strs
import HandS.Zip
import HandS.TupSets
import KE.SortData
import KE.GoesMore
import HandS.Conv
import HandS.WordsDict
import HandS.MakeKw
import HandS.Codes
import KE.KIndexOf
import HandS.TryMany
import HandS.WordsExc
import KE.KExcSuper
import HandS.ClsMeth
import HandS.Nested
import HandS.ExcInit
import PyProof.ReprRoads
import PyProof.Rows.StrJoinMade
import PyProof.StrLawsRepr
import HandS.ExcField
import PySem.Challenge.RW_deedsheaf_k82_texts_of_none
import HandS.FStr
import PyProof.StrLawsChain
import PyProof.Rows.StrSplitJoin
import PyProof.InstSpecial
import PyProof.Conv_bool
import KE.KFmtOwn
import HandS.Records
import HandS.Small
import HandS.OwnEq
import PyProof.InstNe
import KE.DataCmp
import HandS.Text
import KE.IntTextLaws
import KE.KIntText
import PyProof.StrLawsIn
import PyProof.Rows.ReprOcc
import HandS.Iter
import HandS.RaiseMore
import HandS.TryOnly
import HandS.Deep
import KE.KEqSeq
set_option Elab.async false
set_option linter.all false
set_option maxRecDepth 100000
set_option maxHeartbeats 0
set_option pp.maxSteps 1200

namespace Deed
open PySem PySem.Spec PyProof.Rows L2
def topS (i : Nat) : Stmt := PySem.Challenge.pw_deedsheaf_k82_texts_of_none.main.body.getD i (.Pass ⟨0, 0, 0, 0⟩)
/-! ### heaps: all but the pen at p is as it was -/
def Kp (p : Addr) (H H' : Hp) : Prop := ∀ b o, b ≠ p → H b = some o → H' b = some o
theorem Kp.refl (p : Addr) (H : Hp) : Kp p H H := fun _ _ _ h => h
theorem Kp.trans {p : Addr} {H H1 H2 : Hp} (a : Kp p H H1) (b : Kp p H1 H2) : Kp p H H2 := fun c o n h => b c o n (a c o n h)
theorem Kp.new {p q : Addr} {H : Hp} (n : H q = none) (o : HO) : Kp p H (upd H q o) := fun b u _ e => by
  rw [upd_ne (ne_of_none e n)]
  exact e
theorem Kp.put {p : Addr} {H : Hp} (o : HO) : Kp p H (upd H p o) := fun b u n e => by
  rw [upd_ne n]
  exact e
theorem Kp.same {p : Addr} {H H' : Hp} (h : Same H H') : Kp p H H' := fun b o _ e => h b o e
/-- the pen: four whole numbers, the last one a rest -/
def PenAt (H : Hp) (p : Addr) : Prop := ∃ a f c e : Int, H p = some (.lst [.int a, .int f, .int c, .int e]) ∧ 0 ≤ e ∧ e < 1000000007
theorem PenAt.new {p q : Addr} {H : Hp} (h : PenAt H p) (n : H q = none) (o : HO) : PenAt (upd H q o) p := by
  obtain ⟨a, f, c, e, h1, h2⟩ := h
  refine ⟨a, f, c, e, ?_, h2⟩
  rw [upd_ne (ne_of_none h1 n)]
  exact h1
theorem PenAt.ne {p q : Addr} {H : Hp} {o : HO} (h : PenAt H p) (e : H q = some o) (no : ∀ xs, o ≠ .lst xs) : q ≠ p := fun z => by
  obtain ⟨a, f, c, e', h1, _⟩ := h
  rw [z, h1] at e
  exact no _ (Option.some.inj e).symm
theorem PenAt.free {p q : Addr} {H : Hp} (h : PenAt H p) (n : H q = none) : q ≠ p := fun z => by
  obtain ⟨a, f, c, e', h1, _⟩ := h
  rw [z, h1] at n
  cases n
section
variable {P : Program} {w : World} {K : PySem.W.Frag} {mg : Str → Option Value} {base : Heap}
/-! ### the script's cell -/
abbrev sCell : Stmt := topS 48
theorem scCell : FnScope ["_law_script", "_law_k"] ["_law_script", "_law_k"] (defScope sCell) := ⟨rfl, rfl, rfl, by decide +kernel, rfl, by decide +kernel, by decide +kernel⟩
def spCell (K : PySem.W.Frag) : Sp := fun vs H Q _ => ∃ (a : Addr) (ns : List Int) (k : Int), vs = [.ref a, .int k] ∧ SqL K H a (ns.map V.int) ∧ 0 ≤ k ∧ ∀ v : Int, Q (.int v) H
theorem ok_cell {f : Addr} {fd : FuncData} {k : Nat} (F : Fun K "_law_cell_at" "_law_cell_at" sCell f fd) (ml : mg "len" = none) : FnOk P w K mg base CX0 (k + 1) f fd ["_law_script", "_law_k"] (spCell K) := by
  refine F.ok scCell (fun vs H Q E h => ?_) (fun cdv A outer s H vs Q E hr h => ?_)
  · obtain ⟨a, ns, k, rfl, _⟩ := h
    rfl
  · obtain ⟨a, ns, k, rfl, hS, h0, q⟩ := h
    refine ⟨_, pss_cons (ps_if (pt_cmpR op_lt (pv 1) (pe_callB call_len_seq (by rfl) ml PySem.boot_len (pa_cons (pv 0) pa_nil)) (nomark _)) (pss_one (ps_ret (pe_ix ix_list (pv 0) (pv 1) (fun _ _ => rfl)))) pss_nil)
      (pss_one (ps_ret pe_int)), ?_⟩
    have hl : (ns.map V.int).length = ns.length := List.length_map _
    refine ⟨_, rfl, _, rfl, a, _, rfl, .inl hS, _, _, rfl, rfl, _, rfl, ?_⟩
    refine ite2 (fun c => ?_) (fun c => ?_)
    · have c' : k < (((ns.map V.int).length : Nat) : Int) := of_decide_eq_true c
      rw [hl] at c'
      have hk : k.toNat < ns.length := by omega
      have ek : k = ((k.toNat : Nat) : Int) := by omega
      refine ⟨_, rfl, _, rfl, a, _, _, .int ns[k.toNat], rfl, rfl, hS, ?_, q _⟩
      exact at_of ek (by rw [List.getElem?_map, List.getElem?_eq_getElem hk] <;> rfl)
    · exact q 0
/-! ### the pen -/
abbrev sPen : Stmt := topS 47
theorem scPen : FnScope ["_law_cell"] ["_law_cell"] (defScope sPen) := ⟨rfl, rfl, rfl, by decide +kernel, rfl, by decide +kernel, by decide +kernel⟩
def spPen : Sp := fun vs H Q _ => ∃ (c : Int), vs = [.int c] ∧ ∀ p H', Same H H' → H p = none → PenAt H' p → Q (.ref p) H'
theorem ok_pen {f : Addr} {fd : FuncData} {k : Nat} (F : Fun K "_law_pen" "_law_pen" sPen f fd) (mi : mg "int" = none) : FnOk P w K mg base CX0 (k + 1) f fd ["_law_cell"] spPen := by
  refine F.ok scPen (fun vs H Q E h => ?_) (fun cdv A outer s H vs Q E hr h => ?_)
  · obtain ⟨c, rfl, _⟩ := h
    rfl
  · obtain ⟨c, rfl, q⟩ := h
    refine ⟨_, pss_one (ps_ret (pe_lst (pa_cons (pv 0) (pa_cons (pe_callTy call_int1 (by rfl) mi (by decide +kernel) (pa_cons (pe_cmpR op_ge (pv 0) (pe_op op_pow pe_int pe_int) (nomark _)) pa_nil)) (pa_cons pe_int (pa_cons (pe_op op_mod (pv 0) pe_int) pa_nil)))))), ?_⟩
    refine ⟨_, rfl, _, rfl, _, _, rfl, rfl, ⟨by decide, by decide, by decide⟩, _, _, rfl, rfl, .inr ⟨_, rfl, ?_⟩⟩
    refine ⟨_, rfl, _, _, rfl, rfl, (by show (0 : Int) < 1000000007; decide), (by show 4 ≤ sizeLine; decide), fun p hp => ?_⟩
    refine q p _ (fun b o e => ?_) hp ⟨_, _, _, _, upd_same, Int.emod_nonneg _ (by decide), Int.emod_lt_of_pos _ (by decide)⟩
    rw [upd_ne (ne_of_none e hp)]
    exact e
/-! ### a draw -/
abbrev sDraw : Stmt := topS 54
theorem scDraw : FnScope ["_law_pen_here", "_law_bound", "_law_found", "_law_stir"] ["_law_pen_here", "_law_bound"] (defScope sDraw) := ⟨rfl, rfl, rfl, by decide +kernel, rfl, by decide +kernel, by decide +kernel⟩
def spDraw : Sp := fun vs H Q _ => ∃ (p : Addr) (b : Int), vs = [.ref p, .int b] ∧ PenAt H p ∧ 0 < b ∧ b < 1073741824 ∧ ∀ v H', Kp p H H' → PenAt H' p → 0 ≤ v → v < b → Q (.int v) H'
theorem ok_draw {f : Addr} {fd : FuncData} {k : Nat} (F : Fun K "_law_draw" "_law_draw" sDraw f fd) : FnOk P w K mg base CX0 (k + 1) f fd ["_law_pen_here", "_law_bound"] spDraw := by
  refine F.ok scDraw (fun vs H Q E h => ?_) (fun cdv A outer s H vs Q E hr h => ?_)
  · obtain ⟨p, b, rfl, _⟩ := h
    rfl
  · obtain ⟨p, b, rfl, ⟨x, y, c, e, hp, he0, he1⟩, hb0, hb1, q⟩ := h
    refine ⟨_, pss_cons (ps_if (PW.pt (pw_and (pt_cmpR op_eq (pe_ix ix_list (pv 0) pe_int (fun _ _ => rfl)) pe_int (nomark _)) (pw_and1 (pt_cmpR op_gt (pe_ix ix_list (pv 0) pe_int (fun _ _ => rfl)) pe_int (nomark _)))))
        (pss_cons (ps_set (i := 2) scDraw.nd rfl (.inl rfl) (pe_op op_mod (pe_ix ix_list (pv 0) pe_int (fun _ _ => rfl)) (pv 1)))
        (pss_cons (ps_asg (pe_op op_fdiv (pe_ix ix_list (pv 0) pe_int (fun _ _ => rfl)) (pv 1)) (pg_sub (pv 0) pe_int set_list))
        (pss_one (ps_ret (pv 2))))) pss_nil)
      (pss_cons (ps_asg (pe_op op_add (pe_ix ix_list (pv 0) pe_int (fun _ _ => rfl)) pe_int) (pg_sub (pv 0) pe_int set_list))
      (pss_cons (ps_set (i := 3) scDraw.nd rfl (.inl rfl) (pe_op op_mod (pe_op op_mul (pe_op op_add (pe_ix ix_list (pv 0) pe_int (fun _ _ => rfl)) pe_int) (pe_op op_add pe_int (pe_op op_mul pe_int (pe_ix ix_list (pv 0) pe_int (fun _ _ => rfl))))) pe_int))
      (pss_cons (ps_set (i := 3) scDraw.nd rfl (.inl rfl) (pe_op op_mod (pe_op op_add (pe_op op_add (pe_op op_mul (pv 3) (pv 3)) (pe_op op_mul pe_int (pe_ix ix_list (pv 0) pe_int (fun _ _ => rfl)))) pe_int) pe_int))
      (pss_one (ps_ret (pe_op op_mod (pe_op op_fdiv (pe_op op_mod (pe_op op_mul (pv 3) pe_int) pe_int) pe_int) (pv 1))))))), ?_⟩
    have i0 : ∀ u : V, ∀ r : List V, atI (u :: r) 0 = some u := fun u r => atI_nat (j := 0) rfl
    have i1 : ∀ u v : V, ∀ r : List V, atI (u :: v :: r) 1 = some v := fun u v r => atI_nat (j := 1) rfl
    have i2 : ∀ u v w : V, ∀ r : List V, atI (u :: v :: w :: r) 2 = some w := fun u v w r => atI_nat (j := 2) rfl
    have i3 : ∀ u v w z : V, ∀ r : List V, atI (u :: v :: w :: z :: r) 3 = some z := fun u v w z r => atI_nat (j := 3) rfl
    have hS : SqL K H p [.int x, .int y, .int c, .int e] := SqL.of hp
    refine ⟨_, rfl, p, _, _, _, rfl, rfl, hS, i1 _ _ _, rfl, _, rfl, ?_⟩
    refine ite2 (fun c1 => ?_) (fun c1 => ?slow1)
    refine ⟨_, rfl, p, _, _, _, rfl, rfl, hS, i0 _ _, _, _, rfl, rfl, _, rfl, ?_⟩
    refine ite2 (fun c2 => ?_) (fun c2 => ?slow2)
    · refine ⟨_, rfl, p, _, _, _, rfl, rfl, hS, i0 _ _, _, rfl, _, _, rfl, rfl, hb0, ?_⟩
      refine ⟨_, rfl, p, _, _, _, rfl, rfl, hS, i0 _ _, _, rfl, _, _, rfl, rfl, ⟨hb0, hb1⟩, _, rfl, p, _, 0, 0, rfl, rfl, hp, rfl, ?_⟩
      exact ⟨_, rfl, q _ _ (Kp.put _) ⟨_, _, _, _, upd_same, he0, he1⟩ (Int.emod_nonneg _ (by omega)) (Int.emod_lt_of_pos _ hb0)⟩
    all_goals
      refine ⟨_, rfl, p, _, _, _, rfl, rfl, hS, i2 _ _ _ _, _, _, rfl, rfl, _, rfl, p, _, 2, 2, rfl, rfl, hp, rfl, ?_⟩
      have hp1 : (upd H p (.lst [.int x, .int y, .int (c + 1), .int e])) p = some (.lst [.int x, .int y, .int (c + 1), .int e]) := upd_same
      have hS1 : SqL K (upd H p (.lst [.int x, .int y, .int (c + 1), .int e])) p [.int x, .int y, .int (c + 1), .int e] := SqL.of hp1
      refine ⟨_, rfl, p, _, _, _, rfl, rfl, hS1, i3 _ _ _ _ _, _, _, rfl, rfl, _, rfl, p, _, _, _, rfl, rfl, hS1, i2 _ _ _ _, _, _, rfl, rfl, .inl ⟨by decide, by decide⟩, _, _, rfl, rfl, _, _, rfl, rfl, .inl ⟨by omega, by omega⟩, _, _, rfl, rfl, (by show (0 : Int) < 2147483647; decide), ?_⟩
      have r1 := Int.emod_nonneg ((e + 17) * (69621 + 2 * (c + 1))) (b := 2147483647) (by decide)
      have r2 := Int.emod_lt_of_pos ((e + 17) * (69621 + 2 * (c + 1))) (b := 2147483647) (by decide)
      generalize (e + 17) * (69621 + 2 * (c + 1)) % 2147483647 = st at r1 r2
      refine ⟨_, rfl, _, rfl, _, _, rfl, rfl, .inl ⟨by omega, by omega⟩, _, rfl, p, _, _, _, rfl, rfl, hS1, i2 _ _ _ _, _, _, rfl, rfl, .inl ⟨by decide, by decide⟩, _, _, rfl, rfl, _, _, rfl, rfl, _, _, rfl, rfl, (by show (0 : Int) < 2147483629; decide), ?_⟩
      refine ⟨_, rfl, _, _, rfl, rfl, .inr ⟨by decide, by decide⟩, _, _, rfl, rfl, (by show (0 : Int) < 2147483647; decide), _, _, rfl, rfl, ⟨by decide, by decide⟩, _, rfl, _, _, rfl, rfl, hb0, ?_⟩
      exact q _ _ (Kp.put _) ⟨_, _, _, _, upd_same, he0, he1⟩ (Int.emod_nonneg _ (by omega)) (Int.emod_lt_of_pos _ hb0)
end
end Deed

namespace Deed
open PySem PySem.Spec PyProof.Rows L2 LamX
/-! ### the end: the facts by names -/
def mkD (x : Str) (st : Stmt) : He.DefD := ⟨(x, none), x, x, defArgs st, defBody st, defScope st, [], []⟩
def mkDd (x : Str) (st : Stmt) (dfl : List He.Dv) : He.DefD := ⟨(x, none), x, x, defArgs st, defBody st, defScope st, dfl, []⟩
def fnAll : List He.DefD := [mkD "_law_cell_at" (topS 48), mkD "_law_pen" (topS 47), mkD "_law_draw" (topS 54), mkD "_law_day" (topS 57), mkD "_law_folk" (topS 55), mkD "_law_mixed" (topS 56), mkD "_law_few" (topS 58), mkD "_law_deed" (topS 59), mkD "_law_act" (topS 60), mkD "_law_book" (topS 61), mkD "is_whole" (topS 13), mkD "is_within" (topS 14), mkD "is_day" (topS 15), mkD "is_age" (topS 16), mkD "is_person" (topS 17), mkD "is_folk" (topS 18), mkD "is_rising" (topS 19), mkD "is_rising_below" (topS 20), mkD "is_deed_tail" (topS 21), mkD "is_act_tail" (topS 22), mkD "is_entry" (topS 23), mkD "names_fit" (topS 24), mkD "is_book" (topS 25), mkD "entries_rising" (topS 26), mkD "person_text" (topS 32), mkD "part_text" (topS 33), mkD "book_text" (topS 34), mkD "is_number_text" (topS 35), mkD "are_number_texts" (topS 36), mkD "is_list_text" (topS 37), mkD "list_read" (topS 38), mkD "person_read" (topS 39), mkD "folk_read" (topS 40), mkD "deed_tail_read" (topS 41), mkD "tail_read" (topS 42), mkD "entry_read" (topS 43), mkD "parts_read" (topS 44), mkD "book_read" (topS 45), mkD "_law_folk_text" (topS 49), mkD "_law_words" (topS 50), mkD "_law_row" (topS 51), mkD "_law_entry_text" (topS 52), mkD "_law_book_text" (topS 53), mkD "_law_one_sign" (topS 62), mkD "_law_one_row" (topS 63), mkD "_law_same" (topS 64), mkD "_law_read_so" (topS 65), mkD "_law_number" (topS 66), mkD "_law_list" (topS 67), mkD "_law_person_of" (topS 68), mkD "_law_folk_of" (topS 69), mkD "_law_listed" (topS 70), mkD "_law_entry_of" (topS 71), mkD "_law_book_of" (topS 72), mkD "_law_written_so" (topS 73), mkD "_law_thing" (topS 74), mkD "law" (topS 75)]
def faAll : List He.Fa := [.glo "_law_cell_at", .glo "_law_pen", .glo "_law_draw", .glo "_law_day", .glo "_law_folk", .glo "_law_mixed", .glo "_law_few", .glo "_law_deed", .glo "_law_act", .glo "_law_book", .glo "is_whole", .glo "is_within", .glo "is_day", .glo "is_age", .glo "is_person", .glo "is_folk", .glo "is_rising", .glo "is_rising_below", .glo "is_deed_tail", .glo "is_act_tail", .glo "is_entry", .glo "names_fit", .glo "is_book", .glo "entries_rising", .glo "person_text", .glo "part_text", .glo "book_text", .glo "is_number_text", .glo "are_number_texts", .glo "is_list_text", .glo "list_read", .glo "person_read", .glo "folk_read", .glo "deed_tail_read", .glo "tail_read", .glo "entry_read", .glo "parts_read", .glo "book_read", .glo "_law_folk_text", .glo "_law_words", .glo "_law_row", .glo "_law_entry_text", .glo "_law_book_text", .glo "_law_one_sign", .glo "_law_one_row", .glo "_law_same", .glo "_law_read_so", .glo "_law_number", .glo "_law_list", .glo "_law_person_of", .glo "_law_folk_of", .glo "_law_listed", .glo "_law_entry_of", .glo "_law_book_of", .glo "_law_written_so", .glo "_law_thing", .glo "law", .free "range", .free "min", .free "max", .free "tuple", .free "list", .free "len", .free "sorted", .free "int", .free "isinstance", .free "bool", .free "any", .free "all", .free "zip", .free "str", .int "NUMBER" 0, .int "WORD" 4, .int "OF" 5, .int "RESTS" 7, .int "LAST_DAY" 9999, .int "LAST_NUMBER" 30, .int "LAST_HAND" 3, .int "MOST_FOLK" 6, .int "MOST_ENTRIES" 16, .int "MOST_RESTS" 2, .int "MOST_WITNESSES" 3, .int "MOST_FIGURES" 40, .glo "ACT_WORDS", .glo "NoText", .exc "NoText", .exm "NoText" "NoText" true]
def tfAll : List He.Defn := [("entries_rising", none)]
abbrev tsAll : List He.Tab := []
def exAll (K : PySem.W.Frag) : Bool := He.tupB K "ACT_WORDS" [.str "paid", .str "void", .str "undone"]
abbrev rowR : PySem.W.OpenRow := PySem.W.OpenLaw.row PySem.Challenge.rw_deedsheaf_k82_texts_of_none
abbrev hk : PySem.W.Hook := He.hookX 5 faAll fnAll tsAll tfAll exAll
def ob (s : PySem.W.SharedT) : He.AlX := He.obsX 5 faAll fnAll tsAll tfAll exAll (HandSHeadRun.getT s)
theorem ob_eq (s : PySem.W.SharedT) : ob s = hk.obs s.abs := He.obsX_eq (HandSHeadRun.getT_eq s)
def looseAll : List Str := (["NUMBER", "WORD", "OF", "RESTS", "ACT_WORDS", "LAST_DAY", "LAST_NUMBER", "LAST_HAND", "MOST_FOLK", "MOST_ENTRIES", "MOST_RESTS", "MOST_WITNESSES"] : List Str) ++ (["is_whole", "is_within", "is_day", "is_age", "is_person", "is_folk", "is_rising", "is_rising_below", "is_deed_tail", "is_act_tail", "is_entry", "names_fit"] : List Str) ++ (["is_book", "entries_rising", "SheafError", "NoText", "MOST_FIGURES", "person_text", "part_text", "book_text", "is_number_text", "are_number_texts", "is_list_text", "list_read"] : List Str) ++ (["person_read", "folk_read", "deed_tail_read", "tail_read", "entry_read", "parts_read", "book_read", "_law_pen", "_law_cell_at", "_law_folk_text", "_law_words", "_law_row"] : List Str) ++ (["_law_entry_text", "_law_book_text", "_law_draw", "_law_folk", "_law_mixed", "_law_day", "_law_few", "_law_deed", "_law_act", "_law_book", "_law_one_sign", "_law_one_row"] : List Str) ++ (["_law_same", "_law_read_so", "_law_number", "_law_list", "_law_person_of", "_law_folk_of", "_law_listed", "_law_entry_of", "_law_book_of", "_law_written_so", "_law_thing"] : List Str)
theorem run (w : World) : HandSHeadRun.RunEq rowR (PySem.W.view rowR.prog [75]) hk ob 12000 looseAll w := by
  intro os
  kernel_rfl
end Deed

namespace Deed
open PySem PySem.Spec PyProof.Rows L2
/-- a def of the top: where it stands, how its arguments come, its name -/
structure Df (K : PySem.W.Frag) (mg : Str → Option Value) (x : Str) (st : Stmt) (ps : List Str) (f : Addr) (fd : FuncData) : Prop where
  F : Fun K x x st f fd
  b : Binds K fd ps []
  g : mg x = some (.ref f)
theorem am0 {φ : V → Prop} : ∀ y ∈ ([] : List V), φ y := fun _ h => nomatch h
theorem am1 {φ : V → Prop} {x : V} {xs : List V} (h : φ x) (r : ∀ y ∈ xs, φ y) : ∀ y ∈ x :: xs, φ y := fun y hy => (List.mem_cons.mp hy).elim (fun e => e ▸ h) (r y)
/-- an item of a written list at an open place -/
theorem pick {xs : List V} {i : Int} (φ : V → Prop) (h0 : 0 ≤ i) (h1 : i < (xs.length : Int)) (hx : ∀ x ∈ xs, φ x) : ∃ v, atI xs i = some v ∧ φ v := by
  have hk : i.toNat < xs.length := by omega
  exact ⟨xs[i.toNat], at_of (j := i.toNat) (by omega) (List.getElem?_eq_getElem hk), hx _ (List.getElem_mem hk)⟩
/-- an int within bounds -/
def Within (lo hi : Int) (x : V) : Prop := ∃ n : Int, x = .int n ∧ lo ≤ n ∧ n ≤ hi
section
variable {P : Program} {w : World} {K : PySem.W.Frag} {mg : Str → Option Value} {base : Heap} {fDr : Addr} {dDr : FuncData}
abbrev DrawD (K : PySem.W.Frag) (mg : Str → Option Value) := Df K mg "_law_draw" sDraw ["_law_pen_here", "_law_bound"]
/-- a person at x -/
def PersonAt (H : Hp) (x : V) : Prop := ∃ (a : Addr) (b : Int) (d : V), x = .ref a ∧ H a = some (.tup [.int b, d]) ∧ -9999 ≤ b ∧ b ≤ 9999 ∧ (d = .non ∨ ∃ i : Int, d = .int i ∧ b < i ∧ i ≤ 9999)
theorem PersonAt.kp {p : Addr} {H H' : Hp} {x : V} (h : PersonAt H x) (k : Kp p H H') (P : PenAt H p) : PersonAt H' x := by
  obtain ⟨a, b, d, e, h1, r⟩ := h
  exact ⟨a, b, d, e, k _ _ (P.ne h1 fun _ z => by cases z) h1, r⟩
def FolkAt (H : Hp) (t : Addr) (n : Nat) : Prop := ∃ xs : List V, H t = some (.tup xs) ∧ xs.length = n ∧ ∀ x ∈ xs, PersonAt H x
theorem FolkAt.kp {p : Addr} {H H' : Hp} {t : Addr} {n : Nat} (h : FolkAt H t n) (k : Kp p H H') (P : PenAt H p) : FolkAt H' t n := by
  obtain ⟨xs, h1, h2, h3⟩ := h
  exact ⟨xs, k _ _ (P.ne h1 fun _ z => by cases z) h1, h2, fun x hx => (h3 x hx).kp k P⟩
end
end Deed

namespace Deed
open PySem PySem.Spec PyProof.Rows L2
theorem seqIx {i : Int} {n : Nat} (h0 : 0 ≤ i) (h1 : i < n) : seqIndex? i n = some i.toNat := seqIndex_of h0 h1
theorem rising_of {l : List Int} (hn : l.Nodup) (hp : l.Pairwise (· ≤ ·)) : l.Pairwise (· < ·) := by
  induction l with
  | nil => exact .nil
  | cons x r ih =>
    have h1 := List.nodup_cons.mp hn
    have h2 := List.pairwise_cons.mp hp
    refine List.pairwise_cons.mpr ⟨fun y hy => ?_, ih h1.2 h2.2⟩
    have h3 := h2.1 y hy
    have h4 : x ≠ y := fun e => h1.1 (e ▸ hy)
    omega
theorem perm_erase {α : Type} {l : List α} {k : Nat} {y : α} (h : l[k]? = some y) : (y :: l.eraseIdx k).Perm l := by
  induction l generalizing k with
  | nil => simp at h
  | cons a r ih =>
    cases k with
    | zero =>
      have e : a = y := by simpa using h
      subst e
      exact List.Perm.refl _
    | succ k =>
      have h' : r[k]? = some y := by simpa using h
      show (y :: a :: r.eraseIdx k).Perm (a :: r)
      exact (List.Perm.swap a y _).trans ((ih h').cons a)
theorem erase_map {α β : Type} (f : α → β) : ∀ (l : List α) (k : Nat), (l.map f).eraseIdx k = (l.eraseIdx k).map f
  | [], _ => rfl
  | _ :: _, 0 => rfl
  | a :: r, k + 1 => congrArg (List.cons (f a)) (erase_map f r k)
end Deed

namespace Deed
open PySem PySem.Spec PyProof.Rows L2
/-! ### lists of ints compared -/
theorem dp_ints {K : PySem.W.Frag} {H : Hp} : ∀ ns : List Int, DpAll K H (ns.map V.int) (ns.map PyData.int)
  | [] => .nil
  | n :: r => .cons (.int n) (dp_ints r)
theorem lay_ints : ∀ ns : List Int, PyData.canLayAll0 (ns.map PyData.int) = true
  | [] => by simp [PyData.canLayAll0]
  | n :: r => by simp [PyData.canLayAll0, PyData.canLay0, lay_ints r]
theorem depth_ints : ∀ ns : List Int, PyData.depthAll (ns.map PyData.int) ≤ 1
  | [] => by simp [PyData.depthAll]
  | n :: r => by
    have h := depth_ints r
    simp only [List.map_cons, PyData.depthAll, PyData.depth]
    omega
theorem shaped_ints (ns : List Int) : SeqAt.shaped (.list (ns.map PyData.int)) = true := by
  have h1 := depth_ints ns
  have h2 : PyData.depth (.list (ns.map PyData.int)) ≤ 64 := by
    simp only [PyData.depth]
    omega
  show (PyData.canLay0 (.list (ns.map PyData.int)) && decide (PyData.depth (.list (ns.map PyData.int)) ≤ 64)) = true
  rw [Bool.and_eq_true]
  exact ⟨by simp only [PyData.canLay0]; exact lay_ints ns, decide_eq_true h2⟩
theorem eqvAll_ints : ∀ ns ms : List Int, PyData.eqvAll (ns.map PyData.int) (ms.map PyData.int) = decide (ns = ms)
  | [], [] => by simp [PyData.eqvAll]
  | [], _ :: _ => by simp [PyData.eqvAll]
  | _ :: _, [] => by simp [PyData.eqvAll]
  | n :: r, m :: q => by
    simp only [List.map_cons, PyData.eqvAll, PyData.eqv, eqvAll_ints r q]
    by_cases h : n = m
    · subst h
      simp
    · simp [h]
theorem eqv_ints (ns ms : List Int) : PyData.eqv (.list (ns.map PyData.int)) (.list (ms.map PyData.int)) = decide (ns = ms) := by
  simp only [PyData.eqv]
  exact eqvAll_ints ns ms
theorem mem_inV {n : Int} {ns : List Int} : inV (.int n) (ns.map V.int) = decide (n ∈ ns) := by
  induction ns with
  | nil => simp [inV]
  | cons m r ih =>
    have e : inV (.int n) ((m :: r).map V.int) = (eqV (.int m) (.int n) || inV (.int n) (r.map V.int)) := by simp [inV]
    have e2 : eqV (.int m) (.int n) = decide (m = n) := by
      first | rfl | simp [eqV] | (unfold eqV; simp)
    rw [e, ih, e2]
    by_cases h : m = n
    · subst h
      simp
    · have h' : ¬ n = m := fun z => h z.symm
      simp [h, h']
theorem flat_ints (ns : List Int) : (ns.map V.int).all flatV = true := by
  induction ns with
  | nil => rfl
  | cons n r ih =>
    rw [List.map_cons, List.all_cons, ih]
    rfl
/-! ### entries -/
inductive Kd where
  | deed (g t : Int) (rs ws : List Int)
  | act (x : Str) (o : Int)
structure En where
  num : Int
  day : Int
  wri : Int
  hand : Int
  kd : Kd
def En.isDeed (e : En) : Bool := match e.kd with
  | .deed _ _ _ _ => true
  | .act _ _ => false
/-- the entry e at the address a -/
def EntAt (H : Hp) (a : Addr) (e : En) : Prop := match e.kd with
  | .deed g t rs ws => ∃ r w : Addr, H a = some (.tup [.int e.num, .int e.day, .int e.wri, .int e.hand, .str "deed", .int g, .int t, .ref r, .ref w]) ∧ H r = some (.tup (rs.map V.int)) ∧ H w = some (.tup (ws.map V.int))
  | .act x o => H a = some (.tup [.int e.num, .int e.day, .int e.wri, .int e.hand, .str x, .int o])
/-- all that isn't a list is kept -/
def KpT (H H' : Hp) : Prop := ∀ b xs, H b = some (.tup xs) → H' b = some (.tup xs)
theorem Kp.tup {p : Addr} {H H' : Hp} (k : Kp p H H') (P : PenAt H p) : KpT H H' := fun b xs e => k _ _ (P.ne e fun _ z => by cases z) e
theorem Same.tup {H H' : Hp} (k : Same H H') : KpT H H' := fun b xs e => k _ _ e
theorem KpT.trans {H H1 H2 : Hp} (a : KpT H H1) (b : KpT H1 H2) : KpT H H2 := fun c o h => b c o (a c o h)
theorem EntAt.kp {H H' : Hp} {a : Addr} {e : En} (h : EntAt H a e) (k : KpT H H') : EntAt H' a e := by
  unfold EntAt at h ⊢
  cases hk : e.kd with
  | deed g t rs ws =>
    rw [hk] at h
    obtain ⟨r, w, h1, h2, h3⟩ := h
    exact ⟨r, w, k _ _ h1, k _ _ h2, k _ _ h3⟩
  | act x o =>
    rw [hk] at h
    exact k _ _ h
def EnOk (n : Nat) (ds as : List Int) (e : En) : Prop := (0 ≤ e.day ∧ e.day ≤ 9999) ∧ (0 ≤ e.wri ∧ e.wri ≤ 9999) ∧ (0 ≤ e.hand ∧ e.hand ≤ 3) ∧ match e.kd with
  | .deed g t rs ws => (0 ≤ g ∧ g < n) ∧ (0 ≤ t ∧ t < n) ∧ g ≠ t ∧ rs.length ≤ 2 ∧ rs.Pairwise (· < ·) ∧ (∀ r ∈ rs, r ∈ ds ∧ r < e.num) ∧ ws.length ≤ 3 ∧ ws.Pairwise (· < ·) ∧ ∀ x ∈ ws, 0 ≤ x ∧ x < n ∧ x ≠ g ∧ x ≠ t
  | .act x o => ((x = "undone" ∧ o ∈ as) ∨ ((x = "paid" ∨ x = "void") ∧ o ∈ ds)) ∧ o < e.num
theorem EnOk.mono {n : Nat} {ds as ds' as' : List Int} {e : En} (h : EnOk n ds as e) (h1 : ∀ x ∈ ds, x ∈ ds') (h2 : ∀ x ∈ as, x ∈ as') : EnOk n ds' as' e := by
  unfold EnOk at h ⊢
  obtain ⟨a, b, c, d⟩ := h
  refine ⟨a, b, c, ?_⟩
  cases hk : e.kd with
  | deed g t rs ws =>
    rw [hk] at d
    obtain ⟨d1, d2, d3, d4, d5, d6, d7⟩ := d
    exact ⟨d1, d2, d3, d4, d5, fun r hr => ⟨h1 _ (d6 r hr).1, (d6 r hr).2⟩, d7⟩
  | act x o =>
    rw [hk] at d
    obtain ⟨d1, d2⟩ := d
    refine ⟨?_, d2⟩
    rcases d1 with ⟨z, m⟩ | ⟨z, m⟩
    · exact .inl ⟨z, h2 _ m⟩
    · exact .inr ⟨z, h1 _ m⟩
/-- the built-ins' names are the built-ins' -/
structure Bi (mg : Str → Option Value) : Prop where
  range : mg "range" = none
  min : mg "min" = none
  max : mg "max" = none
  tuple : mg "tuple" = none
  list : mg "list" = none
  len : mg "len" = none
  sorted : mg "sorted" = none
  int : mg "int" = none
end Deed

namespace Deed
open PySem PySem.Spec PyProof.Rows L2
def rLenS (K : PySem.W.Frag) : List V → Hp → VK → Prop := fun xs H Q => ∃ p ys, xs = [.ref p] ∧ (SqL K H p ys ∨ SqT K H p ys) ∧ Q (.int ys.length) H
section
variable {P : Program} {w : World} {K : PySem.W.Frag} {mg : Str → Option Value} {base : Heap} {fDr : Addr} {dDr : FuncData}
/-! ### in another order -/
abbrev sMixed : Stmt := topS 56
abbrev nMixed : List Str := ["_law_pen_here", "_law_some", "_law_left", "_law_k"]
theorem scMixed : FnScope nMixed ["_law_pen_here", "_law_some"] (defScope sMixed) := ⟨rfl, rfl, rfl, by decide +kernel, rfl, by decide +kernel, by decide +kernel⟩
def spMixed (K : PySem.W.Frag) : Sp := fun vs H Q _ => ∃ (p a : Addr) (xs : List V), vs = [.ref p, .ref a] ∧ PenAt H p ∧ (SqL K H a xs ∨ SqT K H a xs) ∧ xs.length ≤ 1000 ∧
  ∀ l (ys : List V) H', Kp p H H' → PenAt H' p → H l = none → H' l = some (.lst ys) → ys.Perm xs → Q (.ref l) H'
theorem ok_mixed {f : Addr} {fd : FuncData} {k : Nat} (F : Fun K "_law_mixed" "_law_mixed" sMixed f fd) (D : DrawD K mg fDr dDr) (B : Bi mg) : FnOk P w K mg base CX0 (k + 2) f fd ["_law_pen_here", "_law_some"] (spMixed K) := by
  have G : FnOk P w K mg base CX0 (k + 1) fDr dDr ["_law_pen_here", "_law_bound"] spDraw := ok_draw D.F
  refine F.ok scMixed (fun vs H Q E h => ?_) (fun cdv A outer s H vs Q E hr h => ?_)
  · obtain ⟨p, a, xs, rfl, _⟩ := h
    rfl
  · obtain ⟨p, a, xs, rfl, hP, hS, hxl, q⟩ := h
    refine ⟨_, pss_cons (ps_set (i := 2) scMixed.nd rfl (.inr rfl) (pe_callTy call_list_of (by rfl) B.list (by decide +kernel) (pa_cons (pv 1) pa_nil)))
      (pss_one (ps_ret (pe_lc (own := [("_law_k", 3)]) (g := gName 3) (by rfl) scMixed.nd (pi_range1 (by rfl) B.range (pa_cons (pe_callB call_len_seq (by rfl) B.len PySem.boot_len (pa_cons (pv 2) pa_nil)) pa_nil)) (blkOk_by (own := [("_law_k", 3)]) (N := nMixed) (sc := defScope sMixed) (by decide +kernel)) (fun _ _ _ _ _ => pg_name (i := 3) scMixed.nd rfl (Or.inl rfl)) (fun _ _ _ _ _ => pts_nil)
        (fun _ _ _ _ _ => show PE _ _ (tBM K "list" rPopAt (tVar 2) (tCons (tCall spDraw [] E0 (tCons (tVar 0) (tCons (tCB (rLenS K) (tCons (tVar 2) tNil)) tNil))) tNil)) from pe_bm PySem.F.plainAttrs_list PySem.F.slot_list_pop PySem.F.type_list_pop mt_popAt (pv 2) (pa_cons (pe_call G hr (by rfl) D.g D.F.kp D.b .nil pass0 (pa_cons (pv 0) (pa_cons (pe_callB call_len_seq (by rfl) B.len PySem.boot_len (pa_cons (pv 2) pa_nil)) pa_nil))) pa_nil))))), ?_⟩
    refine ⟨_, rfl, a, _, rfl, hS, fun l hl => ?_⟩
    have nl : l ≠ p := hP.free hl
    have el : (upd H l (.lst xs)) l = some (.lst xs) := upd_same
    refine ⟨_, rfl, l, xs, rfl, .inl (SqL.of el), _, rfl, by omega, by omega, fun o no => ?_⟩
    have no' : o ≠ p := (hP.new hl _).free no
    have nlo : l ≠ o := fun z => by
      rw [← z, el] at no
      cases no
    have hno : H o = none := by
      rw [upd_ne nlo.symm] at no
      exact no
    refine lc_range (lo := 0) (n := ((xs.length : Nat) : Int).toNat) (fun i H' => ∃ ys ls : List V, H' o = some (.lst ys) ∧ H' l = some (.lst ls) ∧ Kp p H H' ∧ PenAt H' p ∧ ys.length = i ∧ (ys ++ ls).Perm xs)
      ⟨[], xs, upd_same, by rw [upd_ne nlo]; exact el, (Kp.new hl _).trans (Kp.new no _), (hP.new hl _).new no _, rfl, List.Perm.refl _⟩ ?_ ?_
    · rintro i H' hi ⟨ys, ls, e1, e2, k', P', hyl, hpm⟩
      have hll : ls.length = xs.length - i := by
        have := hpm.length_eq
        rw [List.length_append] at this
        omega
      refine ⟨rfl, ?_⟩
      unfold tYes
      dsimp only
      rw [if_pos rfl]
      refine ⟨_, rfl, .inl ⟨rfl, _, SqL.of e2⟩, _, rfl, _, rfl, l, ls, rfl, .inl (SqL.of e2), p, _, rfl, P', by omega, by omega, fun v2 H2 k2 P2 a2 b2 => ?_⟩
      have e1' := k2 _ _ no' e1
      have e2' := k2 _ _ nl e2
      have hk : v2.toNat < ls.length := by omega
      refine ⟨l, _, v2, v2.toNat, ls[v2.toNat], rfl, rfl, e2', by omega, by omega, seqIx a2 (by omega), List.getElem?_eq_getElem hk, ?_⟩
      refine ⟨ys, by rw [upd_ne nlo.symm]; exact e1', small1000 (by omega), ys ++ [ls[v2.toNat]], ls.eraseIdx v2.toNat, upd_same, by rw [upd_ne nlo, upd_same], fun b z n1 e => ?_, ?_, ?_, ?_⟩
      · rw [upd_ne (ne_of_none e hno), upd_ne (ne_of_none e hl)]
        exact (k'.trans k2) _ _ n1 e
      · obtain ⟨x1, x2, x3, x4, z1, z2⟩ := P2
        exact ⟨x1, x2, x3, x4, by rw [upd_ne no'.symm, upd_ne nl.symm]; exact z1, z2⟩
      · rw [List.length_append, hyl]
        rfl
      · have h1 : (ls[v2.toNat] :: ls.eraseIdx v2.toNat).Perm ls := perm_erase (List.getElem?_eq_getElem hk)
        refine List.Perm.trans ?_ hpm
        rw [List.append_assoc]
        exact List.Perm.append_left ys h1
    · rintro H' ⟨ys, ls, e1, e2, k', P', hyl, hpm⟩
      refine q o ys H' k' P' hno e1 ?_
      have h0 : ls = [] := by
        have := hpm.length_eq
        rw [List.length_append] at this
        exact List.length_eq_zero_iff.mp (by omega)
      rw [h0, List.append_nil] at hpm
      exact hpm
end
end Deed

namespace Deed
open PySem PySem.Spec PyProof.Rows L2
theorem perm_pairs {α β : Type} (f : α → β) {ys xs : List β} (h : ys.Perm xs) : ∀ zs : List α, xs = zs.map f → ∃ zs' : List α, ys = zs'.map f ∧ zs'.Perm zs := by
  induction h with
  | nil =>
    intro zs e
    cases zs with
    | nil => exact ⟨[], rfl, List.Perm.refl _⟩
    | cons z r => cases e
  | cons x _ ih =>
    intro zs e
    cases zs with
    | nil => cases e
    | cons z r =>
      rw [List.map_cons] at e
      injection e with e1 e2
      obtain ⟨zs', h1, h2⟩ := ih r e2
      exact ⟨z :: zs', by rw [List.map_cons, ← h1, e1], h2.cons z⟩
  | swap x y l =>
    intro zs e
    match zs, e with
    | [], e => cases e
    | [_], e => cases e
    | a :: b :: r, e =>
      rw [List.map_cons, List.map_cons] at e
      injection e with e1 e2
      injection e2 with e2 e3
      exact ⟨b :: a :: r, by rw [List.map_cons, List.map_cons, ← e1, ← e2, ← e3], List.Perm.swap _ _ _⟩
  | trans _ _ ih1 ih2 =>
    intro zs e
    obtain ⟨z1, h1, h2⟩ := ih2 zs e
    obtain ⟨z2, h3, h4⟩ := ih1 z1 h1
    exact ⟨z2, h3, h4.trans h2⟩
def dn (es : List En) : List Int := (es.filter (·.isDeed)).map (·.num)
def an (es : List En) : List Int := (es.filter (fun e => !e.isDeed)).map (·.num)
theorem dn_snoc (es : List En) (e : En) : dn (es ++ [e]) = dn es ++ (if e.isDeed then [e.num] else []) := by
  unfold dn
  rw [List.filter_append, List.map_append]
  cases h : e.isDeed <;> simp [List.filter, h]
theorem an_snoc (es : List En) (e : En) : an (es ++ [e]) = an es ++ (if e.isDeed then [] else [e.num]) := by
  unfold an
  rw [List.filter_append, List.map_append]
  cases h : e.isDeed <;> simp [List.filter, h]
theorem dn_sub (es : List En) : ∀ x ∈ dn es, x ∈ es.map (·.num) := fun x hx => by
  obtain ⟨e, he, rfl⟩ := List.mem_map.mp hx
  exact List.mem_map.mpr ⟨e, (List.mem_filter.mp he).1, rfl⟩
theorem an_sub (es : List En) : ∀ x ∈ an es, x ∈ es.map (·.num) := fun x hx => by
  obtain ⟨e, he, rfl⟩ := List.mem_map.mp hx
  exact List.mem_map.mpr ⟨e, (List.mem_filter.mp he).1, rfl⟩
theorem dn_nodup {es : List En} (h : (es.map (fun e => e.num)).Nodup) : (dn es).Nodup := by
  have h1 : (es.filter (fun e => e.isDeed)).Sublist es := List.filter_sublist
  exact (h1.map (fun e => e.num)).nodup h
theorem dn_len (es : List En) : (dn es).length ≤ es.length := by
  unfold dn
  rw [List.length_map]
  exact List.length_filter_le _ _
theorem an_len (es : List En) : (an es).length ≤ es.length := by
  unfold an
  rw [List.length_map]
  exact List.length_filter_le _ _
theorem mem_dn {es : List En} {x : Int} : x ∈ dn es ↔ ∃ e ∈ es, e.isDeed = true ∧ e.num = x := by
  unfold dn
  simp only [List.mem_map, List.mem_filter]
  constructor
  · rintro ⟨e, ⟨h1, h2⟩, h3⟩
    exact ⟨e, h1, h2, h3⟩
  · rintro ⟨e, h1, h2, h3⟩
    exact ⟨e, ⟨h1, h2⟩, h3⟩
theorem mem_an {es : List En} {x : Int} : x ∈ an es ↔ ∃ e ∈ es, e.isDeed = false ∧ e.num = x := by
  unfold an
  simp only [List.mem_map, List.mem_filter, Bool.not_eq_true']
  constructor
  · rintro ⟨e, ⟨h1, h2⟩, h3⟩
    exact ⟨e, h1, h2, h3⟩
  · rintro ⟨e, h1, h2, h3⟩
    exact ⟨e, ⟨h1, h2⟩, h3⟩
/-- entries of a book of n folk -/
structure BkOk (n : Nat) (es : List En) : Prop where
  nd : (es.map (·.num)).Nodup
  rng : ∀ e ∈ es, 0 ≤ e.num ∧ e.num ≤ 30
  ok : ∀ e ∈ es, EnOk n (dn es) (an es) e
theorem BkOk.perm {n : Nat} {es es' : List En} (h : BkOk n es) (p : es'.Perm es) : BkOk n es' := by
  refine ⟨(p.map _).nodup_iff.mpr h.nd, fun e he => h.rng e (p.mem_iff.mp he), fun e he => (h.ok e (p.mem_iff.mp he)).mono (fun x hx => ?_) fun x hx => ?_⟩
  · obtain ⟨e', h1, h2⟩ := mem_dn.mp hx
    exact mem_dn.mpr ⟨e', p.mem_iff.mpr h1, h2⟩
  · obtain ⟨e', h1, h2⟩ := mem_an.mp hx
    exact mem_an.mpr ⟨e', p.mem_iff.mpr h1, h2⟩
def En.word (e : En) : Str := match e.kd with
  | .deed _ _ _ _ => "deed"
  | .act x _ => x
theorem EnOk.word {n : Nat} {ds as : List Int} {e : En} (h : EnOk n ds as e) : e.word = "deed" ↔ e.isDeed = true := by
  unfold En.word En.isDeed
  cases hk : e.kd with
  | deed g t rs ws => simp
  | act x o =>
    have h4 := h.2.2.2
    rw [hk] at h4
    simp only [Bool.false_eq_true, iff_false]
    rcases h4.1 with ⟨z, _⟩ | ⟨z | z, _⟩ <;> rw [z] <;> decide
/-- the first places of an entry -/
theorem EntAt.tup {H : Hp} {a : Addr} {e : En} (h : EntAt H a e) : ∃ xs, H a = some (.tup xs) ∧ atI xs 0 = some (.int e.num) ∧ atI xs 1 = some (.int e.day) ∧ atI xs 2 = some (.int e.wri) ∧ atI xs 3 = some (.int e.hand) ∧ atI xs 4 = some (.str e.word) := by
  unfold EntAt at h
  unfold En.word
  cases hk : e.kd with
  | deed g t rs ws =>
    rw [hk] at h
    obtain ⟨r, w, h1, _⟩ := h
    exact ⟨_, h1, atI_nat (j := 0) rfl, atI_nat (j := 1) rfl, atI_nat (j := 2) rfl, atI_nat (j := 3) rfl, atI_nat (j := 4) rfl⟩
  | act x o =>
    rw [hk] at h
    exact ⟨_, h, atI_nat (j := 0) rfl, atI_nat (j := 1) rfl, atI_nat (j := 2) rfl, atI_nat (j := 3) rfl, atI_nat (j := 4) rfl⟩
theorem FolkAt.kpT {H H' : Hp} {t : Addr} {n : Nat} (h : FolkAt H t n) (k : KpT H H') : FolkAt H' t n := by
  obtain ⟨xs, h1, h2, h3⟩ := h
  refine ⟨xs, k _ _ h1, h2, fun x hx => ?_⟩
  obtain ⟨a, b, d, e, h4, r⟩ := h3 x hx
  exact ⟨a, b, d, e, k _ _ h4, r⟩
theorem KpT.lst {H : Hp} {l : Addr} {xs : List V} (e : H l = some (.lst xs)) (o : HO) : KpT H (upd H l o) := fun b ys h => by
  have nb : b ≠ l := fun z => by
    rw [z, e] at h
    cases h
  rw [upd_ne nb]
  exact h
theorem KpT.refl (H : Hp) : KpT H H := fun _ _ h => h
theorem Kp.over {p l : Addr} {H H' : Hp} (k : Kp p H H') (n : H l = none) (o : HO) : Kp p H (upd H' l o) := fun b u n1 e => by
  rw [upd_ne (ne_of_none e n)]
  exact k _ _ n1 e
theorem PenAt.put {p l : Addr} {H : Hp} (h : PenAt H p) (n : l ≠ p) (o : HO) : PenAt (upd H l o) p := by
  obtain ⟨x1, x2, x3, x4, z1, z2⟩ := h
  exact ⟨x1, x2, x3, x4, by rw [upd_ne n.symm]; exact z1, z2⟩
abbrev refs (zs : List (Addr × En)) : List V := zs.map fun z => .ref z.1
abbrev ens (zs : List (Addr × En)) : List En := zs.map (·.2)
/-- a book at b -/
structure BookAt (H : Hp) (b fk t : Addr) (n : Nat) (age : Int) (zs : List (Addr × En)) : Prop where
  at_ : H b = some (.tup [.ref fk, .int age, .ref t])
  folk : FolkAt H fk n
  n2 : 1 ≤ n
  n6 : n ≤ 6
  age0 : 0 ≤ age
  age1 : age ≤ 9999
  ents : H t = some (.tup (refs zs))
  ent : ∀ z ∈ zs, EntAt H z.1 z.2
  ok : BkOk n (ens zs)
  len : zs.length ≤ 16
theorem BookAt.kp {H H' : Hp} {b fk t : Addr} {n : Nat} {age : Int} {zs : List (Addr × En)} (h : BookAt H b fk t n age zs) (k : KpT H H') : BookAt H' b fk t n age zs :=
  ⟨k _ _ h.at_, h.folk.kpT k, h.n2, h.n6, h.age0, h.age1, k _ _ h.ents, fun z hz => (h.ent z hz).kp k, h.ok, h.len⟩
end Deed

namespace Deed
open PySem PySem.Spec PySem.W PyProof.Rows L2 LamX
/-! ### sorted(e, key=lambda x: x[0]) of a list or tuple of tuples -/
section
variable {prog : Program} {w : World} {A : Around} {E : Value → Shared → Prop} {s : Shared}
theorem collectT {l : Addr} {vs : List Value} {Q : List Value → Shared → Prop} (ht : s.heap.IsTuple l vs.toArray) (hsz : vs.length ≤ sizeLine)
    (h : Q vs { s with heap := (s.heap.push (seqObj "list" #[] 0)).update s.heap.objs.size (Obj.mapSeq (· ++ vs.toArray)) }) : wpAny (model prog w) A (collect (.ref l)) Q E s := by
  obtain ⟨ob, g0, gc, ep, gd⟩ := id ht
  have g1 : (s.heap.push (seqObj "list" #[] 0)).get? l = some ob := Heap.get?_push_of_some _ g0
  unfold collect
  refine wpAny_bind (m := _) (wpAny_runValue (codeAny_builtin entry_proto_collect' ?_))
  show wpAny _ _ (do again (.builtin "list.__iadd__" ⟨[← newList [], Value.ref l], []⟩)) _ _ s
  refine wpAny_bind (wpAny_newList (wpAny_pure ⟨Code.quiet_builtin _ (by decide +kernel), (codeAny_builtin entry_list_iadd' ?_)⟩))
  show wpAny _ _ (Builtin.List.listExtendWith (.ref s.heap.objs.size) (Value.ref l) (.ref s.heap.objs.size)) _ _ { s with heap := s.heap.push (seqObj "list" #[] 0) }
  unfold Builtin.List.listExtendWith
  refine wpAny_bind (wpAny_typeOf (T := "tuple") ⟨ob, g1, gc⟩ ?_)
  have tt : (Value.type "tuple" == Value.type "tuple") = true := by rfl
  rw [if_pos (by simp [tt])]
  refine wpAny_bind (listItems_at g1 gd ?_)
  refine wpAny_bind (listItems_at (n := 0) (xs := #[]) (Heap.get?_push_size _ rfl) rfl ?_)
  rw [if_neg (fun z => by simp at z)]
  refine wpAny_bind (listUpdate_at (n := 0) (xs := #[]) (Heap.get?_push_size _ rfl) rfl ?_ (Nat.zero_le _) (by show (#[] ++ vs.toArray).size ≤ sizeLine + 1; simp only [Array.size_append, List.size_toArray, List.length_nil]; omega))
  refine wpAny_pure (?_)
  show wpAny (model prog w) A (do let o ← load s.heap.objs.size; match o.data with | .seq xs _ => pure xs.toList | _ => unsupported "internal:collect") Q E { s with heap := (s.heap.push (seqObj "list" #[] 0)).update s.heap.objs.size (Obj.mapSeq (· ++ vs.toArray)) }
  refine wpAny_bind (wpAny_load (get?_update_seq (Heap.get?_push_size _ rfl) _) (?_))
  show wpAny _ _ (pure (((#[] : Array Value) ++ vs.toArray).toList)) Q E _
  rw [show (((#[] : Array Value) ++ vs.toArray).toList) = vs by simp]
  exact wpAny_pure h
theorem collectS {l : Addr} {vs : List Value} {Q : List Value → Shared → Prop} (hl : s.heap.IsList l vs.toArray ∨ s.heap.IsTuple l vs.toArray) (hsz : vs.length ≤ sizeLine)
    (h : Q vs { s with heap := (s.heap.push (seqObj "list" #[] 0)).update s.heap.objs.size (Obj.mapSeq (· ++ vs.toArray)) }) : wpAny (model prog w) A (collect (.ref l)) Q E s := by
  rcases hl with hl | hl
  · exact collect_list hl h hsz
  · exact collectT hl hsz h
/-- sorted(e, key=f), e a list or a tuple, the keys ints -/
theorem sortedK {β : Type} {l f : Addr} {vs : List Value} {bs : List β} {R : Value → β → Prop} {Q : Value → Shared → Prop} (k : β → Int) (hl : s.heap.IsList l vs.toArray ∨ s.heap.IsTuple l vs.toArray) (e : EachIs R vs bs) (hL : bs.length ≤ sizeLine) (hu : A.units + 66 < cLine)
    (turn : ∀ (v : Value) (x : β), R v x → x ∈ bs → ∀ (h : Heap) (tk : Nat), (∀ b o, s.heap.get? b = some o → h.get? b = some o) →
      wpAny (model prog w) A.in1.in1 (call (.ref f) [v]) (KeyPure (.int (k x)) { s with heap := h, toks := tk }) (fun _ _ => False) { s with heap := h, toks := tk })
    (h : ∀ out c h' tk, (∀ b o, s.heap.get? b = some o → h'.get? b = some o) → h'.get? (s.heap.objs.size + 1) = some (seqObj "list" (List.toArray out) c) → out.length = bs.length → EachIs R out (bs.mergeSort (dataLe false fun x => .int (k x))) →
      Q (.ref (s.heap.objs.size + 1)) { s with heap := h', toks := tk }) :
    wpAny (model prog w) A (call (.builtin "sorted") [.ref l] [(Str.ofString "key", .ref f)]) Q E s := by
  have hv : vs.length ≤ sizeLine := by rw [e.length]; exact hL
  have up : ∀ {g : Heap}, KeepsBut (s.heap.objs.size + 1) (copyHeap s.heap vs) g → ∀ b o, s.heap.get? b = some o → g.get? b = some o := fun kp b o z =>
    kp b o (Nat.ne_of_lt (Nat.lt_succ_of_lt (Heap.lt_size z))) (copyHeap_old z)
  have ez : ((s.heap.push (seqObj "list" #[] 0)).update s.heap.objs.size (Obj.mapSeq (· ++ vs.toArray))).objs.size = s.heap.objs.size + 1 := by rw [Heap.size_update, size_push']
  refine call_function_entry_kw kind_sorted plain_sorted entry_sorted (ksk_s1 _ _) ?_
  unfold Builtin.«sorted»
  refine wpAny_bind (m := checkCount "sorted" 1 1 _) (wpAny_pure (?_))
  refine wpAny_bind (collectS hl hv ?_)
  refine wpAny_bind (wpAny_newList (?_) hv)
  show wpAny _ _ _ _ _ { s with heap := copyHeap s.heap vs }
  rw [ez]
  refine wpAny_bind (wpAny_holding (wpAny_call_entry_kw slot_list_sort ⟨_, copyHeap_at s.heap vs, rfl⟩ entry_list_sort (?body) (ksk_l1 _ _)))
  case body =>
    show wpAny (model prog w) A.in1.in1 (Builtin.«list.sort» ⟨[.ref (s.heap.objs.size + 1)], [(Str.ofString "key", .ref f)]⟩) _ _ _
    rw [ksk_t1]
    refine keyH_tree (kz := bs.map fun x => PyData.int (k x)) (s := { s with heap := copyHeap s.heap vs }) (copyHeap_at s.heap vs) (by rw [List.length_map]; exact e.length.symm) hv (AllAlike.of fun _ _ => by simp [alike]) ?srt (fun d hd => ?dep)
      (keyH_turns (k := fun x => PyData.int (k x)) (s := { s with heap := copyHeap s.heap vs }) e fun v x hR hx h tk kp => turn v x hR hx h tk (up kp)) fun h' tk out c kp hD ko => ?fin
    case srt => exact Sortable.others fun _ => ⟨(fun z => nomatch z), (fun _ z => nomatch z)⟩
    case dep =>
      obtain ⟨x, _, rfl⟩ := List.mem_map.mp hd
      show A.units + 1 + 1 + PyData.depth (.int (k x)) < cLine
      simp only [PyData.depth]
      omega
    case fin =>
      exact ⟨_, rfl, wpAny_pure ⟨_, rfl, h out c h' tk (up kp) hD ((ko.length (by rw [List.length_map]; exact e.length.symm)).trans e.length) (keyedOut_each (fun x => PyData.int (k x)) ko e)⟩⟩
/-- the call of the lambda -/
theorem lam_key {f c' t : Addr} {x q : Str} {params : Arguments} {ix : Expr} {scope : Scope} {cl : List (Str × Addr)} {pm ctv : Value} {p1 p3 : Pos} {items : Array Value} {kk : Int} {u : Tok} {mg : Str → Option Value}
    (of : s.heap.get? f = some (kla_obj "<lambda>" q params (.Subscript (.Name x p1) ix p3) scope cl pm c' ctv)) (hcd : s.heap.CodeRec (.ref c') q) (hroom : A.depth < recursionLimit) (lim : s.heap.NoLimit) (ns : s.heap.Ns mainGlobals mg)
    (hk : scope.kind = .function) (hco : scope.isCoroutine = false) (hgen : scope.isGenerator = false) (hcell : ∀ y ∈ scope.names, y.2 ≠ .cell) (hloc : scope.names.lookup x = some .local)
    (hbind : ∀ v : Value, bindArgs (kla_fn "<lambda>" q params (.Subscript (.Name x p1) ix p3) scope cl pm (.ref c') ctv) ⟨[v], []⟩ = pure [(x, v)])
    (hix : ∀ (env : Env) (A : Around) (E : Value → Shared → Prop) (s' : Shared) (Q : Value → Shared → Prop), env.scope = scope → env.globals = mainGlobals → s'.heap.Ns mainGlobals mg → (∀ u tk, Q (.int 0 u) { s' with toks := tk }) → wpAny (model prog w) A (eval ix env) Q E s')
    (hpl : PlainIx ix) (hd : (x == ("__debug__" : Str)) = false) (ht : s.heap.IsTuple t items) (hx : items[0]? = some (.int kk u)) :
    wpAny (model prog w) A (call (.ref f) [.ref t]) (KeyPure (.int kk) s) (fun _ _ => False) s := by
  refine wpAny_call (kla_callFunE hroom of rfl hco hgen rfl hcd ?_)
  rw [hbind]
  refine wpAny_pure (wpAny_newFunctionEnv hcell (fun y hy => ?_) (fun h₁ hns hsb => ⟨lim.fresh _ hsb, ?_⟩) hk)
  · rw [List.mem_singleton.mp hy]
    exact hloc
  have kp : ∀ b o, s.heap.get? b = some o → h₁.get? b = some o := fun b o z => hsb.extBut b o (Nat.ne_of_lt (Heap.lt_size z)) (Heap.get?_push_of_some _ z)
  refine kla_codeExpr (Subscript_ (wpAny_Name (wpAny_loadName_local hk hloc hns (v := .ref t) (by simp) ?_) hd))
  refine hix _ _ _ _ _ rfl rfl (ns.keeps kp) fun u' tk' => ?_
  have ht1 : h₁.IsTuple t items := by
    obtain ⟨o, z1, z2, z3⟩ := ht
    exact ⟨o, kp _ _ z1, z2, z3⟩
  have hsz : 0 < items.size := by
    rcases Nat.eq_zero_or_pos items.size with z | z
    · rw [Array.getElem?_eq_none (by omega)] at hx
      cases hx
    · exact z
  refine subscriptTail_builtinR (x := .int kk u) (ht1.typeIs) slot_tuple_getitem.lookup (getItem_tuple (j := 0) (Q := fun r s' => r = .int kk u ∧ KeyPure (.int kk) s r s') ht1 (by decide) (by decide) (seqIndex_of (by decide) (by omega)) hx ⟨rfl, ?_⟩) (hpl _ _)
  exact ⟨h₁, _, rfl, kp, .int _ _⟩
end
end Deed

namespace Deed
open PySem PySem.Spec PySem.W PyProof.Rows L2 LamX
theorem each_vals {xs : List V} {us : List Value} (r : Vals xs us) : EachIs (fun u y => RelV y u) us xs := by
  induction r with
  | nil => exact .nil
  | cons h _ ih => exact .cons h ih
theorem vals_each {xs : List V} {us : List Value} (r : EachIs (fun u y => RelV y u) us xs) : Vals xs us := by
  induction r with
  | nil => exact .nil
  | cons h _ ih => exact .cons h ih
/-- sorted(e, key=lambda x: x[0]): some arrangement by the keys, at a new address; a table may have grown -/
def tSortK (K : PySem.W.Frag) (T : List (Addr × Str)) (te : TA) : TE := fun σ H Q => te σ H fun vs H1 => ∃ (a : Addr) (xs : List V) (ks : V → Int), vs = [.ref a] ∧ (SqL K H1 a xs ∨ SqT K H1 a xs) ∧ (∀ y ∈ xs, ∃ t r, y = .ref t ∧ H1 t = some (.tup (.int (ks y) :: r))) ∧ Tabs T H1 ∧
  ∀ p ys H2, ExtN H1 H2 → Tabs T H2 → H2 p = none → ys.Perm xs → ys.Pairwise (fun u v => ks u ≤ ks v) → Q (.ref p) (upd H2 p (.lst ys))
section
variable {X : Cx}
theorem pe_sortK {T : List (Addr × Str)} {c P : Addr} {k : Nat} {e ix : Expr} {te : TA} {x : Str} {params : Arguments} {scope : Scope} {p p1 p3 lpos kpos pos : Pos}
    (hg : Gl X "sorted") (hm : X.mg "sorted" = none) (ha : PA X [e] te) (hr : Room (k + 1) X.A) (TB : TabB X.base X.mg c P) (hcode : X.env.code = .ref c) (hmT : (P, X.env.qual ++ "<lambda>") ∈ T) (hu : ∀ p ∈ T, p.1 = P → p.2 = X.env.qual ++ "<lambda>")
    (hdef : defaultsOf params X.env = ([], [])) (hfree : ∀ y ∈ scope.names, y.2 ≠ .free)
    (hk : scope.kind = .function) (hco : scope.isCoroutine = false) (hgen : scope.isGenerator = false) (hcell : ∀ y ∈ scope.names, y.2 ≠ .cell) (hloc : scope.names.lookup x = some .local)
    (hbind : ∀ (q : Str) (cl : List (Str × Addr)) (pm cv ctv v : Value), bindArgs (kla_fn "<lambda>" q params (.Subscript (.Name x p1) ix p3) scope cl pm cv ctv) ⟨[v], []⟩ = pure [(x, v)])
    (hix : ∀ (env : Env) (A : Around) (E : Value → Shared → Prop) (s' : Shared) (Q : Value → Shared → Prop), env.scope = scope → env.globals = mainGlobals → s'.heap.Ns mainGlobals X.mg → (∀ u tk, Q (.int 0 u) { s' with toks := tk }) → wpAny (model X.prog X.w) A (eval ix env) Q E s')
    (hpl : PlainIx ix) (hd : (x == ("__debug__" : Str)) = false)
    (h1 : backTo pos (starEach [e] X.env) = (false, eval e X.env) :: backTo pos (starEach [] X.env) := by rfl) (h2 : (backTo pos (starEach [e] X.env)).any (·.1) = false := by rfl) :
    PE X (.Call (.Name "sorted" p) [e] [⟨some "key", .Lambda params (.Subscript (.Name x p1) ix p3) scope lpos, kpos⟩] pos) (tSortK X.K T te) := by
  refine ⟨fun pins s σ H Q I h => ?_⟩
  refine wpAny_Call_Name_kw (ld_blt I hg hm (show bootBuiltins "sorted" = some (.builtin "sorted") by decide +kernel) ?_)
  refine callWith_kw (thn (ha.run pos pins s σ H _ I h) fun us s1 ⟨vs, H1, I1, r1, q1⟩ => ?_) h1 h2 rfl rfl
  obtain ⟨a, xs, ks, rfl, hS, hxs, hT, q⟩ := q1
  obtain rfl := Vals.ref1 r1
  show wpAny _ _ (evalAll [(do let v ← eval (.Lambda params (.Subscript (.Name x p1) ix p3) scope lpos) X.env; standAt pos; pure v)]) _ _ s1
  refine wpAny_evalAll_cons (wpAny_bind (lam_make2 I1 TB hcode hmT hu hT hdef (fun y hy e => absurd e (hfree y hy)) fun f c' pm ctv H2 s2 I2 eN T2 hf hfn hfr hco' => wpAny_bind (wpAny_standAt (wpAny_pure (wpAny_evalAll_nil ?_)))))
  have seqs : ∃ its, Vals xs its ∧ xs.length ≤ sizeLine ∧ (s2.heap.IsList a its.toArray ∨ s2.heap.IsTuple a its.toArray) := by
    rcases hS with hS | hS
    · have hS2 : SqL X.K H2 a xs := by
        rcases hS with (z | ⟨o, z⟩) | z
        · exact .inl (.inl (eN _ _ z fun ps z' => by cases z'))
        · exact .inl (.inr ⟨o, eN _ _ z fun ps z' => by cases z'⟩)
        · exact .inr z
      obtain ⟨its, rv, hl, hz⟩ := I2.list hS2
      exact ⟨its, rv, hz, .inl hl.isList⟩
    · have hS2 : SqT X.K H2 a xs := by
        rcases hS with (z | ⟨o, z⟩) | z
        · exact .inl (.inl (eN _ _ z fun ps z' => by cases z'))
        · exact .inl (.inr ⟨o, eN _ _ z fun ps z' => by cases z'⟩)
        · exact .inr z
      obtain ⟨its, rv, hl, hz⟩ := I2.tuple hS2
      exact ⟨its, rv, hz, .inr hl⟩
  obtain ⟨its, rv, hz, hl⟩ := seqs
  have hun := hr.un
  have hdp := hr.dp
  show wpAny (model X.prog X.w) X.A (call (.builtin "sorted") [.ref a] [(Str.ofString "key", .ref f)]) _ _ s2
  refine sortedK (R := fun u y => RelV y u) ks hl (each_vals rv) hz (by omega) (fun u y hR hy h tk kp => ?_) fun out ep h' tk kp hD hlen eo => ?_
  · obtain ⟨t, r, rfl, ht⟩ := hxs y hy
    obtain rfl : u = Value.ref t := hR
    have ht2 := eN _ _ ht fun ps z' => by cases z'
    obtain ⟨_, its2, r2, o, ho, hc, n, hd2⟩ := I2.hok _ _ ht2
    obtain ⟨oc, vs, tt, c1, c2, c3⟩ := (I2.hok c' _ hco').1
    cases r2 with
    | cons ru r3 =>
      obtain ⟨tu, rfl⟩ := ru
      refine lam_key (u := tu) (s := { s2 with heap := h, toks := tk }) (kp _ _ hf) ⟨c', oc, vs, tt, rfl, kp _ _ c1, c2, c3⟩ ?_ (I2.nolimit.keeps kp) ((I2.mod.glob.keeps I2.bk).keeps kp) hk hco hgen hcell hloc (fun v => hbind _ _ _ _ _ v) hix hpl hd ⟨o, kp _ _ ho, hc, n, hd2⟩ (by simp)
      show X.A.depth < recursionLimit
      omega
  · rw [dataLe_int] at eo
    have hp : (xs.mergeSort fun a b => decide (ks a ≤ ks b)).Perm xs := List.mergeSort_perm _ _
    have hs : (xs.mergeSort fun a b => decide (ks a ≤ ks b)).Pairwise (fun u v => ks u ≤ ks v) := by
      have := List.pairwise_mergeSort (le := fun a b => decide (ks a ≤ ks b)) (fun a b c h1 h2 => by simp only [decide_eq_true_eq] at *; omega) (fun a b => by simp only [Bool.or_eq_true, decide_eq_true_eq]; omega) xs
      exact this.imp fun h => of_decide_eq_true h
    refine ⟨.ref _, _, I2.laid (t' := tk) kp (Nat.le_succ _) (show ObjOk X.prog X.w _ h' _ (.lst (xs.mergeSort fun a b => decide (ks a ≤ ks b))) from ⟨by rw [hp.length_eq]; exact hz, out, ep, vals_each eo, hD⟩), rfl, q _ _ H2 eN T2 (I2.hok.fresh (Nat.le_succ _)) hp hs⟩
end
end Deed

namespace Deed
open PySem PySem.Spec PyProof.Rows L2 LamX
/-! ### a def whose code object's table is told -/
theorem okC {P : Program} {w : World} {K : PySem.W.Frag} {mg : Str → Option Value} {base : Heap} {x qual : Str} {st : Stmt} {f c : Addr} {fd : FuncData} {N ps : List Str} {k : Nat} {sp : Sp} (F : Fun K x qual st f fd) (hc : fd.code = .ref c) (S : FnScope N ps (defScope st)) (len : ∀ vs H Q E, sp vs H Q E → vs.length = ps.length)
    (hbody : ∀ (A : Around) (outer : List Env) (s : Shared) (H : Hp) (vs : List V) (Q : VK) (E : XK), Room k (A.deeper (envOfC qual (defScope st) s.heap.objs.size f (.ref c))) → sp vs H Q E →
      ∃ t, PSs (cxOf CX0 P w K mg base N qual (defScope st) f (.ref c) A outer s H E).nox (defBody st) t ∧ t { nx := fun _ H' => Q .non H', rt := Q } (start N vs) H) : FnOk P w K mg base CX0 (k + 1) f fd ps sp := by
  obtain ⟨oc, od, kV, doc, pm, an, cdv, ct, osl, rfl, lk, hcd⟩ := F.ex
  have e : cdv = .ref c := hc
  subst e
  refine fn_of lk hcd S len fun A outer s H vs Q E hr hsp => ?_
  obtain ⟨t, h, q⟩ := hbody A outer s H vs Q E hr hsp
  exact ⟨t, h.nox, q⟩
/-- the number that stands ahead in the tuple at v -/
def keyAt (H : Hp) (v : V) : Int := match v with
  | .ref t => (match H t with
    | some (.tup (.int n :: _)) => n
    | _ => 0)
  | _ => 0
theorem EntAt.key {H : Hp} {a : Addr} {e : En} (h : EntAt H a e) : ∃ r, H a = some (.tup (.int e.num :: r)) ∧ keyAt H (.ref a) = e.num := by
  have fin : ∀ r, H a = some (.tup (.int e.num :: r)) → keyAt H (.ref a) = e.num := fun r z => by
    show (match H a with | some (.tup (.int n :: _)) => n | _ => 0) = e.num
    rw [z]
  unfold EntAt at h
  cases hk : e.kd with
  | deed g t rs ws =>
    rw [hk] at h
    obtain ⟨r, w, h1, _⟩ := h
    exact ⟨_, h1, fin _ h1⟩
  | act x o =>
    rw [hk] at h
    exact ⟨_, h, fin _ h⟩
/-- what isn't tracked, or a table -/
def Fresh (H : Hp) (p : Addr) : Prop := ∀ o, H p = some o → ∃ ps, o = .tbl ps
theorem Fresh.of {H H' : Hp} {p : Addr} (e : ExtN H H') (n : H' p = none) : Fresh H p := fun o z => by
  by_cases h : ∃ ps, o = .tbl ps
  · exact h
  · rw [e p o z fun ps q => h ⟨ps, q⟩] at n
    cases n
theorem Fresh.ne {H : Hp} {p b : Addr} {o : HO} (f : Fresh H p) (e : H b = some o) (h : ∀ ps, o ≠ .tbl ps) : b ≠ p := fun z => by
  rw [z] at e
  obtain ⟨ps, q⟩ := f o e
  exact h ps q
theorem Fresh.up {H H' : Hp} {p : Addr} (e : ExtN H H') (f : Fresh H' p) : Fresh H p := fun o z => by
  by_cases h : ∃ ps, o = .tbl ps
  · exact h
  · exact f o (e p o z fun ps q => h ⟨ps, q⟩)
theorem ExtN.tup {H H' : Hp} (e : ExtN H H') : KpT H H' := fun b xs z => e _ _ z fun ps q => by cases q
theorem ExtN.new {H : Hp} {p : Addr} (n : H p = none) (o : HO) : ExtN H (upd H p o) := .of fun b u e => by
  rw [upd_ne (ne_of_none e n)]
  exact e
theorem Tabs.new {T : List (Addr × Str)} {H : Hp} (t : Tabs T H) {p : Addr} (n : H p = none) (o : HO) : Tabs T (upd H p o) := t.ext fun b u e => by
  rw [upd_ne (ne_of_none e n)]
  exact e
/-- a tracked list is written: the tables stay -/
theorem Tabs.put {T : List (Addr × Str)} {H : Hp} (t : Tabs T H) {p : Addr} {xs : List V} (e : H p = some (.lst xs)) (o : HO) : Tabs T (upd H p o) := fun q hq => by
  obtain ⟨ps, h1, h2, h3⟩ := t q hq
  have n1 : q.1 ≠ p := fun z => by
    rw [z, e] at h1
    cases h1
  refine ⟨ps, by rw [upd_ne n1]; exact h1, h2, fun pos cv hc => ?_⟩
  obtain ⟨c, e1, e2⟩ := h3 pos cv hc
  refine ⟨c, e1, ?_⟩
  have n2 : c ≠ p := fun z => by
    rw [z, e] at e2
    unfold CodeO at e2
    cases e2
  rw [upd_ne n2]
  exact e2
theorem srt_num {H : Hp} {zs : List (Addr × En)} (he : ∀ z ∈ zs, EntAt H z.1 z.2) (nd : ((ens zs).map (·.num)).Nodup) (h : (refs zs).Pairwise (fun u v => keyAt H u ≤ keyAt H v)) : zs.Pairwise (fun a b => a.2.num < b.2.num) := by
  induction zs with
  | nil => exact .nil
  | cons z r ih =>
    have h1 := List.pairwise_cons.mp h
    have nd' : (z.2.num :: (ens r).map (·.num)).Nodup := nd
    have h2 := List.nodup_cons.mp nd'
    refine List.pairwise_cons.mpr ⟨fun y hy => ?_, ih (fun y hy => he y (List.mem_cons_of_mem _ hy)) h2.2 h1.2⟩
    have h3 := h1.1 (.ref y.1) (List.mem_map.mpr ⟨y, hy, rfl⟩)
    obtain ⟨_, _, k1⟩ := (he z List.mem_cons_self).key
    obtain ⟨_, _, k2⟩ := (he y (List.mem_cons_of_mem _ hy)).key
    rw [k1, k2] at h3
    have h4 : z.2.num ≠ y.2.num := fun q => h2.1 (List.mem_map.mpr ⟨y.2, List.mem_map.mpr ⟨y, hy, rfl⟩, q.symm⟩)
    omega
section
variable {P : Program} {w : World} {K : PySem.W.Frag} {mg : Str → Option Value} {base : Heap} {fRi : Addr} {dRi : FuncData} {T : List (Addr × Str)}
/-- an int of the module's top -/
def MgInt (mg : Str → Option Value) (x : Str) (i : Int) : Prop := ∃ t, mg x = some (.int i t)
theorem pe_num {X : Cx} {x : Str} {i : Int} {pos : Pos} (hg : Gl X x) (h : MgInt X.mg x i) (hd : (x == ("__debug__" : Str)) = false := by decide) : PE X (.Name x pos) (tC (.int i)) := by
  obtain ⟨t, h⟩ := h
  exact pe_glob hg h ⟨t, rfl⟩ hd
/-! ### the entries by their numbers -/
abbrev sRising : Stmt := topS 26
theorem scRising : FnScope ["book"] ["book"] (defScope sRising) := ⟨rfl, rfl, rfl, by decide +kernel, rfl, by decide +kernel, by decide +kernel⟩
/-- the book's text of the lambda's name -/
def qRis : Str := "entries_rising.<locals>.<lambda>"
def spRising (T : List (Addr × Str)) : Sp := fun vs H Q _ => ∃ (b fk t : Addr) (n : Nat) (age : Int) (zs : List (Addr × En)), vs = [.ref b] ∧ BookAt H b fk t n age zs ∧ Tabs T H ∧
  ∀ (p : Addr) (zs' : List (Addr × En)) (H' : Hp), ExtN H H' → Tabs T H' → Fresh H p → H' p = some (.lst (refs zs')) → zs'.Perm zs → zs'.Pairwise (fun a b => a.2.num < b.2.num) → Q (.ref p) H'
theorem ok_rising {f c tb : Addr} {fd : FuncData} {k : Nat} (F : Fun K "entries_rising" "entries_rising" sRising f fd) (hc : fd.code = .ref c) (TB : TabB base mg c tb) (ms : mg "sorted" = none) (mN : MgInt mg "NUMBER" 0) (hmT : (tb, qRis) ∈ T) (hu : ∀ p ∈ T, p.1 = tb → p.2 = qRis) :
    FnOk P w K mg base CX0 (k + 2) f fd ["book"] (spRising T) := by
  refine okC F hc scRising (fun vs H Q E h => ?_) (fun A outer s H vs Q E hr h => ?_)
  · obtain ⟨b, fk, t, n, age, zs, rfl, _⟩ := h
    rfl
  · obtain ⟨b, fk, t, n, age, zs, rfl, hB, hT, q⟩ := h
    refine ⟨_, pss_one (ps_ret (pe_sortK (T := T) (c := c) (P := tb) (k := k) (by rfl) ms (pa_cons (pe_ix ix_tup (pv 0) pe_int (fun _ _ => rfl)) pa_nil) hr TB rfl hmT hu rfl (by decide +kernel) rfl rfl rfl (by decide +kernel) rfl (fun _ _ _ _ _ _ => rfl) (fun env A E s' Q he hg hn hq => ?ix) (fun _ _ => rfl) (by decide))), ?_⟩
    case ix =>
      obtain ⟨tk, hN⟩ := mN
      refine Calls.Name_function_global (by rw [he]) (by unfold Env.kindOf; rw [he]; rfl) (Calls.loadGlobal_global (by rw [hg]; exact hn) hN (hq tk s'.toks))
    refine ⟨_, rfl, b, _, 2, _, rfl, rfl, SqT.of hB.at_, atI_nat (j := 2) rfl, t, refs zs, keyAt H, rfl, .inr (SqT.of hB.ents), fun y hy => ?_, hT, fun p ys H2 eN T2 np pm so => ?_⟩
    · obtain ⟨z, hz, rfl⟩ := List.mem_map.mp hy
      obtain ⟨r, h1, h2⟩ := (hB.ent z hz).key
      exact ⟨z.1, r, rfl, by rw [h2]; exact h1⟩
    · obtain ⟨zs', rfl, hp⟩ := perm_pairs (fun z : Addr × En => V.ref z.1) pm zs rfl
      refine q p zs' _ (eN.trans (ExtN.new np _)) (Tabs.new T2 np _) (Fresh.of eN np) upd_same hp (srt_num (fun z hz => hB.ent z (hp.mem_iff.mp hz)) (((hp.map _).map _).nodup_iff.mpr hB.ok.nd) so)
end
end Deed

namespace Deed
open PySem PySem.Spec PyProof.Rows L2 LamX
theorem take_more {α : Type} {l : List α} {i : Nat} {x : α} (h : l[i]? = some x) : l.take (i + 1) = l.take i ++ [x] := by
  rw [List.take_add_one, h]
  rfl
theorem ref_at {zs : List (Addr × En)} {i : Nat} {x : V} (h : (refs zs)[i]? = some x) : ∃ z, zs[i]? = some z ∧ x = .ref z.1 := by
  rw [List.getElem?_map] at h
  cases e : zs[i]? with
  | none => rw [e] at h; cases h
  | some z =>
    rw [e] at h
    exact ⟨z, rfl, (Option.some.inj h).symm⟩
section
variable {P : Program} {w : World} {K : PySem.W.Frag} {mg : Str → Option Value} {base : Heap} {fRi fDe : Addr} {dRi dDe : FuncData} {T : List (Addr × Str)}
/-- what entries_rising needs -/
structure RisD (K : PySem.W.Frag) (mg : Str → Option Value) (base : Heap) (T : List (Addr × Str)) (f : Addr) (fd : FuncData) : Prop where
  D : Df K mg "entries_rising" sRising ["book"] f fd
  hc : ∃ c tb, fd.code = .ref c ∧ TabB base mg c tb ∧ (tb, qRis) ∈ T ∧ ∀ p ∈ T, p.1 = tb → p.2 = qRis
  ms : mg "sorted" = none
  mN : MgInt mg "NUMBER" 0
theorem RisD.ok {k : Nat} {f : Addr} {fd : FuncData} (R : RisD K mg base T f fd) : FnOk P w K mg base CX0 (k + 2) f fd ["book"] (spRising T) := by
  obtain ⟨c, tb, h1, h2, h3, h4⟩ := R.hc
  exact ok_rising R.D.F h1 h2 R.ms R.mN h3 h4
/-- the entries that φ picks, by their numbers -/
def spPick (φ : En → Bool) (T : List (Addr × Str)) : Sp := fun vs H Q _ => ∃ (b fk t : Addr) (n : Nat) (age : Int) (zs : List (Addr × En)), vs = [.ref b] ∧ BookAt H b fk t n age zs ∧ Tabs T H ∧
  ∀ (p : Addr) (zs' : List (Addr × En)) (H' : Hp), ExtN H H' → Tabs T H' → Fresh H p → H' p = some (.lst (refs (zs'.filter fun z => φ z.2))) → zs'.Perm zs → zs'.Pairwise (fun a b => a.2.num < b.2.num) → Q (.ref p) H'
/-! ### their numbers -/
/-- the numbers of what φ picks, rising -/
def spNums (φ : En → Bool) (T : List (Addr × Str)) : Sp := fun vs H Q _ => ∃ (b fk t : Addr) (n : Nat) (age : Int) (zs : List (Addr × En)), vs = [.ref b] ∧ BookAt H b fk t n age zs ∧ Tabs T H ∧
  ∀ (p : Addr) (zs' : List (Addr × En)) (H' : Hp), ExtN H H' → Tabs T H' → Fresh H p → H' p = some (.lst (((zs'.filter fun z => φ z.2).map fun z => z.2.num).map V.int)) → zs'.Perm zs → zs'.Pairwise (fun a b => a.2.num < b.2.num) → Q (.ref p) H'
end
end Deed

namespace Deed
open PySem PySem.Spec PyProof.Rows L2 LamX
/-! ### rules whose reading names K; a def that may be called; comprehensions at large -/
theorem ix_tupK {X : Cx} {K : PySem.W.Frag} (h : X.K = K) : IxR X (rIxT K) := h ▸ ix_tup
theorem ix_listK {X : Cx} {K : PySem.W.Frag} (h : X.K = K) : IxR X (rIxL K) := h ▸ ix_list
theorem in_seqK {X : Cx} {K : PySem.W.Frag} (h : X.K = K) : OpR X (compareOp .In) (rIn K false) := h ▸ op_in_seq
theorem notIn_seqK {X : Cx} {K : PySem.W.Frag} (h : X.K = K) : OpR X (compareOp .NotIn) (rIn K true) := h ▸ op_notIn_seq
theorem len_seqK {X : Cx} {K : PySem.W.Frag} (h : X.K = K) : CallR X (.builtin "len") (rLenS K) := h ▸ call_len_seq
structure CallOk (P : Program) (w : World) (K : PySem.W.Frag) (mg : Str → Option Value) (base : Heap) (L : Nat) (x : Str) (ps : List Str) (sp : Sp) where
  f : Addr
  fd : FuncData
  g : mg x = some (.ref f)
  kp : PySem.W.keepIn K (.ref f) = true
  b : Binds K fd ps []
  ok : FnOk P w K mg base CX0 L f fd ps sp
def CallOk.mono {P : Program} {w : World} {K : PySem.W.Frag} {mg : Str → Option Value} {base : Heap} {L L' : Nat} {x : Str} {ps : List Str} {sp : Sp} (c : CallOk P w K mg base L x ps sp) (h : L ≤ L') : CallOk P w K mg base L' x ps sp := ⟨c.f, c.fd, c.g, c.kp, c.b, c.ok.mono h⟩
def Df.call {P : Program} {w : World} {K : PySem.W.Frag} {mg : Str → Option Value} {base : Heap} {L : Nat} {x : Str} {st : Stmt} {ps : List Str} {f : Addr} {fd : FuncData} {sp : Sp} (D : Df K mg x st ps f fd) (G : FnOk P w K mg base CX0 L f fd ps sp) : CallOk P w K mg base L x ps sp := ⟨f, fd, D.g, D.F.kp, D.b, G⟩
theorem nodup_len : ∀ {l m : List Int}, l.Nodup → (∀ x ∈ l, x ∈ m) → l.length ≤ m.length
  | [], m, _, _ => Nat.zero_le _
  | a :: r, m, h, hs => by
    rw [List.nodup_cons] at h
    have ha := hs a List.mem_cons_self
    have h1 := nodup_len (l := r) (m := m.erase a) h.2 fun x hx => by
      have hne : x ≠ a := fun z => h.1 (z ▸ hx)
      exact (List.mem_erase_of_ne hne).mpr (hs x (List.mem_cons_of_mem _ hx))
    rw [List.length_erase_of_mem ha] at h1
    have := List.length_pos_of_mem ha
    rw [List.length_cons]
    omega
theorem none_back {H H' : Hp} {p : Addr} (s : Same H H') (n : H' p = none) : H p = none := by
  cases h : H p with
  | none => rfl
  | some o => rw [s _ _ h] at n; cases n
theorem same_refl (H : Hp) : Same H H := fun _ _ e => e
theorem take_filter {α : Type} {p : α → Bool} {ys : List α} {i : Nat} {y : α} (h : ys[i]? = some y) : (ys.take (i + 1)).filter p = (ys.take i).filter p ++ (if p y then [y] else []) := by
  rw [take_more h, List.filter_append]
  congr 1
  cases hp : p y <;> simp [hp]
section
variable {J : It} {n : Nat} {G : Hp → Prop} {Y : Nat → Hp → V → Hp → Prop} {g : TG} {tt : TT} {te : TE} {vs : List Nat} {σ : L2.St} {H1 : Hp} {D : Addr} {Qd : Hp → Prop} {α : Type}
abbrev LcGoal (J : It) (g : TG) (tt : TT) (te : TE) (vs : List Nat) (σ : L2.St) (H1 : Hp) (D : Addr) (Qd : Hp → Prop) : Prop :=
  ∃ W : Nat → Nat → Hp → Prop, (∃ m, W 0 m (upd H1 D (.lst []))) ∧ ∀ i m H, W i m H →
      (J.stop i H ∧ Qd H) ∨ (J.go i H ∧ ∃ Nx : Hp → Prop, (∀ H', Nx H' → ∃ m', m' < m ∧ W (i + 1) m' H') ∧ ∀ x H', J.yld i H x H' → g x (wipe σ vs) H' fun σ2 H2 => wipe σ2 vs = wipe σ vs ∧ tt σ2 H2 fun b H3 =>
        if b = true then te σ2 H3 fun y H4 => ∃ acc, H4 D = some (.lst acc) ∧ acc.length < sizeLine ∧ Nx (upd H4 D (.lst (acc ++ [y]))) else Nx H3)
/-- at large: St a step of the heap, In what holds of it, E what holds of an item -/
theorem lc_gen (w : Walk J n G Y) (ys : List α) (p : α → Bool) (In : Hp → Prop) (Sp1 : Hp → Hp → Prop) (E : Hp → α → V → Prop) (hn : ys.length = n) (hlen : ys.length ≤ 1000) (h0 : In (upd H1 D (.lst []))) (hG : ∀ H, In H → G H)
    (hSt : ∀ H H', In H → Sp1 H H' → In H' ∧ ∀ xs, H D = some (.lst xs) → H' D = some (.lst xs)) (hPut : ∀ H xs l, In H → H D = some (.lst xs) → In (upd H D (.lst l)))
    (hE : ∀ H H' y u, In H → Sp1 H H' → E H y u → E H' y u) (hEp : ∀ H xs l y u, In H → H D = some (.lst xs) → E H y u → E (upd H D (.lst l)) y u)
    (hs : ∀ i y x H H', ys[i]? = some y → In H → Y i H x H' → ∀ (Q1 : V → Hp → Prop) (Q0 : Hp → Prop), (p y = true → ∀ u H4, Sp1 H H4 → E H4 y u → Q1 u H4) → (p y = false → ∀ H3, Sp1 H H3 → Q0 H3) →
      g x (wipe σ vs) H' fun σ2 H2 => wipe σ2 vs = wipe σ vs ∧ tt σ2 H2 fun b H3 => if b = true then te σ2 H3 Q1 else Q0 H3)
    (hd : ∀ H (zs : List (V × α)), In H → H D = some (.lst (zs.map (·.1))) → zs.map (·.2) = ys.filter p → (∀ z ∈ zs, E H z.2 z.1) → Qd H) : LcGoal J g tt te vs σ H1 D Qd := by
  refine lc_it w (fun i H => In H ∧ ∃ zs : List (V × α), H D = some (.lst (zs.map (·.1))) ∧ zs.map (·.2) = (ys.take i).filter p ∧ ∀ z ∈ zs, E H z.2 z.1) ⟨h0, [], upd_same, rfl, fun _ h => nomatch h⟩ (fun i H _ h => hG H h.1) ?_ ?_
  · rintro i x H H' hi ⟨hI, zs, eD, ez, hz⟩ hY
    rw [← hn] at hi
    have hy : ys[i]? = some ys[i] := List.getElem?_eq_getElem hi
    have hzl : zs.length ≤ 1000 := by
      have h1 := congrArg List.length ez
      rw [List.length_map] at h1
      have h2 := List.length_filter_le p (ys.take i)
      rw [List.length_take] at h2
      omega
    refine hs i ys[i] x H H' hy hI hY _ _ (fun hp u H4 s4 e4 => ?_) (fun hp H3 s3 => ?_)
    · obtain ⟨I4, k4⟩ := hSt _ _ hI s4
      have eD4 := k4 _ eD
      refine ⟨_, eD4, small1000 (by rw [List.length_map]; omega), hPut _ _ _ I4 eD4, zs ++ [(u, ys[i])], ?_, ?_, fun z hzz => ?_⟩
      · rw [upd_same, List.map_append]
        rfl
      · rw [List.map_append, ez, take_filter hy, hp]
        rfl
      · rcases List.mem_append.mp hzz with h | h
        · exact hEp _ _ _ _ _ I4 eD4 (hE _ _ _ _ hI s4 (hz z h))
        · rw [List.mem_singleton.mp h]
          exact hEp _ _ _ _ _ I4 eD4 e4
    · obtain ⟨I3, k3⟩ := hSt _ _ hI s3
      refine ⟨I3, zs, k3 _ eD, ?_, fun z hzz => hE _ _ _ _ hI s3 (hz z hzz)⟩
      rw [ez, take_filter hy, hp]
      simp
  · rintro H ⟨hI, zs, eD, ez, hz⟩
    rw [← hn, List.take_length] at ez
    exact hd H zs hI eD ez hz
theorem same_put {H H1 : Hp} {D : Addr} (nD : H1 D = none) (s : Same H1 H) (o : HO) : Same H1 (upd H D o) := fun b u e => by
  rw [upd_ne (ne_of_none e nD)]
  exact s _ _ e
theorem same_new {H : Hp} {p : Addr} (n : H p = none) (o : HO) : Same H (upd H p o) := fun b u e => by rw [upd_ne (ne_of_none e n)]; exact e
/-- values; nothing but the new list is otherwise -/
theorem lc_sameV (w : Walk J n G Y) (ys : List α) (p : α → Bool) (v : α → V) (hn : ys.length = n) (hlen : ys.length ≤ 1000) (nD : H1 D = none) (hG : ∀ H, Same H1 H → G H)
    (hs : ∀ i y x H H', ys[i]? = some y → Same H1 H → Y i H x H' → ∀ (Q1 : V → Hp → Prop) (Q0 : Hp → Prop), (p y = true → ∀ H4, Same H H4 → Q1 (v y) H4) → (p y = false → ∀ H3, Same H H3 → Q0 H3) →
      g x (wipe σ vs) H' fun σ2 H2 => wipe σ2 vs = wipe σ vs ∧ tt σ2 H2 fun b H3 => if b = true then te σ2 H3 Q1 else Q0 H3)
    (hd : ∀ H, Same H1 H → H D = some (.lst ((ys.filter p).map v)) → Qd H) : LcGoal J g tt te vs σ H1 D Qd := by
  refine lc_gen w ys p (fun H => Same H1 H) Same (fun _ y u => u = v y) hn hlen (same_new nD _) hG (fun H H' h1 h2 => ⟨h1.trans h2, fun xs e => h2 _ _ e⟩) (fun H xs l h1 _ => same_put nD h1 _) (fun _ _ _ _ _ _ e => e) (fun _ _ _ _ _ _ _ e => e) (fun i y x H H' hy h1 hY Q1 Q0 q1 q0 => ?_) (fun H zs h1 e ez hz => ?_)
  · exact hs i y x H H' hy h1 hY Q1 Q0 (fun hp H4 s4 => q1 hp _ H4 s4 rfl) q0
  · refine hd H h1 ?_
    rw [e, ← ez, List.map_map]
    congr 2
    exact List.map_congr_left fun z hzz => hz z hzz
theorem lc_sameM (w : Walk J n G Y) (ys : List α) (v : α → V) (hn : ys.length = n) (hlen : ys.length ≤ 1000) (nD : H1 D = none) (hG : ∀ H, Same H1 H → G H)
    (hs : ∀ i y x H H', ys[i]? = some y → Same H1 H → Y i H x H' → ∀ (Q1 : V → Hp → Prop), (∀ H4, Same H H4 → Q1 (v y) H4) → g x (wipe σ vs) H' fun σ2 H2 => wipe σ2 vs = wipe σ vs ∧ te σ2 H2 Q1)
    (hd : ∀ H, Same H1 H → H D = some (.lst (ys.map v)) → Qd H) : LcGoal J g tYes te vs σ H1 D Qd := by
  refine lc_sameV w ys (fun _ => true) v hn hlen nD hG (fun i y x H H' hy h1 hY Q1 Q0 q1 q0 => ?_) (fun H h1 e => hd H h1 (by rw [e, List.filter_eq_self.mpr fun _ _ => rfl]))
  exact hs i y x H H' hy h1 hY Q1 (fun H4 s4 => q1 rfl H4 s4)
/-- new tuples -/
theorem lc_sameT (w : Walk J n G Y) (ys : List α) (p : α → Bool) (v : α → List V) (hn : ys.length = n) (hlen : ys.length ≤ 1000) (nD : H1 D = none) (hG : ∀ H, Same H1 H → G H)
    (hs : ∀ i y x H H', ys[i]? = some y → Same H1 H → Y i H x H' → ∀ (Q1 : V → Hp → Prop) (Q0 : Hp → Prop), (p y = true → ∀ t H4, Same H H4 → H4 t = some (.tup (v y)) → Q1 (.ref t) H4) → (p y = false → ∀ H3, Same H H3 → Q0 H3) →
      g x (wipe σ vs) H' fun σ2 H2 => wipe σ2 vs = wipe σ vs ∧ tt σ2 H2 fun b H3 => if b = true then te σ2 H3 Q1 else Q0 H3)
    (hd : ∀ H (zs : List (Addr × α)), Same H1 H → H D = some (.lst (zs.map fun z => .ref z.1)) → zs.map (·.2) = ys.filter p → (∀ z ∈ zs, H z.1 = some (.tup (v z.2))) → Qd H) : LcGoal J g tt te vs σ H1 D Qd := by
  refine lc_gen w ys p (fun H => Same H1 H) Same (fun H y u => ∃ t, u = .ref t ∧ H t = some (.tup (v y))) hn hlen (same_new nD _) hG (fun H H' h1 h2 => ⟨h1.trans h2, fun xs e => h2 _ _ e⟩) (fun H xs l h1 _ => same_put nD h1 _) (fun H H' y u _ h2 e => ?_) (fun H xs l y u h1 h2 e => ?_) (fun i y x H H' hy h1 hY Q1 Q0 q1 q0 => ?_) (fun H zs h1 e ez hz => ?_)
  · obtain ⟨t, e1, e2⟩ := e
    exact ⟨t, e1, h2 _ _ e2⟩
  · obtain ⟨t, e1, e2⟩ := e
    refine ⟨t, e1, ?_⟩
    rw [upd_ne fun z => by rw [z, h2] at e2; cases e2]
    exact e2
  · exact hs i y x H H' hy h1 hY Q1 Q0 (fun hp t H4 s4 e4 => q1 hp _ H4 s4 ⟨t, rfl, e4⟩) q0
  · have key : ∀ zs : List (V × α), (∀ z ∈ zs, ∃ t, z.1 = .ref t ∧ H t = some (.tup (v z.2))) → ∃ ws : List (Addr × α), zs.map (·.1) = ws.map (fun z => V.ref z.1) ∧ ws.map (·.2) = zs.map (·.2) ∧ ∀ z ∈ ws, H z.1 = some (.tup (v z.2)) := by
      intro zs
      induction zs with
      | nil => exact fun _ => ⟨[], rfl, rfl, fun _ h => nomatch h⟩
      | cons z r ih =>
        intro h
        obtain ⟨ws, a1, a2, a3⟩ := ih fun x hx => h x (List.mem_cons_of_mem _ hx)
        obtain ⟨t, e1, e2⟩ := h z List.mem_cons_self
        refine ⟨(t, z.2) :: ws, ?_, ?_, fun x hx => ?_⟩
        · rw [List.map_cons, List.map_cons, a1, e1]
        · rw [List.map_cons, List.map_cons, a2]
        · rcases List.mem_cons.mp hx with h | h
          · rw [h]
            exact e2
          · exact a3 x h
    obtain ⟨ws, a1, a2, a3⟩ := key zs hz
    exact hd H ws h1 (by rw [e, a1]) (by rw [a2, ez]) a3
end
end Deed

namespace Deed
open PySem PySem.Spec PyProof.Rows L2 LamX
theorem cutTake {α : Type} (f : α → V) (l : List α) {v : Int} (h : 0 ≤ v) : cutV (l.map f) none (some v) = (l.take v.toNat).map f := by
  unfold cutV
  obtain ⟨n, rfl⟩ : ∃ n : Nat, v = n := ⟨v.toNat, by omega⟩
  rw [HT.sIx_none, HT.sIx_nat, List.drop_zero, List.length_map, Int.toNat_natCast, Nat.sub_zero, ← List.map_take]
  congr 1
  rw [List.take_eq_take_iff]
  omega
theorem cutDrop {α : Type} (f : α → V) (l : List α) (m : Nat) : cutV (l.map f) (some (m : Int)) none = (l.drop m).map f := by
  unfold cutV
  rw [HT.sIx_none, HT.sIx_nat, List.length_map, ← List.map_drop, ← List.map_take]
  congr 1
  by_cases h : m ≤ l.length
  · rw [Nat.min_eq_left h, List.take_of_length_le (by rw [List.length_drop]; omega)]
  · rw [Nat.min_eq_right (by omega), List.drop_of_length_le (by omega), List.drop_of_length_le (by omega), List.take_nil]
section
variable {P : Program} {w : World} {K : PySem.W.Frag} {mg : Str → Option Value} {base : Heap}
abbrev CDraw (P : Program) (w : World) (K : PySem.W.Frag) (mg : Str → Option Value) (base : Heap) (k : Nat) := CallOk P w K mg base k "_law_draw" ["_law_pen_here", "_law_bound"] spDraw
abbrev sDay : Stmt := topS 57
abbrev nDay : List Str := ["_law_pen_here"]
abbrev pDay : List Str := ["_law_pen_here"]
theorem scDay : FnScope nDay pDay (defScope sDay) := ⟨rfl, rfl, rfl, by decide +kernel, rfl, by decide +kernel, by decide +kernel⟩
def spDay : Sp := fun vs H Q _ => ∃ (p : Addr), vs = [.ref p] ∧ PenAt H p ∧ ∀ v H', Kp p H H' → PenAt H' p → 0 ≤ v → v ≤ 9999 → Q (.int v) H'
theorem ok_day {f : Addr} {fd : FuncData} {k : Nat} (F : Fun K "_law_day" "_law_day" sDay f fd) (C__law_draw : CDraw P w K mg base k) : FnOk P w K mg base CX0 (k + 1) f fd pDay spDay := by
  refine F.ok scDay (fun vs H Q E h => ?_) (fun cdv A outer s H vs Q E hr h => ?_)
  · obtain ⟨p, rfl, _⟩ := h
    rfl
  · obtain ⟨p, rfl, hP, q⟩ := h
    refine ⟨_, pss_one (ps_ret (pe_ix ix_list (pe_lst (pa_cons (pe_call C__law_draw.ok hr (by rfl) C__law_draw.g C__law_draw.kp C__law_draw.b .nil pass0 (pa_cons (pv 0) (pa_cons pe_int pa_nil))) (pa_cons (pe_call C__law_draw.ok hr (by rfl) C__law_draw.g C__law_draw.kp C__law_draw.b .nil pass0 (pa_cons (pv 0) (pa_cons pe_int pa_nil))) (pa_cons (pe_call C__law_draw.ok hr (by rfl) C__law_draw.g C__law_draw.kp C__law_draw.b .nil pass0 (pa_cons (pv 0) (pa_cons pe_int pa_nil))) pa_nil)))) (pe_op op_fdiv (pe_call C__law_draw.ok hr (by rfl) C__law_draw.g C__law_draw.kp C__law_draw.b .nil pass0 (pa_cons (pv 0) (pa_cons pe_int pa_nil))) pe_int) (fun _ _ => rfl))), ?_⟩
    refine ⟨_, rfl, p, 7, rfl, hP, by decide, by decide, fun v1 H1 k1 P1 a1 b1 => ?_⟩
    refine ⟨_, rfl, p, 40, rfl, P1, by decide, by decide, fun v2 H2 k2 P2 a2 b2 => ?_⟩
    refine ⟨_, rfl, p, 10000, rfl, P2, by decide, by decide, fun v3 H3 k3 P3 a3 b3 => ?_⟩
    refine ⟨(by show 3 ≤ sizeLine; decide), fun l nl => ?_⟩
    refine ⟨_, rfl, p, 6, rfl, P3.new nl _, by decide, by decide, fun v4 H4 k4 P4 a4 b4 => ?_⟩
    refine ⟨_, _, rfl, rfl, ⟨by decide, by decide⟩, ?_⟩
    obtain ⟨_, g5, n5, rfl, a5, b5⟩ := pick (i := v4 / 2) (xs := [.int v1, .int v2, .int v3]) (Within 0 9999) (by omega) (by show v4 / 2 < 3; omega) (am1 ⟨_, rfl, by omega, by omega⟩ (am1 ⟨_, rfl, by omega, by omega⟩ (am1 ⟨_, rfl, by omega, by omega⟩ am0)))
    refine ⟨l, _, _, _, rfl, rfl, SqL.of (k4 _ _ (P3.free nl) upd_same), g5, ?_⟩
    exact q n5 _ (k1.trans (k2.trans (k3.trans ((Kp.new nl _).trans k4)))) P4 a5 b5
abbrev sFolk : Stmt := topS 55
abbrev nFolk : List Str := ["_law_pen_here", "_law_least", "_law_found", "_law_k", "_law_born", "_law_died"]
abbrev pFolk : List Str := ["_law_pen_here", "_law_least"]
theorem scFolk : FnScope nFolk pFolk (defScope sFolk) := ⟨rfl, rfl, rfl, by decide +kernel, rfl, by decide +kernel, by decide +kernel⟩
def spFolk : Sp := fun vs H Q _ => ∃ (p : Addr) (least : Int), vs = [.ref p, .int least] ∧ PenAt H p ∧ 1 ≤ least ∧ least ≤ 6 ∧ ∀ t (n : Nat) H', Kp p H H' → PenAt H' p → FolkAt H' t n → least ≤ n → n ≤ 6 → Q (.ref t) H'
theorem ok_folk {f : Addr} {fd : FuncData} {k : Nat} (F : Fun K "_law_folk" "_law_folk" sFolk f fd) (C__law_draw : CDraw P w K mg base k) (m_range : mg "range" = none) (m_min : mg "min" = none) (m_tuple : mg "tuple" = none) : FnOk P w K mg base CX0 (k + 1) f fd pFolk spFolk := by
  refine F.ok scFolk (fun vs H Q E h => ?_) (fun cdv A outer s H vs Q E hr h => ?_)
  · obtain ⟨p, l, rfl, _⟩ := h
    rfl
  · obtain ⟨p, least, rfl, hP, hl1, hl6, q⟩ := h
    have nd := scFolk.nd
    refine ⟨_, pss_cons (ps_set (i := 2) nd rfl (.inl rfl) (pe_lst pa_nil))
      (pss_cons (ps_for PassesOwn.never rfl (pi_range1 rfl m_range (pa_cons (pe_op op_add (pv 1) (pe_call C__law_draw.ok hr (by rfl) C__law_draw.g C__law_draw.kp C__law_draw.b .nil pass0 (pa_cons (pv 0) (pa_cons (pe_op op_sub pe_int (pv 1)) pa_nil)))) pa_nil)) (pg_name (i := 3) nd rfl (.inl rfl))
        (pss_cons (ps_set (i := 4) nd rfl (.inl rfl) (pe_ix ix_list (pe_lst (pa_cons (pe_op op_sub pe_int (pe_call C__law_draw.ok hr (by rfl) C__law_draw.g C__law_draw.kp C__law_draw.b .nil pass0 (pa_cons (pv 0) (pa_cons pe_int pa_nil)))) (pa_cons (pe_call C__law_draw.ok hr (by rfl) C__law_draw.g C__law_draw.kp C__law_draw.b .nil pass0 (pa_cons (pv 0) (pa_cons pe_int pa_nil))) (pa_cons (pe_op op_sub (pe_call C__law_draw.ok hr (by rfl) C__law_draw.g C__law_draw.kp C__law_draw.b .nil pass0 (pa_cons (pv 0) (pa_cons pe_int pa_nil))) pe_int) pa_nil)))) (pe_op op_fdiv (pe_call C__law_draw.ok hr (by rfl) C__law_draw.g C__law_draw.kp C__law_draw.b .nil pass0 (pa_cons (pv 0) (pa_cons pe_int pa_nil))) pe_int) (fun _ _ => rfl)))
      (pss_cons (ps_set (i := 5) nd rfl (.inl rfl) (pe_callB (call_min2 rfl) (by rfl) m_min (by decide +kernel) (pa_cons pe_int (pa_cons (pe_op op_add (pe_op op_add (pv 4) pe_int) (pe_ix ix_list (pe_lst (pa_cons (pe_call C__law_draw.ok hr (by rfl) C__law_draw.g C__law_draw.kp C__law_draw.b .nil pass0 (pa_cons (pv 0) (pa_cons pe_int pa_nil))) (pa_cons (pe_call C__law_draw.ok hr (by rfl) C__law_draw.g C__law_draw.kp C__law_draw.b .nil pass0 (pa_cons (pv 0) (pa_cons pe_int pa_nil))) pa_nil))) (pe_call C__law_draw.ok hr (by rfl) C__law_draw.g C__law_draw.kp C__law_draw.b .nil pass0 (pa_cons (pv 0) (pa_cons pe_int pa_nil))) (fun _ _ => rfl))) pa_nil))))
      (pss_one (ps_expr (pe_bm PySem.F.plainAttrs_list PySem.F.slot_list_append PySem.F.type_list_append mt_append (pv 2) (pa_cons (pe_tup (pa_cons (pv 4) (pa_cons (pe_ix ix_list (pe_lst (pa_cons pe_non (pa_cons (pv 5) pa_nil))) (pe_call C__law_draw.ok hr (by rfl) C__law_draw.g C__law_draw.kp C__law_draw.b .nil pass0 (pa_cons (pv 0) (pa_cons pe_int pa_nil))) (fun _ _ => rfl)) pa_nil))) pa_nil)))))))
      (pss_one (ps_ret (pe_callTy call_tuple_of (by rfl) m_tuple (by decide +kernel) (pa_cons (pv 2) pa_nil))))), ?_⟩
    refine ⟨Nat.zero_le _, fun l hl => ?_⟩
    have Pl : PenAt (upd H l (.lst [])) p := hP.new hl _
    have nl : l ≠ p := hP.free hl
    refine ⟨_, rfl, _, rfl, _, rfl, _, _, rfl, rfl, p, 7 - least, rfl, Pl, by omega, by omega, fun v1 H1 k1 P1 a1 b1 => ?_⟩
    refine ⟨_, _, rfl, rfl, _, rfl, by omega, by omega, ?_⟩
    refine for_range (lo := 0) (n := (least + v1).toNat) (fun i σ H' => ∃ y3 y4 y5 xs, σ = [some (.ref p), some (.int least), some (.ref l), y3, y4, y5] ∧ Kp p H H' ∧ PenAt H' p ∧ H' l = some (.lst xs) ∧ xs.length = i ∧ ∀ x ∈ xs, PersonAt H' x)
      ⟨none, none, none, [], rfl, (Kp.new hl _).trans k1, P1, k1 _ _ nl upd_same, rfl, am0⟩ ?_ ?_
    · rintro i σ H' hi ⟨y3, y4, y5, xs, rfl, k', P', el, ln, ps⟩
      refine ⟨_, rfl, p, 40, rfl, P', by decide, by decide, fun v2 H2 k2 P2 a2 b2 => ⟨_, _, rfl, rfl, ?_⟩⟩
      refine ⟨_, rfl, p, 9, rfl, P2, by decide, by decide, fun v2' H2' k2' P2' a2' b2' => ?_⟩
      refine ⟨_, rfl, p, 9000, rfl, P2', by decide, by decide, fun v3 H3 k3 P3 a3 b3 => ⟨_, _, rfl, rfl, ?_⟩⟩
      refine ⟨(by show 3 ≤ sizeLine; decide), fun m hm => ?_⟩
      refine ⟨_, rfl, p, 5, rfl, P3.new hm _, by decide, by decide, fun v4 H4 k4 P4 a4 b4 => ?_⟩
      refine ⟨_, _, rfl, rfl, ⟨by decide, by decide⟩, ?_⟩
      obtain ⟨_, g5, n5, rfl, a5, b5⟩ := pick (i := v4 / 2) (xs := [.int (0 - v2), .int v2', .int (v3 - 4000)]) (Within (-9999) 9998) (by omega) (by show v4 / 2 < 3; omega) (am1 ⟨_, rfl, by omega, by omega⟩ (am1 ⟨_, rfl, by omega, by omega⟩ (am1 ⟨_, rfl, by omega, by omega⟩ am0)))
      refine ⟨m, _, _, _, rfl, rfl, SqL.of (k4 _ _ (P3.free hm) upd_same), g5, ?_⟩
      have kA : Kp p H' H4 := k2.trans (k2'.trans (k3.trans ((Kp.new hm _).trans k4)))
      refine ⟨_, rfl, _, _, rfl, rfl, ?_⟩
      refine ⟨_, rfl, p, 60, rfl, P4, by decide, by decide, fun v6 H6 k6 P6 a6 b6 => ?_⟩
      refine ⟨_, rfl, p, 9999, rfl, P6, by decide, by decide, fun v7 H7 k7 P7 a7 b7 => ?_⟩
      refine ⟨(by show 2 ≤ sizeLine; decide), fun m2 hm2 => ?_⟩
      refine ⟨_, rfl, p, 2, rfl, P7.new hm2 _, by decide, by decide, fun v8 H8 k8 P8 a8 b8 => ?_⟩
      obtain ⟨_, g9, n9, rfl, a9, b9⟩ := pick (xs := [.int v6, .int v7]) (Within 0 9998) a8 b8 (am1 ⟨_, rfl, by omega, by omega⟩ (am1 ⟨_, rfl, by omega, by omega⟩ am0))
      refine ⟨m2, _, v8, _, rfl, rfl, SqL.of (k8 _ _ (P7.free hm2) upd_same), g9, _, _, rfl, rfl, _, _, rfl, ?_⟩
      have kB : Kp p H4 H8 := k6.trans (k7.trans ((Kp.new hm2 _).trans k8))
      have hd : n5 < (if n5 + 1 + n9 < 9999 then n5 + 1 + n9 else 9999) ∧ (if n5 + 1 + n9 < 9999 then n5 + 1 + n9 else 9999) ≤ 9999 := by
        split <;> omega
      generalize (if n5 + 1 + n9 < 9999 then n5 + 1 + n9 else 9999) = dd at hd
      have kC := kA.trans kB
      have el8 := kC _ _ nl el
      refine ⟨_, rfl, .inl ⟨rfl, _, SqL.of el8⟩, _, rfl, _, rfl, (by show 2 ≤ sizeLine; decide), fun m3 hm3 => ?_⟩
      refine ⟨_, rfl, p, 2, rfl, P8.new hm3 _, by decide, by decide, fun v10 H10 k10 P10 a10 b10 => ?_⟩
      obtain ⟨vd, g11, hvd⟩ := pick (xs := [.non, .int dd]) (fun d => d = .non ∨ ∃ i : Int, d = .int i ∧ n5 < i ∧ i ≤ 9999) a10 b10 (am1 (.inl rfl) (am1 (.inr ⟨_, rfl, hd⟩) am0))
      refine ⟨m3, _, v10, _, rfl, rfl, SqL.of (k10 _ _ (P8.free hm3) upd_same), g11, (by show 2 ≤ sizeLine; decide), fun t ht => ?_⟩
      have kD := (kC.trans ((Kp.new hm3 _).trans k10)).trans (Kp.new (p := p) ht (.tup [.int n5, vd]))
      have elD := kD _ _ nl el
      have PD : PenAt (upd H10 t (.tup [.int n5, vd])) p := P10.new ht _
      refine ⟨l, _, _, rfl, rfl, elD, small1000 (by omega), ?_⟩
      have kE : ∀ b o, b ≠ p → b ≠ l → H' b = some o → (upd (upd H10 t (.tup [.int n5, vd])) l (.lst (xs ++ [.ref t]))) b = some o := fun b o n1 n2 e => by
        rw [upd_ne n2]
        exact kD _ _ n1 e
      have ntl : t ≠ l := fun z => by
        have := (kC.trans ((Kp.new hm3 _).trans k10)) _ _ nl el
        rw [z, this] at ht
        cases ht
      refine ⟨_, _, _, xs ++ [.ref t], rfl, fun b o n1 e => ?_, ?_, upd_same, ?_, fun x hx => ?_⟩
      · by_cases hb : b = l
        · rw [hb, hl] at e
          cases e
        · exact kE b o n1 hb (k' _ _ n1 e)
      · obtain ⟨x1, x2, x3, x4, e1, e2⟩ := PD
        exact ⟨x1, x2, x3, x4, by rw [upd_ne nl.symm]; exact e1, e2⟩
      · rw [List.length_append, ln]
        rfl
      · rcases List.mem_append.mp hx with hx | hx
        · obtain ⟨a, b, d, e, h1, r⟩ := ps x hx
          exact ⟨a, b, d, e, kE _ _ (P'.ne h1 fun _ z => by cases z) (fun z => by rw [z, el] at h1; cases h1) h1, r⟩
        · rw [List.mem_singleton.mp hx]
          exact ⟨t, n5, vd, rfl, by rw [upd_ne ntl, upd_same], by omega, by omega, hvd⟩
    · rintro σ H' ⟨y3, y4, y5, xs, rfl, k', P', el, ln, ps⟩
      refine ⟨_, rfl, l, xs, rfl, .inl ⟨SqL.of el, fun t ht => ?_⟩⟩
      have kF : Kp p H' (upd H' t (.tup xs)) := Kp.new ht _
      exact q t (least + v1).toNat _ (k'.trans kF) (P'.new ht _) ⟨xs, upd_same, ln, fun x hx => (ps x hx).kp kF P'⟩ (by omega) (by omega)
abbrev sFew : Stmt := topS 58
abbrev nFew : List Str := ["_law_pen_here", "_law_some", "_law_most", "_law_left"]
abbrev pFew : List Str := ["_law_pen_here", "_law_some", "_law_most"]
theorem scFew : FnScope nFew pFew (defScope sFew) := ⟨rfl, rfl, rfl, by decide +kernel, rfl, by decide +kernel, by decide +kernel⟩
def spFew (K : PySem.W.Frag) : Sp := fun vs H Q _ => ∃ (p a : Addr) (most : Int) (ns : List Int), vs = [.ref p, .ref a, .int most] ∧ PenAt H p ∧ SqL K H a (ns.map V.int) ∧ 0 ≤ most ∧ most ≤ 1000 ∧ ns.length ≤ 1000 ∧
  ∀ t (rs ls : List Int) H', Kp p H H' → PenAt H' p → H' t = some (.tup (rs.map V.int)) → (rs ++ ls).Perm ns → rs.Pairwise (· ≤ ·) → rs.length ≤ most → Q (.ref t) H'
theorem ok_few {f : Addr} {fd : FuncData} {k : Nat} (F : Fun K "_law_few" "_law_few" sFew f fd) (C__law_draw : CDraw P w K mg base k) (C__law_mixed : CallOk P w K mg base k "_law_mixed" ["_law_pen_here", "_law_some"] (spMixed K)) (m_tuple : mg "tuple" = none) (m_sorted : mg "sorted" = none) : FnOk P w K mg base CX0 (k + 1) f fd pFew (spFew K) := by
  refine F.ok scFew (fun vs H Q E h => ?_) (fun cdv A outer s H vs Q E hr h => ?_)
  · obtain ⟨p, a, most, ns, rfl, _⟩ := h
    rfl
  · obtain ⟨p, a, most, ns, rfl, hP, hS, hm0, hm1, hln, q⟩ := h
    have nd := scFew.nd
    refine ⟨_, pss_cons (ps_set (i := 3) nd rfl (.inl rfl) (pe_call C__law_mixed.ok hr (by rfl) C__law_mixed.g C__law_mixed.kp C__law_mixed.b .nil pass0 (pa_cons (pv 0) (pa_cons (pv 1) pa_nil))))
      (pss_one (ps_ret (pe_callTy call_tuple_of (by rfl) m_tuple (by decide +kernel) (pa_cons (pe_callB cr_sortedI (by rfl) m_sorted (by decide +kernel) (pa_cons (pe_slice sl_list (pv 3) po_none (po_some (pe_call C__law_draw.ok hr (by rfl) C__law_draw.g C__law_draw.kp C__law_draw.b .nil pass0 (pa_cons (pv 0) (pa_cons (pe_op op_add (pv 2) pe_int) pa_nil))))) pa_nil)) pa_nil)))), ?_⟩
    refine ⟨_, rfl, _, rfl, p, a, _, rfl, hP, .inl hS, by rw [List.length_map]; exact hln, fun l ys H1 k1 P1 nl el pm => ?_⟩
    obtain ⟨ms, rfl, pm2⟩ := perm_pairs V.int pm ns rfl
    have nlp : l ≠ p := hP.free nl
    refine ⟨_, rfl, _, rfl, _, rfl, _, _, rfl, rfl, p, most + 1, rfl, P1, by omega, by omega, fun v H2 k2 P2 a2 b2 => ?_⟩
    have el2 := k2 _ _ nlp el
    refine ⟨_, rfl, l, _, rfl, SqL.of el2, fun s1 ns1 => ?_⟩
    rw [cutTake _ _ a2]
    have P3 := P2.new ns1 (.lst ((ms.take v.toNat).map V.int))
    have k3 : Kp p H2 _ := Kp.new ns1 (.lst ((ms.take v.toNat).map V.int))
    refine ⟨s1, _, rfl, SqL.of upd_same, fun rs m pm3 up nm => ?_⟩
    refine ⟨m, _, rfl, .inl ⟨SqL.of upd_same, fun t nt => ?_⟩⟩
    refine q t rs (ms.drop v.toNat) _ (k1.trans (k2.trans (k3.trans ((Kp.new nm _).trans (Kp.new nt _))))) ((P3.new nm _).new nt _) upd_same ?_ up ?_
    · refine (List.Perm.append_right _ pm3).trans ?_
      rw [List.take_append_drop]
      exact pm2
    · rw [pm3.length_eq, List.length_take]
      omega
end
end Deed

namespace Deed
open PySem PySem.Spec PyProof.Rows L2 LamX
section
variable {P : Program} {w : World} {K : PySem.W.Frag} {mg : Str → Option Value} {base : Heap}
def rgI (n : Nat) : List Int := (List.range n).map fun i : Nat => (i : Int)
theorem rgV_ints (n : Nat) : rgV 0 (n : Int) = (rgI n).map V.int := by
  unfold rgV rgI
  rw [List.map_map]
  simp
theorem rgI_len (n : Nat) : (rgI n).length = n := by unfold rgI; simp
abbrev sDeed : Stmt := topS 59
abbrev nDeed : List Str := ["_law_pen_here", "_law_number_here", "_law_folk_here", "_law_deeds", "_law_both", "_law_giver", "_law_taker", "_law_head"]
abbrev pDeed : List Str := ["_law_pen_here", "_law_number_here", "_law_folk_here", "_law_deeds"]
theorem scDeed : FnScope nDeed pDeed (defScope sDeed) := ⟨rfl, rfl, rfl, by decide +kernel, rfl, by decide +kernel, by decide +kernel⟩
def spDeed (K : PySem.W.Frag) : Sp := fun vs H Q _ => ∃ (p fk ld : Addr) (num : Int) (n : Nat) (ds : List Int), vs = [.ref p, .int num, .ref fk, .ref ld] ∧ PenAt H p ∧ FolkAt H fk n ∧ 2 ≤ n ∧ n ≤ 6 ∧ H ld = some (.lst (ds.map V.int)) ∧ ld ≠ p ∧ ds.Nodup ∧ ds.length ≤ 1000 ∧ (∀ d ∈ ds, d < num) ∧
  ∀ a (e : En) H', Kp p H H' → PenAt H' p → EntAt H' a e → e.num = num → e.isDeed = true → (∀ as, EnOk n ds as e) → Q (.ref a) H'
theorem ok_deed {f : Addr} {fd : FuncData} {k : Nat} (F : Fun K "_law_deed" "_law_deed" sDeed f fd) (C__law_draw : CDraw P w K mg base k) (C__law_day : CallOk P w K mg base k "_law_day" pDay spDay) (C__law_mixed : CallOk P w K mg base k "_law_mixed" ["_law_pen_here", "_law_some"] (spMixed K)) (C__law_few : CallOk P w K mg base k "_law_few" pFew (spFew K)) (m_list : mg "list" = none) (m_range : mg "range" = none) (m_len : mg "len" = none) : FnOk P w K mg base CX0 (k + 1) f fd pDeed (spDeed K) := by
  refine F.ok scDeed (fun vs H Q E h => ?_) (fun cdv A outer s H vs Q E hr h => ?_)
  · obtain ⟨p, fk, ld, num, n, ds, rfl, _⟩ := h
    rfl
  · obtain ⟨p, fk, ld, num, n, ds, rfl, hP, hF, h2, h6, eld, nld, hnd, hdl, hdn, q⟩ := h
    have nd := scDeed.nd
    refine ⟨_, pss_cons (ps_set (i := 4) nd rfl (.inl rfl) (pe_call C__law_mixed.ok hr (by rfl) C__law_mixed.g C__law_mixed.kp C__law_mixed.b .nil pass0 (pa_cons (pv 0) (pa_cons (pe_listRg (by rfl) (by rfl) m_list (prg_1 (by rfl) m_range (pe_callB call_len_seq (by rfl) m_len (by decide +kernel) (pa_cons (pv 2) pa_nil)))) pa_nil))))
      (pss_cons (ps_par (i := 5) (j := 6) (by rfl) nd rfl rfl (by decide) rfl rfl (pa_cons (pe_ix ix_list (pv 4) pe_int (fun _ _ => rfl)) (pa_cons (pe_ix ix_list (pv 4) pe_int (fun _ _ => rfl)) pa_nil)) (by rfl))
      (pss_cons (ps_set (i := 7) nd rfl (.inl rfl) (pe_tup (pa_cons (pv 1) (pa_cons (pe_call C__law_day.ok hr (by rfl) C__law_day.g C__law_day.kp C__law_day.b .nil pass0 (pa_cons (pv 0) pa_nil)) (pa_cons (pe_call C__law_day.ok hr (by rfl) C__law_day.g C__law_day.kp C__law_day.b .nil pass0 (pa_cons (pv 0) pa_nil)) (pa_cons (pe_call C__law_draw.ok hr (by rfl) C__law_draw.g C__law_draw.kp C__law_draw.b .nil pass0 (pa_cons (pv 0) (pa_cons pe_int pa_nil))) (pa_cons pe_str (pa_cons (pv 5) (pa_cons (pv 6) pa_nil)))))))))
      (pss_one (ps_ret (pe_op op_catT (pv 7) (pe_tup (pa_cons (pe_call C__law_few.ok hr (by rfl) C__law_few.g C__law_few.kp C__law_few.b .nil pass0 (pa_cons (pv 0) (pa_cons (pv 3) (pa_cons pe_int pa_nil)))) (pa_cons (pe_call C__law_few.ok hr (by rfl) C__law_few.g C__law_few.kp C__law_few.b .nil pass0 (pa_cons (pv 0) (pa_cons (pe_slice sl_list (pv 4) (po_some pe_int) po_none) (pa_cons pe_int pa_nil)))) pa_nil)))))))), ?_⟩
    obtain ⟨xs, ef, hxl, _⟩ := id hF
    refine ⟨_, rfl, _, rfl, fk, _, rfl, .inr (SqT.of ef), _, rfl, ?_, fun l1 nl1 => ?_⟩
    · unfold RgOk
      rw [hxl]
      refine ⟨by omega, by omega, by omega, by omega, ?_⟩
      exact Nat.le_of_lt (small1000 (by omega))
    rw [hxl, rgV_ints]
    have k1 : Kp p H _ := Kp.new nl1 (.lst ((rgI n).map V.int))
    have P1 := hP.new nl1 (.lst ((rgI n).map V.int))
    have el1 : (upd H l1 (.lst ((rgI n).map V.int))) l1 = some (.lst ((rgI n).map V.int)) := upd_same
    generalize upd H l1 (.lst ((rgI n).map V.int)) = H1 at k1 P1 el1
    refine ⟨p, l1, _, rfl, P1, .inl (SqL.of el1), by rw [List.length_map, rgI_len]; omega, fun l ys H2 k2 P2 nl el pm => ?_⟩
    obtain ⟨ms, rfl, pm2⟩ := perm_pairs V.int pm _ rfl
    have hml : ms.length = n := by rw [pm2.length_eq, rgI_len]
    have hmr : ∀ x ∈ ms, 0 ≤ x ∧ x < n := fun x hx => by
      have hx := pm2.mem_iff.mp hx
      unfold rgI at hx
      obtain ⟨i, hi, rfl⟩ := List.mem_map.mp hx
      have := List.mem_range.mp hi
      omega
    have hmn : ms.Nodup := pm2.nodup_iff.mpr (by
      have h := List.nodup_range (n := n)
      unfold rgI
      exact List.Pairwise.map _ (fun a b h z => h (by omega)) h)
    have nlp : l ≠ p := P1.free nl
    obtain ⟨g, t, r, rfl⟩ : ∃ g t r, ms = g :: t :: r := by
      match ms, hml with
      | [], h => exact absurd h (by simp; omega)
      | [_], h => exact absurd h (by simp; omega)
      | a :: b :: c, _ => exact ⟨a, b, c, rfl⟩
    refine ⟨_, rfl, l, _, _, _, rfl, rfl, SqL.of el, (atI_nat (j := 0) rfl), _, rfl, l, _, _, _, rfl, rfl, SqL.of el, (atI_nat (j := 1) rfl), _, _, rfl, ?_⟩
    refine ⟨_, rfl, _, rfl, p, rfl, P2, fun v1 H3 k3 P3 a1 b1 => ?_⟩
    refine ⟨_, rfl, p, rfl, P3, fun v2 H4 k4 P4 a2 b2 => ?_⟩
    refine ⟨_, rfl, p, 4, rfl, P4, by decide, by decide, fun v3 H5 k5 P5 a3 b3 => ?_⟩
    refine ⟨_, rfl, _, rfl, (by show 7 ≤ sizeLine; decide), fun th nth => ?_⟩
    have k6 : Kp p H5 _ := Kp.new nth (.tup [.int num, .int v1, .int v2, .int v3, .str "deed", .int g, .int t])
    have P6 := P5.new nth (.tup [.int num, .int v1, .int v2, .int v3, .str "deed", .int g, .int t])
    have eth : (upd H5 th (.tup [.int num, .int v1, .int v2, .int v3, .str "deed", .int g, .int t])) th = some (.tup [.int num, .int v1, .int v2, .int v3, .str "deed", .int g, .int t]) := upd_same
    generalize upd H5 th (.tup [.int num, .int v1, .int v2, .int v3, .str "deed", .int g, .int t]) = H6 at k6 P6 eth
    have k26 : Kp p H2 H6 := k3.trans (k4.trans (k5.trans k6))
    have k06 : Kp p H H6 := k1.trans (k2.trans k26)
    refine ⟨_, rfl, _, rfl, _, rfl, p, ld, 2, ds, rfl, P6, SqL.of (k06 _ _ nld eld), by decide, by decide, hdl, fun tr rs ls H7 k7 P7 etr pr upr hrl => ?_⟩
    have el7 := k7 _ _ nlp (k26 _ _ nlp el)
    refine ⟨_, rfl, _, rfl, _, rfl, l, _, rfl, SqL.of el7, fun s1 ns1 => ?_⟩
    rw [show cutV ((g :: t :: r).map V.int) (some 2) none = r.map V.int from cutDrop V.int (g :: t :: r) 2]
    have k8 : Kp p H7 _ := Kp.new ns1 (.lst (r.map V.int))
    have P8 := P7.new ns1 (.lst (r.map V.int))
    have es1 : (upd H7 s1 (.lst (r.map V.int))) s1 = some (.lst (r.map V.int)) := upd_same
    generalize upd H7 s1 (.lst (r.map V.int)) = H8 at k8 P8 es1
    have hrn : r.length ≤ 1000 := by
      have : (g :: t :: r).length = n := hml
      simp at this
      omega
    refine ⟨p, s1, 3, r, rfl, P8, SqL.of es1, by decide, by decide, hrn, fun tw ws ls2 H9 k9 P9 etw pw upw hwl => ?_⟩
    refine ⟨(by show 2 ≤ sizeLine; decide), fun t4 nt4 => ?_⟩
    have k10 : Kp p H9 _ := Kp.new nt4 (.tup [.ref tr, .ref tw])
    have P10 := P9.new nt4 (.tup [.ref tr, .ref tw])
    have et4 : (upd H9 t4 (.tup [.ref tr, .ref tw])) t4 = some (.tup [.ref tr, .ref tw]) := upd_same
    generalize upd H9 t4 (.tup [.ref tr, .ref tw]) = H10 at k10 P10 et4
    have k79 : Kp p H7 H10 := k8.trans (k9.trans k10)
    have eth10 := (k7.trans k79).tup P6 _ _ eth
    refine ⟨th, t4, _, _, rfl, rfl, SqT.of eth10, SqT.of et4, List.cons_ne_nil _ _, (by show 9 ≤ sizeLine; decide), fun z0 => absurd z0 (List.cons_ne_nil _ _), fun _ b hb => ?_⟩
    have kb : Kp p H10 (upd H10 b (.tup ([.int num, .int v1, .int v2, .int v3, .str "deed", .int g, .int t] ++ [.ref tr, .ref tw]))) := Kp.new hb _
    have etr10 := kb.tup P10 _ _ (k79.tup P7 _ _ etr)
    have etw10 := kb.tup P10 _ _ (k10.tup P9 _ _ etw)
    have hg := hmr g (by simp)
    have ht := hmr t (by simp)
    rw [List.nodup_cons, List.nodup_cons] at hmn
    have hwr : ∀ y ∈ ws, y ∈ r := fun y hy => pw.mem_iff.mp (List.mem_append_left _ hy)
    have hrd : ∀ y ∈ rs, y ∈ ds := fun y hy => pr.mem_iff.mp (List.mem_append_left _ hy)
    refine q b ⟨num, v1, v2, v3, .deed g t rs ws⟩ _ (k06.trans (k7.trans (k79.trans kb))) (P10.new hb _) ⟨tr, tw, upd_same, etr10, etw10⟩ rfl rfl fun as => ?_
    refine ⟨⟨a1, b1⟩, ⟨a2, b2⟩, ⟨a3, by show v3 ≤ 3; omega⟩, hg, ht, fun z => hmn.1 (z ▸ List.mem_cons_self), by omega, rising_of ?_ upr, fun y hy => ⟨hrd y hy, hdn _ (hrd y hy)⟩, by omega, rising_of ?_ upw, fun y hy => ?_⟩
    · exact (List.nodup_append.mp (pr.nodup_iff.mpr hnd)).1
    · exact (List.nodup_append.mp (pw.nodup_iff.mpr hmn.2.2)).1
    · have hy := hwr y hy
      have h1 := hmr y (by simp [hy])
      exact ⟨h1.1, h1.2, fun z => hmn.1 (z ▸ List.mem_cons_of_mem _ hy), fun z => hmn.2.1 (z ▸ hy)⟩
abbrev sAct : Stmt := topS 60
abbrev nAct : List Str := ["_law_pen_here", "_law_number_here", "_law_deeds", "_law_acts", "_law_word", "_law_some"]
abbrev pAct : List Str := ["_law_pen_here", "_law_number_here", "_law_deeds", "_law_acts"]
theorem scAct : FnScope nAct pAct (defScope sAct) := ⟨rfl, rfl, rfl, by decide +kernel, rfl, by decide +kernel, by decide +kernel⟩
def spAct (K : PySem.W.Frag) : Sp := fun vs H Q _ => ∃ (p ld la : Addr) (num : Int) (ds as : List Int), vs = [.ref p, .int num, .ref ld, .ref la] ∧ PenAt H p ∧ H ld = some (.lst (ds.map V.int)) ∧ ld ≠ p ∧ H la = some (.lst (as.map V.int)) ∧ la ≠ p ∧ ds ≠ [] ∧ ds.length ≤ 1000 ∧ as.length ≤ 1000 ∧ (∀ d ∈ ds, d < num) ∧ (∀ d ∈ as, d < num) ∧
  ∀ a (e : En) H', Kp p H H' → PenAt H' p → EntAt H' a e → e.num = num → e.isDeed = false → (∀ n, EnOk n ds as e) → Q (.ref a) H'
theorem ok_act {f : Addr} {fd : FuncData} {k : Nat} (F : Fun K "_law_act" "_law_act" sAct f fd) (C__law_draw : CDraw P w K mg base k) (C__law_day : CallOk P w K mg base k "_law_day" pDay spDay) (m_len : mg "len" = none) : FnOk P w K mg base CX0 (k + 1) f fd pAct (spAct K) := by
  refine F.ok scAct (fun vs H Q E h => ?_) (fun cdv A outer s H vs Q E hr h => ?_)
  · obtain ⟨p, ld, la, num, ds, as, rfl, _⟩ := h
    rfl
  · obtain ⟨p, ld, la, num, ds, as, rfl, hP, eld, nld, ela, nla, hne, hdl, hal, hdn, han, q⟩ := h
    have nd := scAct.nd
    refine ⟨_, pss_cons (ps_set (i := 4) nd rfl (.inl rfl) (pe_ix ix_list (pe_lst (pa_cons pe_str (pa_cons pe_str (pa_cons pe_str pa_nil)))) (pe_call C__law_draw.ok hr (by rfl) C__law_draw.g C__law_draw.kp C__law_draw.b .nil pass0 (pa_cons (pv 0) (pa_cons pe_int pa_nil))) (fun _ _ => rfl)))
      (pss_cons (ps_set (i := 5) nd rfl (.inl rfl) (pv 2))
      (pss_cons (ps_if (pt_cmpR op_eq (pv 4) pe_str (nomark _)) (pss_one (ps_set (i := 5) nd rfl (.inl rfl) (pv 3))) pss_nil)
      (pss_cons (ps_if (pt_cmpR (op_eqD hr.units) (pv 5) (pe_lst pa_nil) (nomark _)) (pss_one (ps_par (i := 4) (j := 5) (by rfl) nd rfl rfl (by decide) rfl rfl (pa_cons pe_str (pa_cons (pv 2) pa_nil)) (by rfl))) pss_nil)
      (pss_one (ps_ret (pe_tup (pa_cons (pv 1) (pa_cons (pe_call C__law_day.ok hr (by rfl) C__law_day.g C__law_day.kp C__law_day.b .nil pass0 (pa_cons (pv 0) pa_nil)) (pa_cons (pe_call C__law_day.ok hr (by rfl) C__law_day.g C__law_day.kp C__law_day.b .nil pass0 (pa_cons (pv 0) pa_nil)) (pa_cons (pe_call C__law_draw.ok hr (by rfl) C__law_draw.g C__law_draw.kp C__law_draw.b .nil pass0 (pa_cons (pv 0) (pa_cons pe_int pa_nil))) (pa_cons (pv 4) (pa_cons (pe_ix ix_list (pv 5) (pe_call C__law_draw.ok hr (by rfl) C__law_draw.g C__law_draw.kp C__law_draw.b .nil pass0 (pa_cons (pv 0) (pa_cons (pe_callB call_len_seq (by rfl) m_len (by decide +kernel) (pa_cons (pv 5) pa_nil)) pa_nil))) (fun _ _ => rfl)) pa_nil)))))))))))), ?_⟩
    refine ⟨(by show 3 ≤ sizeLine; decide), fun l1 nl1 => ?_⟩
    refine ⟨_, rfl, p, 3, rfl, hP.new nl1 _, by decide, by decide, fun v0 H1 k1 P1 a0 b0 => ?_⟩
    obtain ⟨_, gx, x, rfl, hx⟩ := pick (xs := [.str "paid", .str "void", .str "undone"]) (fun v => ∃ x : Str, v = .str x ∧ (x = "paid" ∨ x = "void" ∨ x = "undone")) a0 b0 (am1 ⟨_, rfl, .inl rfl⟩ (am1 ⟨_, rfl, .inr (.inl rfl)⟩ (am1 ⟨_, rfl, .inr (.inr rfl)⟩ am0)))
    have k01 : Kp p H H1 := (Kp.new nl1 _).trans k1
    refine ⟨l1, _, _, _, rfl, rfl, SqL.of (k1 _ _ (hP.free nl1) upd_same), gx, ?_⟩
    have eld1 := k01 _ _ nld eld
    have ela1 := k01 _ _ nla ela
    refine ⟨_, rfl, ?_⟩
    refine ⟨_, rfl, rfl, _, rfl, ?_⟩
    refine (Classical.em (x = ("undone" : Str))).elim (fun hu => ?U) (fun hu => ?NU)
    case' U =>
      rw [decide_eq_true (show V.str x = V.str "undone" by rw [hu])]
      refine iteT ?_
      refine ⟨_, rfl, ?_⟩
      refine ⟨_, rfl, Nat.zero_le _, fun l2 nl2 => ?_⟩
      have s2 := same_new nl2 (.lst [])
      have el2 : (upd H1 l2 (.lst [])) l2 = some (.lst (([] : List Int).map V.int)) := upd_same
      generalize upd H1 l2 (.lst []) = H2 at s2 el2
      refine ⟨.list (as.map PyData.int), .list (([] : List Int).map PyData.int), .lst (SqL.of (s2 _ _ ela1)) (dp_ints _), .lst (SqL.of el2) (dp_ints _), shaped_ints _, shaped_ints _, _, rfl, ?_⟩
      rw [eqv_ints]
      refine (Classical.em (as = [])).elim (fun ha => ?A1) (fun ha => ?B1)
      case' A1 =>
        rw [decide_eq_true ha]
        refine iteT ?_
        refine ⟨_, rfl, _, _, rfl, ?A⟩
      case' B1 =>
        rw [decide_eq_false ha]
        refine iteF ?B
    case' NU =>
      rw [decide_eq_false (show ¬ V.str x = V.str "undone" from fun z => hu (by injection z))]
      refine iteF ?_
      refine ⟨_, rfl, Nat.zero_le _, fun l2 nl2 => ?_⟩
      have s2 := same_new nl2 (.lst [])
      have el2 : (upd H1 l2 (.lst [])) l2 = some (.lst (([] : List Int).map V.int)) := upd_same
      generalize upd H1 l2 (.lst []) = H2 at s2 el2
      refine ⟨.list (ds.map PyData.int), .list (([] : List Int).map PyData.int), .lst (SqL.of (s2 _ _ eld1)) (dp_ints _), .lst (SqL.of el2) (dp_ints _), shaped_ints _, shaped_ints _, _, rfl, ?_⟩
      rw [eqv_ints, decide_eq_false hne]
      refine iteF ?C
    case' A1 =>
      obtain ⟨xw, ss, sa, es, nsa, hss, hsl, hcase, exw⟩ : ∃ (xw : Str) (ss : List Int) (sa : Addr), H2 sa = some (.lst (ss.map V.int)) ∧ sa ≠ p ∧ ss ≠ [] ∧ ss.length ≤ 1000 ∧ (∀ o ∈ ss, (((xw = "undone" ∧ o ∈ as) ∨ ((xw = "paid" ∨ xw = "void") ∧ o ∈ ds)) ∧ o < num)) ∧ (xw = "paid" ∧ sa = ld) :=
        ⟨"paid", ds, ld, s2 _ _ eld1, nld, hne, hdl, fun o ho => ⟨.inr ⟨.inl rfl, ho⟩, hdn o ho⟩, rfl, rfl⟩
      obtain ⟨rfl, rfl⟩ := exw
    case' B1 =>
      obtain ⟨xw, ss, sa, es, nsa, hss, hsl, hcase, exw⟩ : ∃ (xw : Str) (ss : List Int) (sa : Addr), H2 sa = some (.lst (ss.map V.int)) ∧ sa ≠ p ∧ ss ≠ [] ∧ ss.length ≤ 1000 ∧ (∀ o ∈ ss, (((xw = "undone" ∧ o ∈ as) ∨ ((xw = "paid" ∨ xw = "void") ∧ o ∈ ds)) ∧ o < num)) ∧ (xw = x ∧ sa = la) :=
        ⟨x, as, la, s2 _ _ ela1, nla, ha, hal, fun o ho => ⟨.inl ⟨hu, ho⟩, han o ho⟩, rfl, rfl⟩
      obtain ⟨rfl, rfl⟩ := exw
    case' NU =>
      obtain ⟨xw, ss, sa, es, nsa, hss, hsl, hcase, exw⟩ : ∃ (xw : Str) (ss : List Int) (sa : Addr), H2 sa = some (.lst (ss.map V.int)) ∧ sa ≠ p ∧ ss ≠ [] ∧ ss.length ≤ 1000 ∧ (∀ o ∈ ss, (((xw = "undone" ∧ o ∈ as) ∨ ((xw = "paid" ∨ xw = "void") ∧ o ∈ ds)) ∧ o < num)) ∧ (xw = x ∧ sa = ld) :=
        ⟨x, ds, ld, s2 _ _ eld1, nld, hne, hdl, fun o ho => ⟨.inr ⟨(by rcases hx with h | h | h; exact .inl h; exact .inr h; exact absurd h hu), ho⟩, hdn o ho⟩, rfl, rfl⟩
      obtain ⟨rfl, rfl⟩ := exw
    all_goals
      have P2 : PenAt H2 p := by
        obtain ⟨x1, x2, x3, x4, z1, z2⟩ := P1
        exact ⟨x1, x2, x3, x4, s2 _ _ z1, z2⟩
      have k02 : Kp p H H2 := k01.trans (Kp.same s2)
      refine ⟨_, rfl, _, rfl, p, rfl, P2, fun v1 H3 k3 P3 a1 b1 => ?_⟩
      refine ⟨_, rfl, p, rfl, P3, fun v2 H4 k4 P4 a2 b2 => ?_⟩
      refine ⟨_, rfl, p, 4, rfl, P4, by decide, by decide, fun v3 H5 k5 P5 a3 b3 => ?_⟩
      have k25 : Kp p H2 H5 := k3.trans (k4.trans k5)
      have es5 := k25 _ _ nsa es
      have hlpos : 0 < ss.length := List.length_pos_iff.mpr hss
      refine ⟨_, rfl, _, rfl, _, rfl, _, rfl, _, _, rfl, .inl (SqL.of es5), p, _, rfl, P5, by rw [List.length_map]; omega, by rw [List.length_map]; omega, fun v4 H6 k6 P6 a4 b4 => ?_⟩
      rw [List.length_map] at b4
      have hk : v4.toNat < ss.length := by omega
      refine ⟨_, _, _, .int ss[v4.toNat], rfl, rfl, SqL.of (k6 _ _ nsa es5), at_of (j := v4.toNat) (by omega) (by rw [List.getElem?_map, List.getElem?_eq_getElem hk]; rfl), (by show 6 ≤ sizeLine; decide), fun t3 nt3 => ?_⟩
      exact q t3 ⟨num, v1, v2, v3, .act _ ss[v4.toNat]⟩ _ (k02.trans (k25.trans (k6.trans (Kp.new nt3 _)))) (P6.new nt3 _) upd_same rfl rfl fun n => ⟨⟨a1, b1⟩, ⟨a2, b2⟩, ⟨a3, by show v3 ≤ 3; omega⟩, hcase _ (List.getElem_mem hk)⟩
end
end Deed

namespace Deed
open PySem PySem.Spec PyProof.Rows L2 LamX
theorem okE_snoc {n : Nat} {es : List En} {e : En} {num : Int} (hok : BkOk n es) (hlt : ∀ x ∈ es, x.num < num) (hnum : e.num = num) (h0 : 0 ≤ num) (h1 : num ≤ 30) (hEn : EnOk n (dn es) (an es) e) : BkOk n (es ++ [e]) := by
  have hd : ∀ x ∈ dn es, x ∈ dn (es ++ [e]) := fun x hx => by rw [dn_snoc]; exact List.mem_append_left _ hx
  have ha : ∀ x ∈ an es, x ∈ an (es ++ [e]) := fun x hx => by rw [an_snoc]; exact List.mem_append_left _ hx
  refine ⟨?_, fun e' he' => ?_, fun e' he' => ?_⟩
  · rw [List.map_append]
    refine List.nodup_append.mpr ⟨hok.nd, List.pairwise_singleton _ _, fun x hx y hy => ?_⟩
    obtain ⟨e', he', rfl⟩ := List.mem_map.mp hx
    have hy' : y = e.num := by simpa using hy
    rw [hy', hnum]
    exact Int.ne_of_lt (hlt e' he')
  · rcases List.mem_append.mp he' with he' | he'
    · exact hok.rng e' he'
    · rw [List.mem_singleton.mp he', hnum]
      omega
  · rcases List.mem_append.mp he' with he' | he'
    · exact (hok.ok e' he').mono hd ha
    · rw [List.mem_singleton.mp he']
      exact hEn.mono hd ha
theorem Kp.none {p q : Addr} {H H' : Hp} (k : Kp p H H') (n : q ≠ p) (h : H' q = none) : H q = none := by
  cases z : H q with
  | none => rfl
  | some o => rw [k _ _ n z] at h; cases h
section
variable {P : Program} {w : World} {K : PySem.W.Frag} {mg : Str → Option Value} {base : Heap}
abbrev sBook : Stmt := topS 61
abbrev nBook : List Str := ["_law_pen_here", "_law_most", "_law_folk_here", "_law_step", "_law_deeds", "_law_acts", "_law_entries", "_law_shift", "_law_k", "_law_number_here", "_law_age"]
abbrev pBook : List Str := ["_law_pen_here", "_law_most"]
theorem scBook : FnScope nBook pBook (defScope sBook) := ⟨rfl, rfl, rfl, by decide +kernel, rfl, by decide +kernel, by decide +kernel⟩
def spBook : Sp := fun vs H Q _ => ∃ (p : Addr) (most : Int), vs = [.ref p, .int most] ∧ PenAt H p ∧ 0 ≤ most ∧ most ≤ 16 ∧
  ∀ b fk t n age zs H', Kp p H H' → PenAt H' p → BookAt H' b fk t n age zs → (zs.length : Int) ≤ most → Q (.ref b) H'
theorem ok_book {f : Addr} {fd : FuncData} {k : Nat} (F : Fun K "_law_book" "_law_book" sBook f fd) (C__law_draw : CDraw P w K mg base k) (C__law_folk : CallOk P w K mg base k "_law_folk" pFolk spFolk) (C__law_deed : CallOk P w K mg base k "_law_deed" pDeed (spDeed K)) (C__law_act : CallOk P w K mg base k "_law_act" pAct (spAct K)) (C__law_mixed : CallOk P w K mg base k "_law_mixed" ["_law_pen_here", "_law_some"] (spMixed K)) (m_int : mg "int" = none) (m_range : mg "range" = none) (m_tuple : mg "tuple" = none) : FnOk P w K mg base CX0 (k + 1) f fd pBook spBook := by
  refine F.ok scBook (fun vs H Q E h => ?_) (fun cdv A outer s H vs Q E hr h => ?_)
  · obtain ⟨p, m, rfl, _⟩ := h
    rfl
  · obtain ⟨p, most, rfl, hP, hm0, hm1, q⟩ := h
    have nd := scBook.nd
    refine ⟨_, pss_cons (ps_par (i := 2) (j := 3) (by rfl) nd rfl rfl (by decide) rfl rfl (pa_cons (pe_call C__law_folk.ok hr (by rfl) C__law_folk.g C__law_folk.kp C__law_folk.b .nil pass0 (pa_cons (pv 0) (pa_cons pe_int pa_nil))) (pa_cons (pe_op op_add pe_int (pe_call C__law_draw.ok hr (by rfl) C__law_draw.g C__law_draw.kp C__law_draw.b .nil pass0 (pa_cons (pv 0) (pa_cons pe_int pa_nil)))) pa_nil)) (by rfl))
      (pss_cons (ps_par3 (i := 4) (j := 5) (l := 6) (by rfl) nd rfl rfl rfl (by decide) (by decide) (by decide) rfl rfl rfl (pa_cons (pe_lst pa_nil) (pa_cons (pe_lst pa_nil) (pa_cons (pe_lst pa_nil) pa_nil))) (by rfl))
      (pss_cons (ps_set (i := 7) nd rfl (.inl rfl) (pe_op op_mul (pe_call C__law_draw.ok hr (by rfl) C__law_draw.g C__law_draw.kp C__law_draw.b .nil pass0 (pa_cons (pv 0) (pa_cons pe_int pa_nil))) (pe_callTy call_int1 (by rfl) m_int (by decide +kernel) (pa_cons (pe_cmpR op_eq (pv 3) pe_int (nomark _)) pa_nil))))
      (pss_cons (ps_for PassesOwn.never rfl (pi_range1 rfl m_range (pa_cons (pe_call C__law_draw.ok hr (by rfl) C__law_draw.g C__law_draw.kp C__law_draw.b .nil pass0 (pa_cons (pv 0) (pa_cons (pe_op op_add (pv 1) pe_int) pa_nil))) pa_nil)) (pg_name (i := 8) nd rfl (.inl rfl))
        (pss_cons (ps_set (i := 9) nd rfl (.inl rfl) (pe_op op_add (pe_op op_mul (pv 8) (pv 3)) (pv 7)))
      (pss_one (ps_if (PW.pt (pw_or (pt_cmpR (op_eqD hr.units) (pv 4) (pe_lst pa_nil) (nomark _)) (pw_or1 (pt_cmpR op_lt (pe_call C__law_draw.ok hr (by rfl) C__law_draw.g C__law_draw.kp C__law_draw.b .nil pass0 (pa_cons (pv 0) (pa_cons pe_int pa_nil))) pe_int (nomark _))))) (pss_cons (ps_expr (pe_bm PySem.F.plainAttrs_list PySem.F.slot_list_append PySem.F.type_list_append mt_append (pv 6) (pa_cons (pe_call C__law_deed.ok hr (by rfl) C__law_deed.g C__law_deed.kp C__law_deed.b .nil pass0 (pa_cons (pv 0) (pa_cons (pv 9) (pa_cons (pv 2) (pa_cons (pv 4) pa_nil))))) pa_nil)))
      (pss_one (ps_expr (pe_bm PySem.F.plainAttrs_list PySem.F.slot_list_append PySem.F.type_list_append mt_append (pv 4) (pa_cons (pv 9) pa_nil))))) (pss_cons (ps_expr (pe_bm PySem.F.plainAttrs_list PySem.F.slot_list_append PySem.F.type_list_append mt_append (pv 6) (pa_cons (pe_call C__law_act.ok hr (by rfl) C__law_act.g C__law_act.kp C__law_act.b .nil pass0 (pa_cons (pv 0) (pa_cons (pv 9) (pa_cons (pv 4) (pa_cons (pv 5) pa_nil))))) pa_nil)))
      (pss_one (ps_expr (pe_bm PySem.F.plainAttrs_list PySem.F.slot_list_append PySem.F.type_list_append mt_append (pv 5) (pa_cons (pv 9) pa_nil)))))))))
      (pss_cons (ps_set (i := 10) nd rfl (.inl rfl) (pe_ix ix_list (pe_lst (pa_cons pe_int (pa_cons (pe_call C__law_draw.ok hr (by rfl) C__law_draw.g C__law_draw.kp C__law_draw.b .nil pass0 (pa_cons (pv 0) (pa_cons pe_int pa_nil))) (pa_cons (pe_call C__law_draw.ok hr (by rfl) C__law_draw.g C__law_draw.kp C__law_draw.b .nil pass0 (pa_cons (pv 0) (pa_cons pe_int pa_nil))) pa_nil)))) (pe_call C__law_draw.ok hr (by rfl) C__law_draw.g C__law_draw.kp C__law_draw.b .nil pass0 (pa_cons (pv 0) (pa_cons pe_int pa_nil))) (fun _ _ => rfl)))
      (pss_one (ps_ret (pe_tup (pa_cons (pv 2) (pa_cons (pv 10) (pa_cons (pe_callTy call_tuple_of (by rfl) m_tuple (by decide +kernel) (pa_cons (pe_call C__law_mixed.ok hr (by rfl) C__law_mixed.g C__law_mixed.kp C__law_mixed.b .nil pass0 (pa_cons (pv 0) (pa_cons (pv 6) pa_nil))) pa_nil)) pa_nil)))))))))), ?_⟩
    refine ⟨_, rfl, p, 2, rfl, hP, by decide, by decide, fun fk n H1 k1 P1 F1 hn2 hn6 => ?_⟩
    have hn2' : 2 ≤ n := by omega
    refine ⟨_, rfl, p, 2, rfl, P1, by decide, by decide, fun st0 H2 k2 P2 a2 b2 => ⟨_, _, rfl, rfl, _, _, rfl, ?_⟩⟩
    have F2 := F1.kp k2 P1
    have k12 := k1.trans k2
    refine ⟨Nat.zero_le _, fun ld hld => ?_⟩
    have nld : ld ≠ p := P2.free hld
    have hldH : H ld = none := k12.none nld hld
    refine ⟨Nat.zero_le _, fun la hla => ?_⟩
    have Pd := P2.new hld (.lst [])
    have nla : la ≠ p := Pd.free hla
    have nda : ld ≠ la := fun z => by rw [← z, upd_same] at hla; cases hla
    have hlaH : H la = none := (k12.trans (Kp.new hld _)).none nla hla
    refine ⟨Nat.zero_le _, fun lf hlf => ⟨_, _, _, rfl, ?_⟩⟩
    have Pa := Pd.new hla (.lst [])
    have nlf : lf ≠ p := Pa.free hlf
    have naf : la ≠ lf := fun z => by rw [← z, upd_same] at hlf; cases hlf
    have ndf : ld ≠ lf := fun z => by rw [← z, upd_ne nda, upd_same] at hlf; cases hlf
    have hlfH : H lf = none := (k12.trans ((Kp.new hld _).trans (Kp.new hla _))).none nlf hlf
    have k3 : Kp p H2 (upd (upd (upd H2 ld (.lst [])) la (.lst [])) lf (.lst [])) := ((Kp.new hld _).trans (Kp.new hla _)).trans (Kp.new hlf _)
    have P3 := Pa.new hlf (.lst [])
    have e3d : (upd (upd (upd H2 ld (.lst [])) la (.lst [])) lf (.lst [])) ld = some (.lst []) := by rw [upd_ne ndf, upd_ne nda, upd_same]
    have e3a : (upd (upd (upd H2 ld (.lst [])) la (.lst [])) lf (.lst [])) la = some (.lst []) := by rw [upd_ne naf, upd_same]
    have e3f : (upd (upd (upd H2 ld (.lst [])) la (.lst [])) lf (.lst [])) lf = some (.lst []) := upd_same
    generalize (upd (upd (upd H2 ld (.lst [])) la (.lst [])) lf (.lst [])) = H3 at k3 P3 e3d e3a e3f
    -- the shift
    refine ⟨_, rfl, p, 15, rfl, P3, by decide, by decide, fun sh H3' k3' P3' a3 b3 => ?_⟩
    refine ⟨_, rfl, rfl, .inr ⟨_, rfl, ?_⟩⟩
    refine ⟨_, _, rfl, rfl, .inl ⟨by omega, by omega⟩, ?_⟩
    obtain ⟨sf, esf, hsf⟩ : ∃ sf : Int, sh * (if decide (V.int (1 + st0) = V.int 1) = true then 1 else 0) = sf ∧ 0 ≤ sf ∧ ∀ i : Int, 0 ≤ i → i < 16 → i * (1 + st0) + sf ≤ 30 ∧ 0 ≤ i * (1 + st0) + sf := by
      have hst : st0 = 0 ∨ st0 = 1 := by omega
      rcases hst with rfl | rfl
      · exact ⟨sh, by simp, by omega, fun i h1 h2 => by omega⟩
      · exact ⟨0, by simp, by omega, fun i h1 h2 => by omega⟩
    dsimp only
    rw [esf]
    have k03 := k12.trans (k3.trans k3')
    refine ⟨_, rfl, _, rfl, _, _, rfl, rfl, p, most + 1, rfl, P3', by omega, by omega, fun many H4 k4 P4 a4 b4 => ?_⟩
    refine ⟨_, rfl, by omega, by omega, ?_⟩
    have k34 := k3'.trans k4
    refine for_range (lo := 0) (n := many.toNat) (fun i σ H' => ∃ y8 y9 y10, ∃ (zs : List (Addr × En)), σ = [some (.ref p), some (.int most), some (.ref fk), some (.int (1 + st0)), some (.ref ld), some (.ref la), some (.ref lf), some (.int sf), y8, y9, y10] ∧ Kp p H H' ∧ PenAt H' p ∧ FolkAt H' fk n ∧
        H' ld = some (.lst ((dn (ens zs)).map V.int)) ∧ H' la = some (.lst ((an (ens zs)).map V.int)) ∧ H' lf = some (.lst (refs zs)) ∧ (∀ z ∈ zs, EntAt H' z.1 z.2) ∧ zs.length = i ∧ BkOk n (ens zs) ∧ (∀ e ∈ ens zs, e.num < (i : Int) * (1 + st0) + sf))
      ⟨none, none, none, [], rfl, k03.trans k4, P4, ((F2.kp k3 P2).kp k3' P3).kp k4 P3', k34 _ _ nld e3d, k34 _ _ nla e3a, k34 _ _ nlf e3f, (fun _ h => nomatch h), rfl, ⟨List.nodup_nil, (fun _ h => nomatch h), (fun _ h => nomatch h)⟩, (fun _ h => nomatch h)⟩ ?_ ?_
    · rintro i σ H' hi ⟨y8, y9, y10, zs, rfl, k', P', F', ed, ea, ef, hent, hlen, hok, hlt⟩
      have hel : (ens zs).length = i := by rw [List.length_map, hlen]
      have hdl := dn_len (ens zs)
      have hal := an_len (ens zs)
      obtain ⟨hn1, hn0⟩ := hsf.2 (i : Int) (by omega) (by omega)
      have hst : 0 ≤ st0 ∧ st0 ≤ 1 := ⟨a2, by omega⟩
      refine ⟨_, rfl, _, rfl, _, _, rfl, rfl, .inl ⟨by omega, by omega⟩, _, rfl, _, _, rfl, rfl, ?_⟩
      dsimp only
      rw [show (0 + (i : Int)) * (1 + st0) + sf = (i : Int) * (1 + st0) + sf by rw [Int.zero_add]]
      have hnext : (i : Int) * (1 + st0) + sf < ((i : Nat) + 1 : Int) * (1 + st0) + sf := by
        rw [Int.add_mul]
        omega
      generalize hnm : (i : Int) * (1 + st0) + sf = num at hn1 hn0 hlt hnext
      have hdn : ∀ d ∈ dn (ens zs), d < num := fun d hd => by
        obtain ⟨e, he, rfl⟩ := List.mem_map.mp (dn_sub _ _ hd)
        exact hlt e he
      have han : ∀ d ∈ an (ens zs), d < num := fun d hd => by
        obtain ⟨e, he, rfl⟩ := List.mem_map.mp (an_sub _ _ hd)
        exact hlt e he
      refine ⟨_, rfl, Nat.zero_le _, fun l5 nl5 => ?_⟩
      have s5 := same_new nl5 (.lst [])
      have el5 : (upd H' l5 (.lst [])) l5 = some (.lst (([] : List Int).map V.int)) := upd_same
      generalize upd H' l5 (.lst []) = H5 at s5 el5
      have P5 : PenAt H5 p := by
        obtain ⟨x1, x2, x3, x4, z1, z2⟩ := P'
        exact ⟨x1, x2, x3, x4, s5 _ _ z1, z2⟩
      have k5 : Kp p H' H5 := Kp.same s5
      refine ⟨.list ((dn (ens zs)).map PyData.int), .list (([] : List Int).map PyData.int), .lst (SqL.of (s5 _ _ ed)) (dp_ints _), .lst (SqL.of el5) (dp_ints _), shaped_ints _, shaped_ints _, _, rfl, ?_⟩
      rw [eqv_ints]
      -- behind an entry at a, of a deed or an act, at the heap H6
      have fin : ∀ (a : Addr) (e : En) (H6 : Hp), Kp p H' H6 → PenAt H6 p → EntAt H6 a e → e.num = num → EnOk n (dn (ens zs)) (an (ens zs)) e →
          (H6 lf = some (.lst (refs zs)) ∧ ∀ (lx : Addr) (o : List V), (lx = ld ∨ lx = la) → (e.isDeed = true → lx = ld ∧ o = (dn (ens zs)).map V.int ++ [.int num]) → (e.isDeed = false → lx = la ∧ o = (an (ens zs)).map V.int ++ [.int num]) →
            (upd H6 lf (.lst (refs zs ++ [.ref a]))) lx = some (.lst (if e.isDeed then (dn (ens zs)).map V.int else (an (ens zs)).map V.int)) ∧
            ∃ (zs' : List (Addr × En)), Kp p H (upd (upd H6 lf (.lst (refs zs ++ [.ref a]))) lx (.lst o)) ∧ PenAt (upd (upd H6 lf (.lst (refs zs ++ [.ref a]))) lx (.lst o)) p ∧ FolkAt (upd (upd H6 lf (.lst (refs zs ++ [.ref a]))) lx (.lst o)) fk n ∧
        (upd (upd H6 lf (.lst (refs zs ++ [.ref a]))) lx (.lst o)) ld = some (.lst ((dn (ens zs')).map V.int)) ∧ (upd (upd H6 lf (.lst (refs zs ++ [.ref a]))) lx (.lst o)) la = some (.lst ((an (ens zs')).map V.int)) ∧ (upd (upd H6 lf (.lst (refs zs ++ [.ref a]))) lx (.lst o)) lf = some (.lst (refs zs')) ∧ (∀ z ∈ zs', EntAt (upd (upd H6 lf (.lst (refs zs ++ [.ref a]))) lx (.lst o)) z.1 z.2) ∧ zs'.length = i + 1 ∧ BkOk n (ens zs') ∧ (∀ e ∈ ens zs', e.num < ((i : Nat) + 1 : Int) * (1 + st0) + sf)) := by
        intro a e H6 k6 P6 E6 hnum hEn
        have kT6 := k6.tup P'
        have ed6 := k6 _ _ nld ed
        have ea6 := k6 _ _ nla ea
        have ef6 := k6 _ _ nlf ef
        refine ⟨ef6, fun lx o hlx hD hA => ?_⟩
        have nlxf : lx ≠ lf := by rcases hlx with h | h <;> rw [h] <;> assumption
        have nlxp : lx ≠ p := by rcases hlx with h | h <;> rw [h] <;> assumption
        have hlxH : H lx = none := by rcases hlx with h | h <;> rw [h] <;> assumption
        have kT7 := KpT.lst ef6 (.lst (refs zs ++ [.ref a]))
        have P7 := P6.put nlf (.lst (refs zs ++ [.ref a]))
        have k7 := (k'.trans k6).over hlfH (.lst (refs zs ++ [.ref a]))
        have ed7 := (show (upd H6 lf (.lst (refs zs ++ [.ref a]))) ld = H6 ld from upd_ne ndf).trans ed6
        have ea7 := (show (upd H6 lf (.lst (refs zs ++ [.ref a]))) la = H6 la from upd_ne naf).trans ea6
        have ef7 := (show (upd H6 lf (.lst (refs zs ++ [.ref a]))) lf = some (.lst (refs zs ++ [.ref a])) from upd_same)
        have E7 := E6.kp kT7
        have F7 := (F'.kpT kT6).kpT kT7
        have hent7 : ∀ z ∈ zs, EntAt (upd H6 lf (.lst (refs zs ++ [.ref a]))) z.1 z.2 := fun z hz => ((hent z hz).kp kT6).kp kT7
        generalize (upd H6 lf (.lst (refs zs ++ [.ref a]))) = H7 at kT7 P7 k7 ed7 ea7 ef7 E7 F7 hent7
        have elx : H7 lx = some (.lst (if e.isDeed then (dn (ens zs)).map V.int else (an (ens zs)).map V.int)) := by
          cases hd : e.isDeed with
          | true => rw [(hD hd).1, ed7]; rfl
          | false => rw [(hA hd).1, ea7]; rfl
        refine ⟨elx, zs ++ [(a, e)], k7.over hlxH _, P7.put nlxp _, F7.kpT (KpT.lst elx _), ?_, ?_, ?_, fun z hz => ?_, ?_, ?_, fun e' he' => ?_⟩
        · rw [show ens (zs ++ [(a, e)]) = ens zs ++ [e] by simp [ens], dn_snoc]
          cases hd : e.isDeed with
          | true =>
            obtain ⟨h1, h2⟩ := hD hd
            rw [h1, h2, upd_same, if_pos rfl, List.map_append, hnum]
            rfl
          | false =>
            obtain ⟨h1, h2⟩ := hA hd
            rw [h1, upd_ne nda, if_neg (by decide), List.append_nil]
            exact ed7
        · rw [show ens (zs ++ [(a, e)]) = ens zs ++ [e] by simp [ens], an_snoc]
          cases hd : e.isDeed with
          | true =>
            obtain ⟨h1, h2⟩ := hD hd
            rw [h1, upd_ne nda.symm, if_pos rfl, List.append_nil]
            exact ea7
          | false =>
            obtain ⟨h1, h2⟩ := hA hd
            rw [h1, h2, upd_same, if_neg (by decide), List.map_append, hnum]
            rfl
        · rw [upd_ne nlxf.symm, ef7]
          simp [refs]
        · rcases List.mem_append.mp hz with hz | hz
          · exact (hent7 z hz).kp (KpT.lst elx _)
          · rw [List.mem_singleton.mp hz]
            exact E7.kp (KpT.lst elx _)
        · rw [List.length_append, hlen]
          rfl
        · rw [show ens (zs ++ [(a, e)]) = ens zs ++ [e] by simp [ens]]
          exact okE_snoc hok hlt hnum hn0 hn1 hEn
        · rw [show ens (zs ++ [(a, e)]) = ens zs ++ [e] by simp [ens]] at he'
          rcases List.mem_append.mp he' with he' | he'
          · have := hlt e' he'
            omega
          · rw [List.mem_singleton.mp he', hnum]
            exact hnext
      refine (Classical.em (dn (ens zs) = [])).elim (fun hd0 => ?D1) (fun hd0 => ?D2)
      case' D1 =>
        rw [decide_eq_true hd0]
        refine iteT ?_
        refine iteT ?_
        obtain ⟨H5b, k5b, P5b⟩ : ∃ H5b, Kp p H' H5b ∧ PenAt H5b p ∧ H5b = H5 := ⟨H5, k5, P5, rfl⟩
        obtain ⟨P5b, rfl⟩ := P5b
      case' D2 =>
        rw [decide_eq_false hd0]
        refine iteF ?_
        refine ⟨_, rfl, p, 5, rfl, P5, by decide, by decide, fun v5 H5b k5b0 P5b a5 b5 => ⟨_, _, rfl, rfl, _, rfl, ?_⟩⟩
        have k5b : Kp p H' H5b := k5.trans k5b0
        refine (Classical.em (v5 < 2)).elim (fun h52 => ?D3) (fun h52 => ?D4)
        case' D3 =>
          rw [decide_eq_true h52]
          refine iteT ?_
        case' D4 =>
          rw [decide_eq_false h52]
          refine iteF ?_
      case D4 =>
        have ef5 := k5b _ _ nlf ef
        refine ⟨_, rfl, .inl ⟨rfl, _, SqL.of ef5⟩, _, rfl, _, rfl, _, rfl, _, rfl, p, ld, la, num, dn (ens zs), an (ens zs), rfl, P5b, k5b _ _ nld ed, nld, k5b _ _ nla ea, nla, hd0, by omega, by omega, hdn, han, fun a e H6 k6 P6 E6 hnum hnd hEn => ?_⟩
        obtain ⟨f1, f2⟩ := fin a e H6 (k5b.trans k6) P6 E6 hnum (hEn n)
        refine ⟨lf, _, _, rfl, rfl, f1, small1000 (by rw [List.length_map]; omega), ?_⟩
        obtain ⟨f3, zs', f4⟩ := f2 la ((an (ens zs)).map V.int ++ [.int num]) (.inr rfl) (fun z => by rw [hnd] at z; cases z) (fun _ => ⟨rfl, rfl⟩)
        rw [hnd] at f3
        refine ⟨_, rfl, .inl ⟨rfl, _, SqL.of f3⟩, _, rfl, la, _, _, rfl, rfl, f3, small1000 (by show ((an (ens zs)).map V.int).length ≤ 1000; rw [List.length_map]; omega), ?_⟩
        exact ⟨_, _, _, zs', rfl, f4⟩
      all_goals
        have ef5 := k5b _ _ nlf ef
        refine ⟨_, rfl, .inl ⟨rfl, _, SqL.of ef5⟩, _, rfl, _, rfl, _, rfl, _, rfl, p, fk, ld, num, n, dn (ens zs), rfl, P5b, F'.kpT (k5b.tup P'), hn2', hn6, k5b _ _ nld ed, nld, dn_nodup hok.nd, by omega, hdn, fun a e H6 k6 P6 E6 hnum hnd hEn => ?_⟩
        obtain ⟨f1, f2⟩ := fin a e H6 (k5b.trans k6) P6 E6 hnum (hEn _)
        refine ⟨lf, _, _, rfl, rfl, f1, small1000 (by rw [List.length_map]; omega), ?_⟩
        obtain ⟨f3, zs', f4⟩ := f2 ld ((dn (ens zs)).map V.int ++ [.int num]) (.inl rfl) (fun _ => ⟨rfl, rfl⟩) (fun z => by rw [hnd] at z; cases z)
        rw [hnd] at f3
        refine ⟨_, rfl, .inl ⟨rfl, _, SqL.of f3⟩, _, rfl, ld, _, _, rfl, rfl, f3, small1000 (by show ((dn (ens zs)).map V.int).length ≤ 1000; rw [List.length_map]; omega), ?_⟩
        exact ⟨_, _, _, zs', rfl, f4⟩
    · rintro σ H' ⟨y8, y9, y10, zs, rfl, k', P', F', ed, ea, ef, hent, hlen, hok, hlt⟩
      refine ⟨_, rfl, p, 30, rfl, P', by decide, by decide, fun v1 H5 k5 P5 a5 b5 => ?_⟩
      refine ⟨_, rfl, p, 10000, rfl, P5, by decide, by decide, fun v2 H6 k6 P6 a6 b6 => ?_⟩
      refine ⟨(by show 3 ≤ sizeLine; decide), fun l6 nl6 => ?_⟩
      refine ⟨_, rfl, p, 3, rfl, P6.new nl6 _, by decide, by decide, fun v3 H7 k7 P7 a7 b7 => ?_⟩
      obtain ⟨_, g8, age, rfl, a8, b8⟩ := pick (xs := [.int 0, .int v1, .int v2]) (Within 0 9999) a7 b7 (am1 ⟨_, rfl, by omega, by omega⟩ (am1 ⟨_, rfl, by omega, by omega⟩ (am1 ⟨_, rfl, by omega, by omega⟩ am0)))
      refine ⟨l6, _, _, _, rfl, rfl, SqL.of (k7 _ _ (P6.free nl6) upd_same), g8, ?_⟩
      have k57 : Kp p H' H7 := k5.trans (k6.trans ((Kp.new nl6 _).trans k7))
      have hl16 : zs.length ≤ 16 := by omega
      refine ⟨_, rfl, _, rfl, _, rfl, _, rfl, p, lf, _, rfl, P7, .inl (SqL.of (k57 _ _ nlf ef)), by rw [List.length_map]; omega, fun lm ys H8 k8 P8 nlm elm pm => ?_⟩
      obtain ⟨zs', rfl, pm2⟩ := perm_pairs (fun z : Addr × En => V.ref z.1) pm zs rfl
      refine ⟨lm, _, rfl, .inl ⟨SqL.of elm, fun t7 nt7 => ?_⟩⟩
      have k9 : Kp p H8 _ := Kp.new nt7 (.tup (refs zs'))
      have P9 := P8.new nt7 (.tup (refs zs'))
      have e9 : (upd H8 t7 (.tup (refs zs'))) t7 = some (.tup (refs zs')) := upd_same
      refine ⟨(by show 3 ≤ sizeLine; decide), fun t8 nt8 => ?_⟩
      have k10 : Kp p _ _ := Kp.new nt8 (.tup [.ref fk, .int age, .ref t7])
      have kA := (k57.trans (k8.trans (k9.trans k10)))
      have kAT := kA.tup P'
      refine q t8 fk t7 n age zs' _ (k'.trans kA) (P9.new nt8 _) ⟨upd_same, F'.kpT kAT, by omega, hn6, a8, b8, k10.tup P9 _ _ e9, fun z hz => (hent z (pm2.mem_iff.mp hz)).kp kAT, hok.perm (pm2.map _), by rw [pm2.length_eq]; exact hl16⟩ ?_
      rw [pm2.length_eq, hlen]
      omega
end
end Deed

namespace Deed
open PySem PySem.Spec PyProof.Rows L2 LamX
section
variable {P : Program} {w : World} {K : PySem.W.Frag} {mg : Str → Option Value} {base : Heap} {fRi fDe : Addr} {dRi dDe : FuncData} {T : List (Addr × Str)}
end
end Deed

namespace Deed
open PySem PySem.Spec PyProof.Rows L2 LamX
section
variable {P : Program} {w : World} {K : PySem.W.Frag} {mg : Str → Option Value} {base : Heap} {fRi fDe : Addr} {dRi dDe : FuncData} {T : List (Addr × Str)}
end
end Deed

namespace Deed
open PySem PySem.Spec PyProof.Rows L2 LamX
section
variable {P : Program} {w : World} {K : PySem.W.Frag} {mg : Str → Option Value} {base : Heap} {fRi fDe : Addr} {dRi dDe : FuncData} {T : List (Addr × Str)}
end
end Deed

namespace Deed
open PySem PySem.Spec PyProof.Rows L2 LamX
theorem Tabs.kp {T : List (Addr × Str)} {H H' : Hp} {p : Addr} (t : Tabs T H) (k : Kp p H H') (P : PenAt H p) : Tabs T H' := fun q hq => by
  obtain ⟨ps, h1, h2, h3⟩ := t q hq
  refine ⟨ps, k _ _ (P.ne h1 fun _ z => by cases z) h1, h2, fun pos cv hc => ?_⟩
  obtain ⟨c, e1, e2⟩ := h3 pos cv hc
  exact ⟨c, e1, k _ _ (P.ne e2 fun _ z => by unfold CodeO at z; cases z) e2⟩
theorem ExtN.sqL {K : PySem.W.Frag} {H H' : Hp} {a : Addr} {xs : List V} (e : ExtN H H') (h : SqL K H a xs) : SqL K H' a xs := by
  rcases h with (z | ⟨o, z⟩) | z
  · exact .inl (.inl (e _ _ z fun ps z' => by cases z'))
  · exact .inl (.inr ⟨o, e _ _ z fun ps z' => by cases z'⟩)
  · exact .inr z
theorem ExtN.pen {H H' : Hp} {p : Addr} (e : ExtN H H') (h : PenAt H p) : PenAt H' p := by
  obtain ⟨x1, x2, x3, x4, z1, z2⟩ := h
  exact ⟨x1, x2, x3, x4, e _ _ z1 fun ps z => (by cases z), z2⟩
/-- with a pen that is new -/
theorem ExtN.kp {H H1 H2 : Hp} {p : Addr} (e : ExtN H H1) (n : H p = none) (k : Kp p H1 H2) : ExtN H H2 := fun b o z h => k b o (ne_of_none z n) (e b o z h)
theorem ExtN.put {H H' : Hp} {p : Addr} (e : ExtN H H') (f : Fresh H p) (o : HO) : ExtN H (upd H' p o) := fun b u z h => by
  rw [upd_ne (f.ne z h)]
  exact e b u z h
theorem rising_one : ∀ {l m : List Int}, l.Pairwise (· < ·) → m.Pairwise (· < ·) → (∀ x, x ∈ l ↔ x ∈ m) → l = m
  | [], [], _, _, _ => rfl
  | [], y :: m, _, _, h => absurd ((h y).mpr List.mem_cons_self) (by simp)
  | x :: l, [], _, _, h => absurd ((h x).mp List.mem_cons_self) (by simp)
  | x :: l, y :: m, h1, h2, h => by
    have a1 := List.pairwise_cons.mp h1
    have a2 := List.pairwise_cons.mp h2
    have exy : x = y := by
      have m1 := (h x).mp List.mem_cons_self
      have m2 := (h y).mpr List.mem_cons_self
      rcases List.mem_cons.mp m1 with e | e
      · exact e
      · rcases List.mem_cons.mp m2 with e' | e'
        · exact e'.symm
        · have := a1.1 y e'
          have := a2.1 x e
          omega
    subst exy
    congr 1
    refine rising_one a1.2 a2.2 fun z => ?_
    constructor
    · intro hz
      rcases List.mem_cons.mp ((h z).mp (List.mem_cons_of_mem _ hz)) with e | e
      · have := a1.1 z hz
        omega
      · exact e
    · intro hz
      rcases List.mem_cons.mp ((h z).mpr (List.mem_cons_of_mem _ hz)) with e | e
      · have := a2.1 z hz
        omega
      · exact e
/-- the picked numbers of an arrangement by numbers -/
def picked (φ : En → Bool) (zs : List (Addr × En)) : List Int := (zs.filter fun z => φ z.2).map fun z => z.2.num
theorem picked_up {φ : En → Bool} {zs : List (Addr × En)} (h : zs.Pairwise (fun a b => a.2.num < b.2.num)) : (picked φ zs).Pairwise (· < ·) := by
  unfold picked
  exact List.pairwise_map.mpr (h.filter _)
theorem mem_picked {φ : En → Bool} {zs : List (Addr × En)} {x : Int} : x ∈ picked φ zs ↔ ∃ z ∈ zs, φ z.2 = true ∧ z.2.num = x := by
  unfold picked
  simp only [List.mem_map, List.mem_filter]
  constructor
  · rintro ⟨z, ⟨h1, h2⟩, h3⟩
    exact ⟨z, h1, h2, h3⟩
  · rintro ⟨z, h1, h2, h3⟩
    exact ⟨z, ⟨h1, h2⟩, h3⟩
theorem picked_len (φ : En → Bool) (zs : List (Addr × En)) : (picked φ zs).length ≤ zs.length := by
  unfold picked
  rw [List.length_map]
  exact List.length_filter_le _ _
/-- two arrangements of the same entries -/
theorem picked_one {φ : En → Bool} {zs zs' : List (Addr × En)} (h : zs.Pairwise (fun a b => a.2.num < b.2.num)) (h' : zs'.Pairwise (fun a b => a.2.num < b.2.num)) (e : ∀ x, x ∈ ens zs ↔ x ∈ ens zs') : picked φ zs = picked φ zs' := by
  refine rising_one (picked_up h) (picked_up h') fun x => ?_
  rw [mem_picked, mem_picked]
  constructor
  · rintro ⟨z, h1, h2, h3⟩
    obtain ⟨z', h4, h5⟩ := List.mem_map.mp ((e z.2).mp (List.mem_map.mpr ⟨z, h1, rfl⟩))
    exact ⟨z', h4, by rw [h5]; exact h2, by rw [h5]; exact h3⟩
  · rintro ⟨z, h1, h2, h3⟩
    obtain ⟨z', h4, h5⟩ := List.mem_map.mp ((e z.2).mpr (List.mem_map.mpr ⟨z, h1, rfl⟩))
    exact ⟨z', h4, by rw [h5]; exact h2, by rw [h5]; exact h3⟩
theorem ens_perm {zs zs' : List (Addr × En)} (h : zs'.Perm zs) : ∀ x, x ∈ ens zs' ↔ x ∈ ens zs := fun x => (h.map _).mem_iff
end Deed

namespace Deed
open PySem PySem.Spec PyProof.Rows L2 LamX
/-! ### acts in force: the mathematics -/
def En.of (e : En) : Int := match e.kd with
  | .deed _ _ _ _ => -1
  | .act _ o => o
def isOpen (d k : Int) (e : En) : Bool := decide (e.day ≤ d) && decide (e.wri ≤ k)
/-- an entry of the word x that is of the number n -/
def isOn (x : Str) (n : Int) (e : En) : Bool := decide (e.word = x) && decide (e.of = n)
def frcF (es : List En) (d k : Int) : Nat → En → Bool
  | 0, _ => false
  | f + 1, e => isOpen d k e && es.all fun u => !(isOn "undone" e.num u && frcF es d k f u)
def frc (es : List En) (d k : Int) (e : En) : Bool := frcF es d k (31 - e.num).toNat e
theorem EnOk.of_lt {n : Nat} {ds as : List Int} {e : En} (h : EnOk n ds as e) (hd : e.isDeed = false) : e.of < e.num ∧ ((e.word = "undone" ∧ e.of ∈ as) ∨ ((e.word = "paid" ∨ e.word = "void") ∧ e.of ∈ ds)) := by
  unfold En.isDeed at hd
  unfold En.of En.word
  cases hk : e.kd with
  | deed g t rs ws =>
    rw [hk] at hd
    cases hd
  | act x o =>
    have h4 := h.2.2.2
    rw [hk] at h4
    exact ⟨h4.2, h4.1⟩
theorem isOn_act {n : Nat} {ds as : List Int} {e : En} {x : Str} {m : Int} (h : EnOk n ds as e) (hx : x ≠ "deed") (ho : isOn x m e = true) : e.isDeed = false ∧ e.word = x ∧ e.of = m := by
  unfold isOn at ho
  rw [Bool.and_eq_true] at ho
  have h1 := of_decide_eq_true ho.1
  have h2 := of_decide_eq_true ho.2
  refine ⟨?_, h1, h2⟩
  cases hd : e.isDeed with
  | false => rfl
  | true => exact absurd ((h.word.mpr hd).symm.trans h1) (fun z => hx z.symm)
theorem frcF_one {n : Nat} {es : List En} (hB : BkOk n es) (d k : Int) : ∀ (f g : Nat) (e : En), e ∈ es → (31 - e.num).toNat ≤ f → (31 - e.num).toNat ≤ g → frcF es d k f e = frcF es d k g e := by
  intro f
  induction f with
  | zero =>
    intro g e he hf _
    have := hB.rng e he
    omega
  | succ f ih =>
    intro g e he hf hg
    have re := hB.rng e he
    cases g with
    | zero => omega
    | succ g =>
      show (isOpen d k e && es.all fun u => !(isOn "undone" e.num u && frcF es d k f u)) = (isOpen d k e && es.all fun u => !(isOn "undone" e.num u && frcF es d k g u))
      congr 1
      have key : ∀ u ∈ es, (isOn "undone" e.num u && frcF es d k f u) = (isOn "undone" e.num u && frcF es d k g u) := fun u hu => by
        cases ho : isOn "undone" e.num u with
        | false => rfl
        | true =>
          obtain ⟨h1, h2, h3⟩ := isOn_act (hB.ok u hu) (by decide) ho
          have lt := ((hB.ok u hu).of_lt h1).1
          rw [ih g u hu (by omega) (by omega)]
      rw [Bool.eq_iff_iff, List.all_eq_true, List.all_eq_true]
      constructor
      · intro h u hu
        rw [← key u hu]
        exact h u hu
      · intro h u hu
        rw [key u hu]
        exact h u hu
theorem frcF_eq {n : Nat} {es : List En} (hB : BkOk n es) (d k : Int) {f : Nat} {e : En} (he : e ∈ es) (hf : (31 - e.num).toNat ≤ f) : frcF es d k f e = frc es d k e := frcF_one hB d k _ _ e he hf (Nat.le_refl _)
/-- in force: open, and no undone of it in force -/
theorem frc_eq {n : Nat} {es : List En} (hB : BkOk n es) (d k : Int) {e : En} (he : e ∈ es) : frc es d k e = (isOpen d k e && es.all fun u => !(isOn "undone" e.num u && frc es d k u)) := by
  have re := hB.rng e he
  rw [← frcF_eq hB d k (f := 31) he (by omega)]
  show (isOpen d k e && es.all fun u => !(isOn "undone" e.num u && frcF es d k 30 u)) = _
  congr 1
  have key : ∀ u ∈ es, (isOn "undone" e.num u && frcF es d k 30 u) = (isOn "undone" e.num u && frc es d k u) := fun u hu => by
    cases ho : isOn "undone" e.num u with
    | false => rfl
    | true =>
      obtain ⟨h1, h2, h3⟩ := isOn_act (hB.ok u hu) (by decide) ho
      have lt := ((hB.ok u hu).of_lt h1).1
      rw [frcF_eq hB d k hu (by omega)]
  rw [Bool.eq_iff_iff, List.all_eq_true, List.all_eq_true]
  constructor
  · intro h u hu
    rw [← key u hu]
    exact h u hu
  · intro h u hu
    rw [key u hu]
    exact h u hu
theorem frc_open {n : Nat} {es : List En} (hB : BkOk n es) {d k : Int} {e : En} (he : e ∈ es) (h : frc es d k e = true) : isOpen d k e = true := by
  rw [frc_eq hB d k he, Bool.and_eq_true] at h
  exact h.1
theorem num_inj {n : Nat} {es : List En} (hB : BkOk n es) {e e' : En} (he : e ∈ es) (he' : e' ∈ es) (h : e.num = e'.num) : e = e' := by
  obtain ⟨i1, hi1, ei1⟩ := List.mem_iff_getElem.mp he
  obtain ⟨i2, hi2, ei2⟩ := List.mem_iff_getElem.mp he'
  have h1 : (es.map (·.num))[i1]? = some e.num := by rw [List.getElem?_map, List.getElem?_eq_getElem hi1, ei1]; rfl
  have h2 : (es.map (·.num))[i2]? = some e.num := by rw [List.getElem?_map, List.getElem?_eq_getElem hi2, ei2, h]; rfl
  have h3 := nd_ix hB.nd h1 h2
  subst h3
  rw [← ei1, ← ei2]
end Deed

namespace Deed
open PySem PySem.Spec PyProof.Rows L2 LamX
/-! ### the law's own book of entries -/
abbrev dks (zs : List (Addr × En)) : List (Key × V) := zs.map fun z => (Sum.inl z.2.num, V.ref z.1)
structure EdAt (H : Hp) (ed : Addr) (n : Nat) (zs : List (Addr × En)) : Prop where
  at_ : H ed = some (.dK (dks zs))
  ent : ∀ z ∈ zs, EntAt H z.1 z.2
  ok : BkOk n (ens zs)
  len : zs.length ≤ 16
theorem EdAt.same {H H' : Hp} {ed : Addr} {n : Nat} {zs : List (Addr × En)} (h : EdAt H ed n zs) (s : Same H H') : EdAt H' ed n zs := ⟨s _ _ h.at_, fun z hz => (h.ent z hz).kp (Same.tup s), h.ok, h.len⟩
theorem valV_dks {zs : List (Addr × En)} (nd : ((ens zs).map (·.num)).Nodup) {z : Addr × En} (hz : z ∈ zs) : valV (dks zs) (.inl z.2.num) = some (.ref z.1) := by
  induction zs with
  | nil => cases hz
  | cons y r ih =>
    have nd' : (y.2.num :: (ens r).map (·.num)).Nodup := nd
    have h2 := List.nodup_cons.mp nd'
    show Option.map (·.2) (List.find? (fun kv => decide (kv.1 = (Sum.inl z.2.num : Key))) ((Sum.inl y.2.num, V.ref y.1) :: dks r)) = _
    rw [List.find?_cons]
    rcases List.mem_cons.mp hz with rfl | hz
    · simp
    · have hne : ¬ (Sum.inl y.2.num : Key) = Sum.inl z.2.num := fun q => by
        injection q with q
        exact h2.1 (List.mem_map.mpr ⟨z.2, List.mem_map.mpr ⟨z, hz, rfl⟩, q.symm⟩)
      rw [decide_eq_false hne]
      exact ih h2.2 hz
theorem EdAt.get {H : Hp} {ed : Addr} {n : Nat} {zs : List (Addr × En)} (h : EdAt H ed n zs) {z : Addr × En} (hz : z ∈ zs) : DGet H ed (.int z.2.num) (some (.ref z.1)) := by
  have := DGet.k (k := Sum.inl z.2.num) h.at_
  rw [valV_dks h.ok.nd hz] at this
  exact this
theorem mem_inS {x : Str} {ws : List Str} : inV (.str x) (ws.map V.str) = decide (x ∈ ws) := by
  induction ws with
  | nil => simp [inV]
  | cons m r ih =>
    have e : inV (.str x) ((m :: r).map V.str) = (eqV (.str m) (.str x) || inV (.str x) (r.map V.str)) := by simp [inV]
    have e2 : eqV (.str m) (.str x) = decide (m = x) := by
      first | rfl | simp [eqV] | (unfold eqV; simp)
    rw [e, ih, e2]
    by_cases h : m = x
    · subst h
      simp
    · have h' : ¬ x = m := fun z => h z.symm
      simp [h, h']
theorem flat_strs (ws : List Str) : (ws.map V.str).all flatV = true := by
  induction ws with
  | nil => rfl
  | cons n r ih =>
    rw [List.map_cons, List.all_cons, ih]
    rfl
theorem EntAt.five {H : Hp} {a : Addr} {e : En} (h : EntAt H a e) (hd : e.isDeed = false) : ∃ xs, H a = some (.tup xs) ∧ atI xs 5 = some (.int e.of) := by
  unfold EntAt at h
  unfold En.isDeed at hd
  unfold En.of
  cases hk : e.kd with
  | deed g t rs ws =>
    rw [hk] at hd
    cases hd
  | act x o =>
    rw [hk] at h
    exact ⟨_, h, atI_nat (j := 5) rfl⟩
theorem putK_new {kvs : List (Key × V)} {k : Key} {v : V} (h : k ∉ kvs.map (·.1)) : putK kvs k v = kvs ++ [(k, v)] := by
  unfold putK
  rw [if_neg]
  intro z
  obtain ⟨kv, h1, h2⟩ := List.any_eq_true.mp z
  exact h (List.mem_map.mpr ⟨kv, h1, of_decide_eq_true h2⟩)
theorem mergeK_new : ∀ (more kvs : List (Key × V)), ((kvs ++ more).map (·.1)).Nodup → mergeK kvs more = kvs ++ more
  | [], kvs, _ => (List.append_nil kvs).symm
  | (k, v) :: r, kvs, h => by
    show mergeK (putK kvs k v) r = kvs ++ (k, v) :: r
    have hk : k ∉ kvs.map (·.1) := fun z => by
      rw [List.map_append, List.nodup_append] at h
      exact h.2.2 k z k List.mem_cons_self rfl
    rw [putK_new hk, mergeK_new r (kvs ++ [(k, v)]) (by rw [List.append_assoc]; exact h), List.append_assoc]
    rfl
theorem dks_nodup {zs : List (Addr × En)} (h : ((ens zs).map (·.num)).Nodup) : ((dks zs).map (·.1)).Nodup := by
  have e : (dks zs).map (·.1) = ((ens zs).map (·.num)).map (Sum.inl : Int → Key) := by
    simp [dks, ens, List.map_map, Function.comp_def]
  rw [e]
  exact List.pairwise_map.mpr (h.imp fun hne e => hne (Sum.inl.inj e))
theorem paired_mono {α β : Type} {F G : α → β → Prop} {l : List α} {m : List β} (h : Paired F l m) (i : ∀ a b, F a b → G a b) : Paired G l m := by
  induction h with
  | nil => exact .nil
  | cons a _ ih => exact .cons (i _ _ a) ih
/-- a lesser number stands ahead -/
theorem mem_before {ys : List (Addr × En)} {i : Nat} {z v : Addr × En} (up : ys.Pairwise (fun a b => a.2.num < b.2.num)) (hz : ys[i]? = some z) (hv : v ∈ ys) (h : v.2.num < z.2.num) : v ∈ ys.take i := by
  obtain ⟨j, hj, ej⟩ := List.mem_iff_getElem.mp hv
  obtain ⟨hi, ei⟩ := List.getElem?_eq_some_iff.mp hz
  have hji : j < i := by
    rcases Nat.lt_or_ge j i with q1 | q1
    · exact q1
    · rcases Nat.eq_or_lt_of_le q1 with q2 | q2
      · subst q2
        rw [ei] at ej
        rw [ej] at h
        omega
      · have := List.pairwise_iff_getElem.mp up i j hi hj q2
        rw [ei, ej] at this
        omega
  exact List.mem_take_iff_getElem.mpr ⟨j, by omega, ej⟩
theorem not_before {ys : List (Addr × En)} {i : Nat} {z v : Addr × En} (up : ys.Pairwise (fun a b => a.2.num < b.2.num)) (hz : ys[i]? = some z) (hv : v ∈ ys.take i) : v.2.num < z.2.num := by
  obtain ⟨hi, ei⟩ := List.getElem?_eq_some_iff.mp hz
  obtain ⟨j, hj, ej⟩ := List.mem_take_iff_getElem.mp hv
  have := List.pairwise_iff_getElem.mp up j i (by omega) hi (by omega)
  rw [ei, ej] at this
  exact this
end Deed

namespace Deed
open PySem PySem.Spec PyProof.Rows L2 LamX
section
variable {P : Program} {w : World} {K : PySem.W.Frag} {mg : Str → Option Value} {base : Heap} {T : List (Addr × Str)} {fW fI fY fA : Addr} {dW dI dY dA : FuncData}
/-! ### whole numbers, days: where they are such -/
abbrev sWhole : Stmt := topS 13
theorem scWhole : FnScope ["thing"] ["thing"] (defScope sWhole) := ⟨rfl, rfl, rfl, by decide +kernel, rfl, by decide +kernel, by decide +kernel⟩
def spWholeI : Sp := fun vs H Q _ => ∃ i : Int, vs = [.int i] ∧ Q (.bl true) H
theorem ok_wholeI {f : Addr} {fd : FuncData} {k : Nat} (F : Fun K "is_whole" "is_whole" sWhole f fd) (mi : mg "isinstance" = none) (mn : mg "int" = none) (mb : mg "bool" = none) : FnOk P w K mg base CX0 (k + 1) f fd ["thing"] spWholeI := by
  refine F.ok scWhole (fun vs H Q E h => ?_) (fun cdv A outer s H vs Q E hr h => ?_)
  · obtain ⟨i, rfl, _⟩ := h
    rfl
  · obtain ⟨i, rfl, q⟩ := h
    refine ⟨_, pss_one (ps_ret (pe_and (pe_callB call_isi (by rfl) mi (by decide +kernel) (pa_cons (pv 0) (pa_cons (pe_bltn (v := .ty "int") (by rfl) mn (by decide +kernel) rfl) pa_nil))) (pe_one (pe_not (pe_callB call_isi (by rfl) mi (by decide +kernel) (pa_cons (pv 0) (pa_cons (pe_bltn (v := .ty "bool") (by rfl) mb (by decide +kernel) rfl) pa_nil))))))), ?_⟩
    refine ⟨_, rfl, _, _, _, _, true, rfl, .ty "int", .base (.int i), kit_ty (by decide +kernel), _, rfl, ?_⟩
    refine iteT ?_
    exact ⟨_, rfl, _, _, _, _, false, rfl, .ty "bool", .base (.int i), kit_ty (by decide +kernel), _, rfl, q⟩
abbrev sWithin : Stmt := topS 14
theorem scWithin : FnScope ["thing", "low", "high"] ["thing", "low", "high"] (defScope sWithin) := ⟨rfl, rfl, rfl, by decide +kernel, rfl, by decide +kernel, by decide +kernel⟩
def spWithinI : Sp := fun vs H Q _ => ∃ i lo hi : Int, vs = [.int i, .int lo, .int hi] ∧ lo ≤ i ∧ i ≤ hi ∧ Q (.bl true) H
theorem ok_withinI {f : Addr} {fd : FuncData} {k : Nat} (F : Fun K "is_within" "is_within" sWithin f fd) (DW : Df K mg "is_whole" sWhole ["thing"] fW dW) (mi : mg "isinstance" = none) (mn : mg "int" = none) (mb : mg "bool" = none) : FnOk P w K mg base CX0 (k + 2) f fd ["thing", "low", "high"] spWithinI := by
  have GW : FnOk P w K mg base CX0 (k + 1) fW dW ["thing"] spWholeI := ok_wholeI DW.F mi mn mb
  refine F.ok scWithin (fun vs H Q E h => ?_) (fun cdv A outer s H vs Q E hr h => ?_)
  · obtain ⟨i, lo, hi, rfl, _⟩ := h
    rfl
  · obtain ⟨i, lo, hi, rfl, h1, h2, q⟩ := h
    refine ⟨_, pss_one (ps_ret (pe_and (pe_call GW hr (by rfl) DW.g DW.F.kp DW.b .nil pass0 (pa_cons (pv 0) pa_nil)) (pe_one (pe_chain op_le op_le (pv 1) (pv 0) (pv 2))))), ?_⟩
    refine ⟨_, rfl, i, rfl, true, rfl, ?_⟩
    refine iteT ?_
    refine ⟨_, rfl, _, rfl, _, _, rfl, rfl, _, rfl, ?_⟩
    rw [decide_eq_true h1]
    refine iteT ?_
    refine ⟨_, rfl, _, _, rfl, rfl, ?_⟩
    dsimp only
    rw [decide_eq_true h2]
    exact q
abbrev sIsDay : Stmt := topS 15
theorem scIsDay : FnScope ["thing"] ["thing"] (defScope sIsDay) := ⟨rfl, rfl, rfl, by decide +kernel, rfl, by decide +kernel, by decide +kernel⟩
def spDayI : Sp := fun vs H Q _ => ∃ i : Int, vs = [.int i] ∧ 0 ≤ i ∧ i ≤ 9999 ∧ Q (.bl true) H
theorem ok_dayI {f : Addr} {fd : FuncData} {k : Nat} (F : Fun K "is_day" "is_day" sIsDay f fd) (DI : Df K mg "is_within" sWithin ["thing", "low", "high"] fI dI) (DW : Df K mg "is_whole" sWhole ["thing"] fW dW) (mi : mg "isinstance" = none) (mn : mg "int" = none) (mb : mg "bool" = none) (mL : MgInt mg "LAST_DAY" 9999) : FnOk P w K mg base CX0 (k + 3) f fd ["thing"] spDayI := by
  have GI : FnOk P w K mg base CX0 (k + 2) fI dI ["thing", "low", "high"] spWithinI := ok_withinI DI.F DW mi mn mb
  refine F.ok scIsDay (fun vs H Q E h => ?_) (fun cdv A outer s H vs Q E hr h => ?_)
  · obtain ⟨i, rfl, _⟩ := h
    rfl
  · obtain ⟨i, rfl, h0, h1, q⟩ := h
    refine ⟨_, pss_one (ps_ret (pe_call GI hr (by rfl) DI.g DI.F.kp DI.b .nil pass0 (pa_cons (pv 0) (pa_cons pe_int (pa_cons (pe_num (by rfl) mL) pa_nil))))), ?_⟩
    exact ⟨_, rfl, i, 0, 9999, rfl, h0, h1, q⟩
def spCkDay : Sp := fun vs H Q _ => ∃ i : Int, vs = [.int i] ∧ 0 ≤ i ∧ i ≤ 9999 ∧ Q .non H
end
end Deed

namespace Deed
open PySem PySem.Spec PyProof.Rows L2 LamX
section
variable {P : Program} {w : World} {K : PySem.W.Frag} {mg : Str → Option Value} {base : Heap} {T : List (Addr × Str)} {fAe fOn : Addr} {dAe dOn : FuncData}
/-! ### the open acts -/
abbrev nOpenA : List Str := ["book", "d", "k", "act"]
/-- the open acts, by their numbers -/
structure OpenActs (n : Nat) (es : List En) (d k : Int) (ys : List (Addr × En)) : Prop where
  mem : ∀ z ∈ ys, z.2 ∈ es ∧ z.2.isDeed = false ∧ isOpen d k z.2 = true
  all : ∀ u ∈ es, u.isDeed = false → isOpen d k u = true → ∃ z ∈ ys, z.2 = u
  up : ys.Pairwise (fun a b => a.2.num < b.2.num)
  len : ys.length ≤ 16
def spOpenA (T : List (Addr × Str)) : Sp := fun vs H Q _ => ∃ (b fk t : Addr) (n : Nat) (age : Int) (zs : List (Addr × En)) (d k : Int), vs = [.ref b, .int d, .int k] ∧ BookAt H b fk t n age zs ∧ Tabs T H ∧
  ∀ (p : Addr) (ys : List (Addr × En)) (H' : Hp), ExtN H H' → Tabs T H' → Fresh H p → H' p = some (.lst (refs ys)) → (∀ z ∈ ys, EntAt H' z.1 z.2) → OpenActs n (ens zs) d k ys → Q (.ref p) H'
def t_openA (K : PySem.W.Frag) : TT := tAnd (tTest (tOp (rI0 fun i j => .bl (decide (i ≤ j))) (tOp (rIxT K) (tVar 3) (tC (.int 2))) (tVar 2))) (tTest (tOp (rI0 fun i j => .bl (decide (i ≤ j))) (tOp (rIxT K) (tVar 3) (tC (.int 1))) (tVar 1)))
/-! ### acts of a word upon a number -/
abbrev nActsOn : List Str := ["acts", "word", "number", "act"]
abbrev pActsOn : List Str := ["acts", "word", "number"]
def spActsOn : Sp := fun vs H Q _ => ∃ (la : Addr) (x : Str) (m : Int) (ys : List (Addr × En)), vs = [.ref la, .str x, .int m] ∧ H la = some (.lst (refs ys)) ∧ (∀ z ∈ ys, EntAt H z.1 z.2 ∧ z.2.isDeed = false) ∧ ys.length ≤ 1000 ∧
  ∀ p H', Same H H' → H p = none → H' p = some (.lst (((ys.filter fun z => isOn x m z.2).map fun z => z.2.num).map V.int)) → Q (.ref p) H'
def t_on (K : PySem.W.Frag) : TT := tAnd (tTest (tOp rEq (tOp (rIxT K) (tVar 3) (tC (.int 4))) (tVar 1))) (tTest (tOp rEq (tOp (rIxT K) (tVar 3) (tC (.int 5))) (tVar 2)))
/-! ### those in force -/
abbrev nForced : List Str := ["acts", "forced", "act"]
def spForced : Sp := fun vs H Q _ => ∃ (la : Addr) (n : Nat) (es : List En) (d k : Int) (ys : List (Addr × En)), vs = [.ref la] ∧ H la = some (.lst (refs ys)) ∧ (∀ z ∈ ys, EntAt H z.1 z.2) ∧ BkOk n es ∧ OpenActs n es d k ys ∧
  ∀ p H', Same H H' → H p = none → H' p = some (.lst (refs (ys.reverse.filter fun z => frc es d k z.2))) → Q (.ref p) H'
end
end Deed

namespace Deed
open PySem PySem.Spec PyProof.Rows L2 LamX
/-! ### what a deed is: the mathematics -/
def En.rests (e : En) : List Int := match e.kd with
  | .deed _ _ rs _ => rs
  | .act _ _ => []
/-- some act of the word upon the number is in force -/
def anyF (es : List En) (d k : Int) (x : Str) (m : Int) : Bool := es.any fun u => isOn x m u && frc es d k u
def carries (x : Str) : Bool := decide (x ∈ ([("stands" : Str), "paid"] : List Str))
/-- by what its rests are -/
def wordBy (es : List En) (d k : Int) (e : En) (lost : Bool) : Str :=
  if k < e.wri then "unknown" else if d < e.day then "ahead" else if anyF es d k "void" e.num = true then "void" else if lost = true then "fallen" else if anyF es d k "paid" e.num = true then "paid" else "stands"
def isD (m : Int) (e : En) : Bool := e.isDeed && decide (e.num = m)
def stF (es : List En) (d k : Int) : Nat → En → Str
  | 0, _ => "unknown"
  | f + 1, e => wordBy es d k e (e.rests.any fun r => es.any fun u => isD r u && !carries (stF es d k f u))
def st (es : List En) (d k : Int) (e : En) : Str := stF es d k (e.num.toNat + 1) e
theorem EnOk.rest {n : Nat} {ds as : List Int} {e : En} (h : EnOk n ds as e) : ∀ r ∈ e.rests, r ∈ ds ∧ r < e.num := by
  intro r hr
  unfold En.rests at hr
  cases hk : e.kd with
  | deed g t rs ws =>
    rw [hk] at hr
    have h4 := h.2.2.2
    rw [hk] at h4
    exact h4.2.2.2.2.2.1 r hr
  | act x o =>
    rw [hk] at hr
    cases hr
theorem any_congr {α : Type} {l : List α} {p q : α → Bool} (h : ∀ x ∈ l, p x = q x) : l.any p = l.any q := by
  induction l with
  | nil => rfl
  | cons a r ih =>
    rw [List.any_cons, List.any_cons, h a List.mem_cons_self, ih fun x hx => h x (List.mem_cons_of_mem _ hx)]
theorem stF_one {n : Nat} {es : List En} (hB : BkOk n es) (d k : Int) : ∀ (f g : Nat) (e : En), e ∈ es → e.num.toNat + 1 ≤ f → e.num.toNat + 1 ≤ g → stF es d k f e = stF es d k g e := by
  intro f
  induction f with
  | zero =>
    intro g e he hf _
    omega
  | succ f ih =>
    intro g e he hf hg
    cases g with
    | zero => omega
    | succ g =>
      show wordBy es d k e _ = wordBy es d k e _
      congr 1
      refine any_congr fun r hr => any_congr fun u hu => ?_
      cases hd : isD r u with
      | false => rfl
      | true =>
        unfold isD at hd
        rw [Bool.and_eq_true] at hd
        have hn := of_decide_eq_true hd.2
        have lt := ((hB.ok e he).rest r hr).2
        have r1 := hB.rng e he
        have r2 := hB.rng u hu
        rw [ih g u hu (by omega) (by omega)]
theorem st_eq {n : Nat} {es : List En} (hB : BkOk n es) (d k : Int) {e : En} (he : e ∈ es) : st es d k e = wordBy es d k e (e.rests.any fun r => es.any fun u => isD r u && !carries (st es d k u)) := by
  show wordBy es d k e _ = wordBy es d k e _
  congr 1
  refine any_congr fun r hr => any_congr fun u hu => ?_
  cases hd : isD r u with
  | false => rfl
  | true =>
    unfold isD at hd
    rw [Bool.and_eq_true] at hd
    have hn := of_decide_eq_true hd.2
    have lt := ((hB.ok e he).rest r hr).2
    have r1 := hB.rng e he
    have r2 := hB.rng u hu
    rw [stF_one hB d k e.num.toNat (u.num.toNat + 1) u hu (by omega) (by omega)]
    rfl
/-- a rest is lost just where that very deed carries nothing -/
theorem lost_one {n : Nat} {es : List En} (hB : BkOk n es) (d k : Int) {r : Int} {u : En} (hu : u ∈ es) (hd : u.isDeed = true) (hn : u.num = r) : (es.any fun u => isD r u && !carries (st es d k u)) = !carries (st es d k u) := by
  rw [Bool.eq_iff_iff, List.any_eq_true]
  constructor
  · rintro ⟨u', hu', h⟩
    rw [Bool.and_eq_true] at h
    unfold isD at h
    rw [Bool.and_eq_true] at h
    have := num_inj hB hu' hu ((of_decide_eq_true h.1.2).trans hn.symm)
    rw [← this]
    exact h.2
  · intro h
    refine ⟨u, hu, ?_⟩
    unfold isD
    rw [hd, decide_eq_true hn, h]
    rfl
theorem dn_at {es : List En} {r : Int} (h : r ∈ dn es) : ∃ u ∈ es, u.isDeed = true ∧ u.num = r := mem_dn.mp h
/-- the words of deeds, as a dict's pairs -/
abbrev wds (es : List En) (d k : Int) (ys : List (Addr × En)) : List (Key × V) := ys.map fun z => (Sum.inl z.2.num, V.str (st es d k z.2))
theorem valV_map {α : Type} {f : α → Int} {g : α → V} {l : List α} (nd : (l.map f).Nodup) {z : α} (hz : z ∈ l) : valV (l.map fun z => ((Sum.inl (f z) : Key), g z)) (.inl (f z)) = some (g z) := by
  induction l with
  | nil => cases hz
  | cons y r ih =>
    have h2 := List.nodup_cons.mp (show (f y :: r.map f).Nodup from nd)
    show Option.map (·.2) (List.find? (fun kv => decide (kv.1 = (Sum.inl (f z) : Key))) ((Sum.inl (f y), g y) :: r.map fun z => ((Sum.inl (f z) : Key), g z))) = _
    rw [List.find?_cons]
    rcases List.mem_cons.mp hz with rfl | hz
    · simp
    · have hne : ¬ (Sum.inl (f y) : Key) = Sum.inl (f z) := fun q => by
        injection q with q
        exact h2.1 (List.mem_map.mpr ⟨z, hz, q.symm⟩)
      rw [decide_eq_false hne]
      exact ih h2.2 hz
theorem EntAt.seven {H : Hp} {a : Addr} {e : En} (h : EntAt H a e) (hd : e.isDeed = true) : ∃ xs r, H a = some (.tup xs) ∧ atI xs 7 = some (.ref r) ∧ H r = some (.tup (e.rests.map V.int)) := by
  unfold EntAt at h
  unfold En.isDeed at hd
  unfold En.rests
  cases hk : e.kd with
  | deed g t rs ws =>
    rw [hk] at h
    obtain ⟨r, w, h1, h2, _⟩ := h
    exact ⟨_, r, h1, atI_nat (j := 7) rfl, h2⟩
  | act x o =>
    rw [hk] at hd
    cases hd
end Deed

namespace Deed
open PySem PySem.Spec PyProof.Rows L2 LamX
/-- the acts in force, in whatever order -/
structure ForcedAt (es : List En) (d k : Int) (fs : List (Addr × En)) : Prop where
  mem : ∀ z ∈ fs, z.2 ∈ es ∧ z.2.isDeed = false ∧ frc es d k z.2 = true
  all : ∀ u ∈ es, u.isDeed = false → frc es d k u = true → ∃ z ∈ fs, z.2 = u
  len : fs.length ≤ 16
theorem ForcedAt.any {n : Nat} {es : List En} {d k : Int} {fs : List (Addr × En)} (h : ForcedAt es d k fs) (hB : BkOk n es) (x : Str) (hx : x ≠ "deed") (m : Int) : (!((((fs.filter fun z => isOn x m z.2).map fun z => z.2.num).map V.int).isEmpty)) = anyF es d k x m := by
  unfold anyF
  rw [Bool.eq_iff_iff, List.any_eq_true]
  constructor
  · intro hh
    have hne : ¬ (((fs.filter fun z => isOn x m z.2).map fun z => z.2.num).map V.int) = [] := fun z => by
      rw [z] at hh
      cases hh
    have hne2 : fs.filter (fun z => isOn x m z.2) ≠ [] := fun z => hne (by rw [z]; rfl)
    obtain ⟨z, hz⟩ := List.exists_mem_of_ne_nil _ hne2
    obtain ⟨h1, h2⟩ := List.mem_filter.mp hz
    exact ⟨z.2, (h.mem z h1).1, by rw [h2, (h.mem z h1).2.2]; rfl⟩
  · rintro ⟨u, hu, hh⟩
    rw [Bool.and_eq_true] at hh
    obtain ⟨hd, _, _⟩ := isOn_act (hB.ok u hu) hx hh.1
    obtain ⟨z, hz, rfl⟩ := h.all u hu hd hh.2
    have hm : z ∈ fs.filter fun z => isOn x m z.2 := List.mem_filter.mpr ⟨hz, hh.1⟩
    cases hl : fs.filter (fun z => isOn x m z.2) with
    | nil => rw [hl] at hm; cases hm
    | cons a r => rfl
section
variable {P : Program} {w : World} {K : PySem.W.Frag} {mg : Str → Option Value} {base : Heap} {T : List (Addr × Str)} {fOn : Addr} {dOn : FuncData}
/-- the words that carry, of the module's top -/
def CarryAt (K : PySem.W.Frag) (mg : Str → Option Value) : Prop := ∃ a : Addr, mg "CARRYING" = some (.ref a) ∧ ∀ H : Hp, SqT K H a [.str "stands", .str "paid"]
abbrev nWordOf : List Str := ["deed", "forced", "words", "d", "k", "rest"]
abbrev pWordOf : List Str := ["deed", "forced", "words", "d", "k"]
def spWordOf : Sp := fun vs H Q _ => ∃ (a fo wd : Addr) (e : En) (n : Nat) (es : List En) (d k : Int) (fs : List (Addr × En)) (kvs : List (Key × V)), vs = [.ref a, .ref fo, .ref wd, .int d, .int k] ∧ EntAt H a e ∧ e ∈ es ∧ e.isDeed = true ∧ BkOk n es ∧ H fo = some (.lst (refs fs)) ∧ (∀ z ∈ fs, EntAt H z.1 z.2) ∧ ForcedAt es d k fs ∧
  H wd = some (.dK kvs) ∧ (∀ r ∈ e.rests, ∃ u ∈ es, u.isDeed = true ∧ u.num = r ∧ valV kvs (.inl r) = some (.str (st es d k u))) ∧ ∀ H', Same H H' → Q (.str (st es d k e)) H'
end
end Deed

namespace Deed
open PySem PySem.Spec PyProof.Rows L2 LamX
/-- the deeds of zs by their numbers -/
def DeedsUp (zs ys : List (Addr × En)) : Prop := ys.Pairwise (fun a b => a.2.num < b.2.num) ∧ (∀ x, x ∈ ens ys ↔ x ∈ ens zs ∧ x.isDeed = true) ∧ ys.length ≤ 16
theorem DeedsUp.nodup {zs ys : List (Addr × En)} (h : DeedsUp zs ys) : ((ens ys).map (·.num)).Nodup := by
  have h1 := h.1
  refine List.pairwise_map.mpr (List.pairwise_map.mpr (h1.imp fun hh => ?_))
  omega
theorem wds_one {zs ys ys' : List (Addr × En)} (h : DeedsUp zs ys) (h' : DeedsUp zs ys') : ens ys = ens ys' := by
  have key : ∀ (l m : List En), l.Pairwise (fun a b => a.num < b.num) → m.Pairwise (fun a b => a.num < b.num) → (∀ x, x ∈ l ↔ x ∈ m) → l = m := by
    intro l
    induction l with
    | nil =>
      intro m _ _ hh
      cases m with
      | nil => rfl
      | cons y r => exact absurd ((hh y).mpr List.mem_cons_self) (by simp)
    | cons x l ih =>
      intro m h1 h2 hh
      cases m with
      | nil => exact absurd ((hh x).mp List.mem_cons_self) (by simp)
      | cons y m =>
        have a1 := List.pairwise_cons.mp h1
        have a2 := List.pairwise_cons.mp h2
        have exy : x = y := by
          rcases List.mem_cons.mp ((hh x).mp List.mem_cons_self) with e | e
          · exact e
          · rcases List.mem_cons.mp ((hh y).mpr List.mem_cons_self) with e' | e'
            · exact e'.symm
            · have := a1.1 y e'
              have := a2.1 x e
              omega
        subst exy
        congr 1
        refine ih m a1.2 a2.2 fun z => ?_
        constructor
        · intro hz
          rcases List.mem_cons.mp ((hh z).mp (List.mem_cons_of_mem _ hz)) with e | e
          · have := a1.1 z hz
            rw [e] at this
            omega
          · exact e
        · intro hz
          rcases List.mem_cons.mp ((hh z).mpr (List.mem_cons_of_mem _ hz)) with e | e
          · have := a2.1 z hz
            rw [e] at this
            omega
          · exact e
  refine key _ _ (List.pairwise_map.mpr h.1) (List.pairwise_map.mpr h'.1) fun x => ?_
  rw [h.2.1 x, h'.2.1 x]
/-- the words of deeds, by entries alone -/
abbrev wdE (es : List En) (d k : Int) (ys : List En) : List (Key × V) := ys.map fun e => (Sum.inl e.num, V.str (st es d k e))
section
variable {P : Program} {w : World} {K : PySem.W.Frag} {mg : Str → Option Value} {base : Heap} {T : List (Addr × Str)} {fCD fOA fFo fDE fWo fCk fAl : Addr} {dCD dOA dFo dDE dWo dCk dAl : FuncData}
abbrev nAllSt : List Str := ["book", "d", "k", "forced", "words", "entry"]
abbrev pAllSt : List Str := ["book", "d", "k"]
def spAllSt (T : List (Addr × Str)) : Sp := fun vs H Q _ => ∃ (b fk t : Addr) (n : Nat) (age : Int) (zs : List (Addr × En)) (d k : Int), vs = [.ref b, .int d, .int k] ∧ BookAt H b fk t n age zs ∧ Tabs T H ∧ (0 ≤ d ∧ d ≤ 9999) ∧ (0 ≤ k ∧ k ≤ 9999) ∧
  ∀ (p : Addr) (ys : List (Addr × En)) (H' : Hp), ExtN H H' → Tabs T H' → Fresh H p → H' p = some (.dK (wdE (ens zs) d k (ens ys))) → DeedsUp zs ys → Q (.ref p) H'
end
end Deed

namespace Deed
open PySem PySem.Spec PyProof.Rows L2 LamX
/-! ### list(d.values()) -/
def tListVals (te : TE) : TE := fun σ H Q => te σ H fun x H1 => ∃ (d : Addr) (kvs : List (Key × V)), x = .ref d ∧ H1 d = some (.dK kvs) ∧ ∀ p, H1 p = none → Q (.ref p) (upd H1 p (.lst (kvs.map (·.2))))
theorem vals_snd {kvs : List (Key × V)} {vs : List (Key × Value)} (kv : KV kvs vs) : Vals (kvs.map (·.2)) (vs.map (·.2)) := by
  have kv' : Paired (fun (p : Key × V) (q : Key × Value) => p.1 = q.1 ∧ RelV p.2 q.2) kvs vs := kv
  induction kv' with
  | nil => exact .nil
  | cons h _ ih => exact .cons h.2 (ih (by assumption))
section
variable {X : Cx} {e : Expr} {te : TE} {p apos cpos pos : Pos}
theorem pe_listVals (hc : X.calm = true) (he : PE X e te) (hg : Gl X "list") (hm : X.mg "list" = none) (hbase : attributeBase e "values" X.env (eval e X.env) = eval e X.env := by rfl) (hline : (apos.endLine == cpos.line) = true := by rfl)
    (hs : starEach [.Call (.Attribute e "values" apos) [] [] cpos] X.env = (false, eval (.Call (.Attribute e "values" apos) [] [] cpos) X.env) :: starEach [] X.env := by rfl) :
    PE X (.Call (.Name "list" p) [.Call (.Attribute e "values" apos) [] [] cpos] [] pos) (tListVals te) := by
  refine ⟨fun pins s σ H Q I hq => ?_⟩
  refine wpAny_Call_Name_kw (ld_blt I hg hm (show bootBuiltins "list" = some (.type "list") by decide +kernel) ?_)
  refine PyProof.Rows.callWith_type1 (?_) hs rfl
  rw [hs]
  show wpAny _ _ (spliced ((false, eval (.Call (.Attribute e "values" apos) [] [] cpos) X.env) :: backTo pos (starEach [] X.env))) _ _ s
  refine Calls.spliced_cons (?_)
  refine wpAny_Call_method (T := "dict") (id := "dict.values") hbase rfl hline F.plainAttrs_dict F.slot_dict_values F.type_dict_values (thn (he.run pins s σ H _ I hq) fun u s1 ⟨x, H1, I1, rx, d, kvs, ex, hd, q⟩ => ?_)
  subst ex
  obtain rfl : u = Value.ref d := rx
  obtain ⟨hz, hs0, vs, kv, hdo⟩ := I1.hok d _ hd
  obtain ⟨ep, hat⟩ := hdo.dictAt
  have lk : kvs.length = vs.length := Paired.length kv
  have I2 : Inv X pins σ H1 { s1 with heap := s1.heap.push { cls := .type "dict_values", data := .fields #[.ref d] } } := I1.kept (t' := s1.toks) fun b ob q => Heap.get?_push_of_some _ q
  refine ⟨hdo.typeIs, hdo.mapOf.noDict, ?_⟩
  show wpAny _ _ (callWith cpos (.builtin "dict.values") [.ref d] [] []) _ X.xe s1
  refine method_meetsIn F.slot_dict_values F.entry_dict_values rfl (PySem.evalArgs_none ⟨rfl, hdo.typeIs, F.args_dict_values_1 _, _, meets_dict_values (mixKind X.prog X.w) d hs0, ⟨vs, hdo⟩, ?_⟩)
  refine Calls.spliced_nil (?_)
  refine PySem.W.kdl_call (PySem.W.kdl_values (knd := mixKind X.prog X.w) (kvs := vs) (ep := ep)) (I1.ok.hd hc) ⟨⟨_, Heap.get?_push_size _ rfl, rfl, rfl⟩, hat.push _⟩ (by omega) fun h' tk acc c hk hS hit => ?_
  have ea : acc.toList = vs.map (·.2) := by
    apply List.ext_getElem?
    intro i
    rw [List.getElem?_map]
    by_cases hi : i < vs.length
    · have h1 : i < acc.size := by rw [hit.1]; exact hi
      obtain ⟨k, hk'⟩ := hit.2 i acc[i] (Array.getElem?_eq_getElem h1)
      rw [hk', Array.getElem?_toList, Array.getElem?_eq_getElem h1]
      rfl
    · have h1 : acc.size ≤ i := by rw [hit.1]; omega
      have h2 : vs[i]? = none := List.getElem?_eq_none (by omega)
      rw [h2, Array.getElem?_toList, Array.getElem?_eq_none h1]
      rfl
  have hv := vals_snd kv
  rw [← ea] at hv
  exact ⟨.ref _, _, I2.laid (t' := tk) hk (Nat.le_refl _) (show ObjOk X.prog X.w _ h' _ (.lst (kvs.map (·.2))) from ⟨by rw [List.length_map]; exact hz, acc.toList, c, hv, by rw [Array.toArray_toList]; exact hS⟩), rfl, q _ (I2.hok.fresh (Nat.le_refl _))⟩
end
end Deed

namespace Deed
open PySem PySem.Spec PyProof.Rows L2
/-! ### set(xs), xs a list of ints -/
abbrev eSet (w : World) : Obj := { cls := .type "set", dict := none, data := .set #[] 0 (.fresh 0 0 (!w.params.followText "set-order")) }
section
variable {P : Program} {w : World} {A : Around} {E : Value → Shared → Prop} {s : Shared}
set_option maxHeartbeats 8000000 in
theorem call_setL {l : Addr} {items : Array Value} (ns : List Int) {Q : Value → Shared → Prop} (nh : A.handled = none) (il : s.heap.IsList l items) (ia : IntsAre items.toList ns) (bd : ns.length + 1 < scanBound)
    (fin : ∀ (h' : Heap) (tk c : Nat), SetR w h' s.heap.objs.size (fun j => decide (j ∈ ns)) c → c ≤ ns.length → (∀ b o, s.heap.get? b = some o → h'.get? b = some o) → Q (.ref s.heap.objs.size) { s with heap := h', toks := tk }) :
    wpAny (model P w) A (call (.type "set") [Value.ref l]) Q E s := by
  have zl : items.size = ns.length := by
    rw [← Array.length_toList]
    exact IntsAre.length ia
  obtain ⟨mc, mt, f1⟩ := F.called_set.mro
  have f2 := F.called_set.made
  have f3 := F.called_set.sub
  refine wpAny_call (codeAny_of_tree (?_))
  show wpAny _ _ (callAny (Value.type "set") _) _ _ _
  refine wpAny_pure ⟨Code.quiet_builtin _ (by decide +kernel), (codeAny_builtin F.entry_type_call ?_)⟩
  rw [Around.under_plain (weight_type_call_type "set" [Value.ref l] []) rfl]
  have f4 := F.called_set.notType
  have f5 := F.called_set.canCreate
  have f6 := F.typeCall_set_1 (.ref l)
  repeat (any_goals (first | assumption | wp_step))
  refine codeAny_mono (code_set_led1 (Value.ref l) (E := E) (Q₁ := fun o s₁ => o = .ref s.heap.objs.size ∧ s₁ = { s with heap := s.heap.push (eSet w) }) ⟨rfl, rfl⟩) fun r s₁ hr => ?_
  match r, hr with
  | .error e, hr => exact hr
  | .ok .next, hr => exact hr.elim
  | .ok .brk, hr => exact hr.elim
  | .ok .cont, hr => exact hr.elim
  | .ok (.ret o), hr =>
    obtain ⟨rfl, rfl⟩ := hr
    have atS : (s.heap.push (eSet w)).get? s.heap.objs.size = some (eSet w) := Heap.get?_push_size _ rfl
    have tyS : Shared.TypeIs { s with heap := s.heap.push (eSet w) } (.ref s.heap.objs.size) "set" := ⟨_, atS, rfl⟩
    have f7 := F.called_set.init.lookup
    have f8 := F.called_set.init.bind (.ref s.heap.objs.size)
    repeat (any_goals (first | assumption | wp_step))
    refine codeAny_mono (codeAny_call_builtin (R := wants (fun r s₂ => r = .none ∧ ∃ h' tk c, s₂ = { s with heap := h', toks := tk } ∧ SetR w h' s.heap.objs.size (fun j => decide (j ∈ ns)) c ∧ c ≤ ns.length ∧ (∀ b o, s.heap.get? b = some o → h'.get? b = some o)) E) F.called_set.init.plain F.entry_set_init (check_set_init_1 tyS ?_)) fun r₂ s₂ hr₂ => ?_
    · obtain ⟨⟨oc, od, dt, sl⟩, gl, gc, en, gd⟩ := il
      simp only at gc gd
      subst gc
      subst gd
      have gl' : (s.heap.push (eSet w)).get? l = some { cls := .type "list", dict := od, data := .seq items en, slots := sl } := Heap.get?_push_of_some _ gl
      have f9 := F.sub_list_set
      have f10 := F.sub_list_frozenset
      have f11 : (Value.type "list" == Value.type "dict") = false := by decide
      have il' : (s.heap.push (eSet w)).IsList l items := ⟨_, gl', rfl, en, rfl⟩
      unfold Builtin.«set.__init__» noKeywords Builtin.Frozenset.updateFrom
      generalize ePI : pyIter = IT
      wp_walk
      subst ePI
      refine wpAny_pyIter_list il' ?_
      refine wpAny_bind (wpAny_runValue (?_))
      have lt0 : l < s.heap.objs.size := Heap.lt_size gl
      have nh3 : A.in1.in1.in1.handled = none := by simp [nh]
      have nI : l ≠ (s.heap.push (eSet w)).objs.size := by rw [Heap.size_push]; exact Nat.ne_of_lt (Nat.lt_succ_of_lt lt0)
      have nS : s.heap.objs.size ∉ [(s.heap.push (eSet w)).objs.size, l] := by
        rw [Heap.size_push]
        simp only [List.mem_cons, List.not_mem_nil, or_false, not_or]
        exact ⟨Nat.ne_of_lt (Nat.lt_succ_self _), Nat.ne_of_gt lt0⟩
      have vals : ∀ (i : Nat) (v : Value), items[i]? = some v → ∃ k t, ns[i]? = some k ∧ v = .int k t := fun i v hv => by
        have hi : i < ns.length := zl ▸ (Array.getElem?_eq_some_iff.mp hv).1
        obtain ⟨t, e⟩ := PyProof.Rows.IntsAre.int_at ia i v (by rw [Array.getElem?_toList]; exact hv)
        refine ⟨ns[i], t, List.getElem?_eq_getElem hi, e.trans ?_⟩
        rw [List.getD_eq_getElem?_getD, List.getElem?_eq_getElem hi]
        rfl
      refine set_update_ints ((Walks.list nh3 _ l nI items).toS) s.heap.objs.size nS ns zl bd vals (items.size - 0) 0 _ (by omega) (Nat.zero_le _) ⟨⟨_, Heap.get?_push_size _ rfl, rfl, rfl⟩, il'.push _⟩ ⟨0, Nat.le_refl 0, setR_new_at (Heap.get?_push_of_some _ atS)⟩ fun s' c' mv lc R' => ?_
      obtain ⟨h', g', d', tk', os'⟩ := s'
      obtain rfl : g' = s.gens := mv.gens
      obtain rfl : d' = s.drawn := mv.drawn
      obtain rfl : os' = s.os := mv.os
      show wpAny _ _ _ _ _ _
      refine wpAny_pure (?_)
      show wpAny _ _ (ret Value.none) _ _ _
      refine wpAny_pure ⟨rfl, h', tk', c', rfl, R', zl ▸ lc, fun b o e => ?_⟩
      have ltb : b < s.heap.objs.size := Heap.lt_size e
      refine mv.heap b o (fun z => ?_) (Heap.get?_push_of_some _ (Heap.get?_push_of_some _ e))
      rw [Heap.size_push] at z
      simp only [List.mem_cons, List.not_mem_nil, or_false] at z
      rcases z with z | z
      · exact absurd z (Nat.ne_of_lt ltb)
      · exact absurd z (Nat.ne_of_lt (Nat.lt_succ_of_lt ltb))
    · match r₂, hr₂ with
      | .error e, hr₂ => exact hr₂
      | .ok .next, hr₂ => exact hr₂.elim
      | .ok .brk, hr₂ => exact hr₂.elim
      | .ok .cont, hr₂ => exact hr₂.elim
      | .ok (.ret r), hr₂ =>
        obtain ⟨rfl, h', tk, c', rfl, R', lc, kp⟩ := hr₂
        repeat (any_goals (first | assumption | wp_step))
        exact fin _ _ _ R' lc kp
end
section
variable {X : Cx}
/-- set(xs) -/
def rSetL (K : PySem.W.Frag) (w : World) : List V → Hp → VK → Prop := fun xs H Q => ∃ (a : Addr) (ns : List Int), xs = [V.ref a] ∧ SqL K H a (ns.map V.int) ∧ ns.length + 1 < scanBound ∧ ∀ (p : Addr) (c : Nat), H p = none → c ≤ ns.length → Q (.ref p) (upd H p (SetO w p (fun j => decide (j ∈ ns)) c))
theorem cr_setL (hc : X.calm = true) : CallR X (.type "set") (rSetL X.K X.w) := by
  intro pins s σ H vs us Q I r h
  obtain ⟨a, ns, rfl, hs, hb, q⟩ := h
  obtain ⟨its, rv, hl, hz⟩ := I.list hs
  rw [Vals.ref1 r]
  refine call_setL ns (I.ok.hd hc) hl.isList (by simpa using rv.ints) hb fun h' tk c R lc kp => ?_
  exact ⟨.ref _, _, I.laid (t' := tk) kp (Nat.le_refl _) (setO_new R), rfl, q _ c (I.hok.fresh (Nat.le_refl _)) lc⟩
end
end Deed

/-! turns among days -/
namespace Deed
abbrev DW (S : Type) := Int × S
section
variable {S : Type} [DecidableEq S]
def lastW (acc : List (Int × S)) : Option S := acc.getLast?.map (·.2)
def stepT (acc : List (Int × S)) (p : Int × S) : List (Int × S) := if lastW acc = some p.2 then acc else acc ++ [p]
def tns (l : List (Int × S)) : List (Int × S) := l.foldl stepT []
theorem lastW_step (acc : List (Int × S)) (p : Int × S) : lastW (stepT acc p) = some p.2 := by
  unfold stepT
  split
  · assumption
  · simp [lastW]
theorem stepT_len (acc : List (Int × S)) (p : Int × S) : (stepT acc p).length ≤ acc.length + 1 := by
  unfold stepT
  split
  · omega
  · simp
theorem foldT_len : ∀ (l acc : List (Int × S)), (l.foldl stepT acc).length ≤ acc.length + l.length
  | [], acc => by simp
  | p :: l, acc => by
    rw [List.foldl_cons]
    have h1 := foldT_len l (stepT acc p)
    have h2 := stepT_len acc p
    simp only [List.length_cons]
    omega
theorem tns_len (l : List (Int × S)) : (tns l).length ≤ l.length := by
  have := foldT_len l []
  simpa [tns] using this
theorem tns_snoc (l : List (Int × S)) (p : Int × S) : tns (l ++ [p]) = stepT (tns l) p := by
  unfold tns
  rw [List.foldl_append]
  rfl
theorem mem_stepT {acc : List (Int × S)} {p q : Int × S} (h : q ∈ stepT acc p) : q ∈ acc ∨ q = p := by
  unfold stepT at h
  split at h
  · exact .inl h
  · rcases List.mem_append.mp h with h | h
    · exact .inl h
    · exact .inr (List.mem_singleton.mp h)
theorem mem_foldT : ∀ {l acc : List (Int × S)} {q : Int × S}, q ∈ l.foldl stepT acc → q ∈ acc ∨ q ∈ l
  | [], _, _, h => .inl h
  | p :: l, acc, q, h => by
    rw [List.foldl_cons] at h
    rcases mem_foldT h with h | h
    · rcases mem_stepT h with h | h
      · exact .inl h
      · exact .inr (by rw [h]; exact List.mem_cons_self)
    · exact .inr (List.mem_cons_of_mem _ h)
theorem mem_tns {l : List (Int × S)} {q : Int × S} (h : q ∈ tns l) : q ∈ l := by
  rcases mem_foldT h with h | h
  · cases h
  · exact h
/-- what turns nothing may be left out -/
theorem fold_skip (W : Int → S) (D : Int → Bool) : ∀ (l : List Int) (x : Int) (acc : List (Int × S)), lastW acc = some (W x) → List.Pairwise (· < ·) (x :: l) → (∀ y ∈ l, D y = false → ∀ z ∈ x :: l, z < y → (∀ u ∈ x :: l, ¬ (z < u ∧ u < y)) → W y = W z) →
    (l.map fun m => (m, W m)).foldl stepT acc = ((l.filter D).map fun m => (m, W m)).foldl stepT acc
  | [], _, _, _, _, _ => rfl
  | y :: l, x, acc, ha, hp, hR => by
    have hp2 := (List.pairwise_cons.mp hp).2
    have hxy : x < y := (List.pairwise_cons.mp hp).1 y List.mem_cons_self
    have hR' : ∀ y' ∈ l, D y' = false → ∀ z ∈ y :: l, z < y' → (∀ u ∈ y :: l, ¬ (z < u ∧ u < y')) → W y' = W z := fun y' hy' hD z hz hzy hn => by
      refine hR y' (List.mem_cons_of_mem _ hy') hD z (List.mem_cons_of_mem _ hz) hzy fun u hu => ?_
      rcases List.mem_cons.mp hu with rfl | hu
      · have : u < z := (List.pairwise_cons.mp hp).1 z hz
        omega
      · exact hn u hu
    cases hD : D y with
    | true =>
      rw [List.map_cons, List.foldl_cons, List.filter_cons, if_pos hD, List.map_cons, List.foldl_cons]
      exact fold_skip W D l y _ (lastW_step _ _) hp2 hR'
    | false =>
      have hW : W y = W x := hR y List.mem_cons_self hD x List.mem_cons_self hxy fun u hu => by
        rcases List.mem_cons.mp hu with rfl | hu
        · omega
        · rcases List.mem_cons.mp hu with rfl | hu
          · omega
          · have := (List.pairwise_cons.mp hp2).1 u hu
            omega
      rw [List.map_cons, List.foldl_cons, List.filter_cons, if_neg (by rw [hD]; decide)]
      have e1 : stepT acc (y, W y) = acc := by
        unfold stepT
        rw [if_pos (by rw [ha, hW])]
      rw [e1]
      exact fold_skip W D l y acc (by rw [ha, hW]) hp2 hR'
theorem up_one : ∀ {l m : List Int}, l.Pairwise (· < ·) → m.Pairwise (· < ·) → (∀ x, x ∈ l ↔ x ∈ m) → l = m
  | [], [], _, _, _ => rfl
  | [], y :: m, _, _, h => absurd ((h y).mpr List.mem_cons_self) (by simp)
  | x :: l, [], _, _, h => absurd ((h x).mp List.mem_cons_self) (by simp)
  | x :: l, y :: m, hl, hm, h => by
    have h1 := List.pairwise_cons.mp hl
    have h2 := List.pairwise_cons.mp hm
    have e : x = y := by
      rcases List.mem_cons.mp ((h x).mp List.mem_cons_self) with e | e
      · exact e
      · rcases List.mem_cons.mp ((h y).mpr List.mem_cons_self) with e' | e'
        · exact e'.symm
        · have := h2.1 x e
          have := h1.1 y e'
          omega
    subst e
    rw [up_one h1.2 h2.2 fun z => ?_]
    constructor
    · intro hz
      rcases List.mem_cons.mp ((h z).mp (List.mem_cons_of_mem _ hz)) with e | e
      · have := h1.1 z hz
        omega
      · exact e
    · intro hz
      rcases List.mem_cons.mp ((h z).mpr (List.mem_cons_of_mem _ hz)) with e | e
      · have := h2.1 z hz
        omega
      · exact e
/-- by more days, none of which is ahead of the first: the same turns -/
theorem tns_marks (W : Int → S) {M D : List Int} (hM : M.Pairwise (· < ·)) (hD : D.Pairwise (· < ·)) (h0 : (0 : Int) ∈ D) (hsub : ∀ x ∈ D, x ∈ M) (hpos : ∀ x ∈ M, 0 ≤ x) (hW : ∀ z y, 0 ≤ z → z < y → (∀ u ∈ D, ¬ (z < u ∧ u ≤ y)) → W y = W z) :
    tns (M.map fun m => (m, W m)) = tns (D.map fun m => (m, W m)) := by
  have eD : M.filter (fun m => decide (m ∈ D)) = D := up_one (hM.filter _) hD fun x => by
    rw [List.mem_filter]
    constructor
    · rintro ⟨_, h⟩
      exact of_decide_eq_true h
    · intro h
      exact ⟨hsub x h, decide_eq_true h⟩
  cases M with
  | nil => exact absurd (hsub 0 h0) (by simp)
  | cons m l =>
    have hm0 : m = 0 := by
      rcases List.mem_cons.mp (hsub 0 h0) with e | e
      · exact e.symm
      · have := (List.pairwise_cons.mp hM).1 0 e
        have := hpos m List.mem_cons_self
        omega
    have hmD : decide (m ∈ D) = true := decide_eq_true (by rw [hm0]; exact h0)
    rw [List.filter_cons, if_pos hmD] at eD
    rw [← eD]
    unfold tns
    rw [List.map_cons, List.map_cons, List.foldl_cons, List.foldl_cons]
    refine fold_skip W _ l m _ (lastW_step _ _) hM fun y hy hDy z hz hzy hn => ?_
    refine hW z y (hpos z hz) hzy fun u hu ⟨h1, h2⟩ => ?_
    have hyD : y ∉ D := of_decide_eq_false hDy
    rcases Int.lt_or_eq_of_le h2 with h3 | h3
    · exact hn u (hsub u hu) ⟨h1, h3⟩
    · rw [h3] at hu
      exact hyD hu
end
end Deed
namespace Deed
open PySem PySem.Spec PyProof.Rows L2 LamX
theorem all_congr' {α : Type} {l : List α} {p q : α → Bool} (h : ∀ x ∈ l, p x = q x) : l.all p = l.all q := by
  rw [Bool.eq_iff_iff, List.all_eq_true, List.all_eq_true]
  exact ⟨fun z x hx => by rw [← h x hx]; exact z x hx, fun z x hx => by rw [h x hx]; exact z x hx⟩
/-- what matters of days -/
def Alike (es : List En) (d k d' k' : Int) : Prop := ∀ u ∈ es, (u.day ≤ d ↔ u.day ≤ d') ∧ (u.wri ≤ k ↔ u.wri ≤ k')
theorem Alike.open {es : List En} {d k d' k' : Int} (h : Alike es d k d' k') {u : En} (hu : u ∈ es) : isOpen d k u = isOpen d' k' u := by
  unfold isOpen
  rw [decide_eq_decide.mpr (h u hu).1, decide_eq_decide.mpr (h u hu).2]
theorem frcF_at {es : List En} {d k d' k' : Int} (h : Alike es d k d' k') : ∀ (f : Nat) (e : En), e ∈ es → frcF es d k f e = frcF es d' k' f e := by
  intro f
  induction f with
  | zero => intro e _; rfl
  | succ f ih =>
    intro e he
    show (isOpen d k e && es.all fun u => !(isOn "undone" e.num u && frcF es d k f u)) = (isOpen d' k' e && es.all fun u => !(isOn "undone" e.num u && frcF es d' k' f u))
    rw [h.open he, all_congr' fun u hu => by rw [ih u hu]]
theorem anyF_at {es : List En} {d k d' k' : Int} (h : Alike es d k d' k') (x : Str) (m : Int) : anyF es d k x m = anyF es d' k' x m := by
  unfold anyF frc
  exact any_congr fun u hu => by rw [frcF_at h _ u hu]
theorem stF_at {es : List En} {d k d' k' : Int} (h : Alike es d k d' k') : ∀ (f : Nat) (e : En), e ∈ es → stF es d k f e = stF es d' k' f e := by
  intro f
  induction f with
  | zero => intro e _; rfl
  | succ f ih =>
    intro e he
    show wordBy es d k e (e.rests.any fun r => es.any fun u => isD r u && !carries (stF es d k f u)) = wordBy es d' k' e (e.rests.any fun r => es.any fun u => isD r u && !carries (stF es d' k' f u))
    have e1 : (e.rests.any fun r => es.any fun u => isD r u && !carries (stF es d k f u)) = (e.rests.any fun r => es.any fun u => isD r u && !carries (stF es d' k' f u)) := any_congr fun r _ => any_congr fun u hu => by rw [ih u hu]
    rw [e1]
    unfold wordBy
    rw [anyF_at h, anyF_at h]
    have h1 := (h e he).1
    have h2 := (h e he).2
    have e2 : (k < e.wri) = (k' < e.wri) := propext ⟨fun z => by omega, fun z => by omega⟩
    have e3 : (d < e.day) = (d' < e.day) := propext ⟨fun z => by omega, fun z => by omega⟩
    simp only [e2, e3]
theorem st_at {es : List En} {d k d' k' : Int} (h : Alike es d k d' k') {e : En} (he : e ∈ es) : st es d k e = st es d' k' e := stF_at h _ e he
/-- the days at a place of the entries -/
def dayAt (pl : Bool) (e : En) : Int := if pl then e.day else e.wri
/-- what a deed is, by a day of that place -/
def stAt (es : List En) (pl : Bool) (o : Int) (e : En) (x : Int) : Str := if pl then st es x o e else st es o x e
def DaysAt (es : List En) (pl : Bool) (D : List Int) : Prop := D.Pairwise (· < ·) ∧ ∀ x, x ∈ D ↔ x = 0 ∨ ∃ e ∈ es, dayAt pl e = x
theorem stAt_same {es : List En} {pl : Bool} {D : List Int} (hD : DaysAt es pl D) (o : Int) {e : En} (he : e ∈ es) : ∀ z y, 0 ≤ z → z < y → (∀ u ∈ D, ¬ (z < u ∧ u ≤ y)) → stAt es pl o e y = stAt es pl o e z := by
  intro z y h0 hzy hn
  have key : ∀ u ∈ es, dayAt pl u ≤ y ↔ dayAt pl u ≤ z := fun u hu => by
    have h1 := hn _ ((hD.2 _).mpr (.inr ⟨u, hu, rfl⟩))
    constructor
    · intro h2
      omega
    · intro h2
      omega
  unfold stAt
  cases pl with
  | true => exact st_at (fun u hu => ⟨key u hu, Iff.rfl⟩) he
  | false => exact st_at (fun u hu => ⟨Iff.rfl, key u hu⟩) he
/-- the course, by whatever more days -/
theorem course_one {es : List En} {pl : Bool} {D M : List Int} (hD : DaysAt es pl D) (hM : M.Pairwise (· < ·)) (hsub : ∀ x ∈ D, x ∈ M) (hpos : ∀ x ∈ M, 0 ≤ x) (o : Int) {e : En} (he : e ∈ es) :
    tns (M.map fun m => (m, stAt es pl o e m)) = tns (D.map fun m => (m, stAt es pl o e m)) :=
  tns_marks _ hM hD.1 ((hD.2 0).mpr (.inl rfl)) hsub hpos (stAt_same hD o he)
end Deed

namespace Deed
open PySem PySem.Spec PyProof.Rows L2 LamX
theorem sNew {H : Hp} {p : Addr} (n : H p = none) (o : HO) : Same H (upd H p o) := fun b u e => by rw [upd_ne (ne_of_none e n)]; exact e
/-- a list of turns -/
def TurnsAt (H : Hp) (p : Addr) (l : List (Int × Str)) : Prop := ∃ zs : List (Addr × (Int × Str)), H p = some (.lst (zs.map fun z => V.ref z.1)) ∧ zs.map (·.2) = l ∧ ∀ z ∈ zs, H z.1 = some (.tup [.int z.2.1, .str z.2.2])
theorem TurnsAt.extN {H H' : Hp} {p : Addr} {l : List (Int × Str)} (h : TurnsAt H p l) (e : ExtN H H') : TurnsAt H' p l := by
  obtain ⟨zs, h1, h2, h3⟩ := h
  exact ⟨zs, e _ _ h1 (fun ps z => by cases z), h2, fun z hz => e _ _ (h3 z hz) (fun ps z => by cases z)⟩
theorem TurnsAt.snoc {H : Hp} {p tp : Addr} {zs : List (Addr × (Int × Str))} {q : Int × Str} (e : H p = some (.lst ((zs.map fun z => V.ref z.1) ++ [.ref tp]))) (et : H tp = some (.tup [.int q.1, .str q.2])) (h : ∀ z ∈ zs, H z.1 = some (.tup [.int z.2.1, .str z.2.2])) : TurnsAt H p (zs.map (·.2) ++ [q]) := by
  refine ⟨zs ++ [(tp, q)], ?_, ?_, fun z hz => ?_⟩
  · rw [e, List.map_append]
    rfl
  · rw [List.map_append]
    rfl
  · rcases List.mem_append.mp hz with hz | hz
    · exact h z hz
    · rw [List.mem_singleton.mp hz]
      exact et
section
variable {P : Program} {w : World} {K : PySem.W.Frag} {mg : Str → Option Value} {base : Heap} {T : List (Addr × Str)}
/-! ### the days of entries -/
abbrev nDaysAt : List Str := ["book", "place", "entry"]
abbrev pDaysAt : List Str := ["book", "place"]
def plI (pl : Bool) : Int := if pl then 1 else 2
def spDaysAt : Sp := fun vs H Q _ => ∃ (b fk t : Addr) (n : Nat) (age : Int) (zs : List (Addr × En)) (pl : Bool), vs = [.ref b, .int (plI pl)] ∧ BookAt H b fk t n age zs ∧ ∀ (D : List Int) (p : Addr) (H' : Hp), Same H H' → H p = none → H' p = some (.lst (D.map V.int)) → DaysAt (ens zs) pl D → D.length ≤ 17 → Q (.ref p) H'
/-! ### turns among days -/
end
end Deed

namespace Deed
open PySem PySem.Spec PyProof.Rows L2 LamX
/-- all but the pen and the tables is as it was -/
def XP (p : Addr) (H H' : Hp) : Prop := ∀ b o, b ≠ p → H b = some o → (∀ ps, o ≠ .tbl ps) → H' b = some o
theorem XP.refl (p : Addr) (H : Hp) : XP p H H := fun _ _ _ h _ => h
theorem XP.trans {p : Addr} {H H1 H2 : Hp} (a : XP p H H1) (b : XP p H1 H2) : XP p H H2 := fun c o n h t => b c o n (a c o n h t) t
theorem XP.ofN {p : Addr} {H H' : Hp} (e : ExtN H H') : XP p H H' := fun b o _ h t => e b o h t
theorem XP.ofK {p : Addr} {H H' : Hp} (k : Kp p H H') : XP p H H' := fun b o n h _ => k b o n h
theorem XP.ofS {p : Addr} {H H' : Hp} (s : Same H H') : XP p H H' := fun b o _ h _ => s b o h
theorem XP.tup {p : Addr} {H H' : Hp} (x : XP p H H') (P : PenAt H p) : KpT H H' := fun b xs e => x _ _ (P.ne e fun _ z => by cases z) e fun ps z => by cases z
theorem XP.toN {p : Addr} {H0 H H' : Hp} (e : ExtN H0 H) (n : H0 p = none) (x : XP p H H') : ExtN H0 H' := fun b o h t => x b o (ne_of_none h n) (e b o h t) t
theorem EdAt.xp {p : Addr} {H H' : Hp} {ed : Addr} {n : Nat} {zs : List (Addr × En)} (h : EdAt H ed n zs) (x : XP p H H') (P : PenAt H p) : EdAt H' ed n zs :=
  ⟨x _ _ (P.ne h.at_ fun _ z => by cases z) h.at_ fun ps z => (by cases z), fun z hz => (h.ent z hz).kp (x.tup P), h.ok, h.len⟩
theorem EdAt.extN {H H' : Hp} {ed : Addr} {n : Nat} {zs : List (Addr × En)} (h : EdAt H ed n zs) (e : ExtN H H') : EdAt H' ed n zs :=
  ⟨e _ _ h.at_ fun ps z => (by cases z), fun z hz => (h.ent z hz).kp (ExtN.tup e), h.ok, h.len⟩
section
variable (K : PySem.W.Frag) (mg : Str → Option Value)
abbrev CellD := Df K mg "_law_cell_at" sCell ["_law_script", "_law_k"]
abbrev PenD := Df K mg "_law_pen" sPen ["_law_cell"]
abbrev BookD := Df K mg "_law_book" sBook ["_law_pen_here", "_law_most"]
end
/-- how many cells are looked at -/
theorem turns3 (m : Nat) : ∃ tn : Int, (if (if 3 < (m : Int) then 3 else (m : Int)) > 1 then (if 3 < (m : Int) then 3 else (m : Int)) else 1) = tn ∧ 0 ≤ tn ∧ tn ≤ 3 := ⟨_, rfl, by split <;> split <;> omega, by split <;> split <;> omega⟩
end Deed

namespace Deed
open PySem PySem.Spec PyProof.Rows L2 LamX
theorem dp_strs {K : PySem.W.Frag} {H : Hp} : ∀ ns : List Str, DpAll K H (ns.map V.str) (ns.map PyData.str)
  | [] => .nil
  | n :: r => .cons (.str n) (dp_strs r)
theorem lay_strs : ∀ ns : List Str, (∀ x ∈ ns, PyData.strOk x = true) → PyData.canLayAll0 (ns.map PyData.str) = true
  | [], _ => by simp [PyData.canLayAll0]
  | n :: r, h => by simp [PyData.canLayAll0, PyData.canLay0, h n List.mem_cons_self, lay_strs r fun x hx => h x (List.mem_cons_of_mem _ hx)]
theorem depth_strs : ∀ ns : List Str, PyData.depthAll (ns.map PyData.str) ≤ 1
  | [] => by simp [PyData.depthAll]
  | n :: r => by
    have h := depth_strs r
    simp only [List.map_cons, PyData.depthAll, PyData.depth]
    omega
theorem shaped_strs (ns : List Str) (hok : ∀ x ∈ ns, PyData.strOk x = true) : SeqAt.shaped (.list (ns.map PyData.str)) = true := by
  have h1 := depth_strs ns
  have h2 : PyData.depth (.list (ns.map PyData.str)) ≤ 64 := by
    simp only [PyData.depth]
    omega
  show (PyData.canLay0 (.list (ns.map PyData.str)) && decide (PyData.depth (.list (ns.map PyData.str)) ≤ 64)) = true
  rw [Bool.and_eq_true]
  exact ⟨by simp only [PyData.canLay0]; exact lay_strs ns hok, decide_eq_true h2⟩
theorem eqvAll_strs : ∀ ns : List Str, PyData.eqvAll (ns.map PyData.str) (ns.map PyData.str) = true
  | [] => by simp [PyData.eqvAll]
  | n :: r => by simp [PyData.eqvAll, PyData.eqv, eqvAll_strs r]
theorem eqv_strs (ns : List Str) : PyData.eqv (.list (ns.map PyData.str)) (.list (ns.map PyData.str)) = true := by
  simp only [PyData.eqv]
  exact eqvAll_strs ns
theorem st_ok (es : List En) (d k : Int) (e : En) : PyData.strOk (st es d k e) = true := by
  unfold st stF wordBy
  split
  · decide +kernel
  · split
    · decide +kernel
    · split
      · decide +kernel
      · split
        · decide +kernel
        · split
          · decide +kernel
          · decide +kernel
theorem Tabs.lock {T : List (Addr × Str)} {H : Hp} (t : Tabs T H) {d : Addr} {kvs : List (Key × V)} (e : H d = some (.dK kvs)) (o : HO) : Tabs T (upd H d o) := fun q0 hq0 => by
  obtain ⟨ps, h1, h2, h3⟩ := t q0 hq0
  have n1 : q0.1 ≠ d := fun z0 => by
    rw [z0, e] at h1
    cases h1
  refine ⟨ps, by rw [upd_ne n1]; exact h1, h2, fun pos cv hcv => ?_⟩
  obtain ⟨c0, e1, e2⟩ := h3 pos cv hcv
  refine ⟨c0, e1, ?_⟩
  have n2 : c0 ≠ d := fun z0 => by
    rw [z0, e] at e2
    unfold CodeO at e2
    cases e2
  rw [upd_ne n2]
  exact e2
theorem Tabs.unlock {T : List (Addr × Str)} {H : Hp} (t : Tabs T H) {d : Addr} {ob : Obj} {kvs : List (Key × V)} (e : H d = some (.frz ob (.dK kvs))) (o : HO) : Tabs T (upd H d o) := fun q0 hq0 => by
  obtain ⟨ps, h1, h2, h3⟩ := t q0 hq0
  have n1 : q0.1 ≠ d := fun z0 => by
    rw [z0, e] at h1
    cases h1
  refine ⟨ps, by rw [upd_ne n1]; exact h1, h2, fun pos cv hcv => ?_⟩
  obtain ⟨c0, e1, e2⟩ := h3 pos cv hcv
  refine ⟨c0, e1, ?_⟩
  have n2 : c0 ≠ d := fun z0 => by
    rw [z0, e] at e2
    unfold CodeO at e2
    cases e2
  rw [upd_ne n2]
  exact e2
end Deed

namespace Deed
open PySem PySem.Spec PyProof.Rows L2
/-! ### zip of lists and tuples in whatever mix: true is a list -/
def Sq2 (K : PySem.W.Frag) : Bool → Hp → Addr → List V → Prop
  | true, H, a, xs => SqL K H a xs
  | false, H, a, xs => SqT K H a xs
def IsB : Bool → Heap → Addr → Array Value → Prop
  | true, h, a, its => h.IsList a its
  | false, h, a, its => h.IsTuple a its
def IterB : Bool → Heap → Addr → Addr → Nat → Prop
  | true, h, it, a, i => h.IsListIter it a i
  | false, h, it, a, i => h.IsTupleIter it a i
theorem IterB.at {c : Bool} {h h' : Heap} {it a : Addr} {i : Nat} (x : IterB c h it a i) (k : ∀ o, h.get? it = some o → h'.get? it = some o) : IterB c h' it a i := by
  cases c with
  | true => exact Heap.IsListIter.at x k
  | false => exact Heap.IsTupleIter.at x k
theorem IterB.obj {c : Bool} {h : Heap} {it a : Addr} {i : Nat} (x : IterB c h it a i) : ∃ o, h.get? it = some o ∧ ∀ v, o.data ≠ .cell v := by
  cases c with
  | true =>
    obtain ⟨o, e, _, dt⟩ := x
    exact ⟨o, e, fun v q => by rw [dt] at q; cases q⟩
  | false =>
    obtain ⟨o, e, _, dt⟩ := x
    exact ⟨o, e, fun v q => by rw [dt] at q; cases q⟩
theorem drawsB {prog : Program} {w : World} {A : Around} (hh : A.handled = none) (c : Bool) (it l : Addr) (hne : l ≠ it) (items : Array Value) : Draws prog w A it [it, l] items.size (fun i v => items[i]? = some v) (fun i h => IterB c h it l i ∧ IsB c h l items) := by
  cases c with
  | true => exact Draws.list hh it l hne items
  | false => exact Draws.tuple hh it l hne items
section
variable {X : Cx} {pins : List (Addr × Obj)} {σ : L2.St} {H : Hp} {s : Shared}
theorem sq2_is {c : Bool} {a : Addr} {xs : List V} (I : Inv X pins σ H s) (q : Sq2 X.K c H a xs) : ∃ its, Vals xs its ∧ IsB c s.heap a its.toArray ∧ a < s.heap.objs.size := by
  cases c with
  | true =>
    obtain ⟨its, rv, pp, _⟩ := I.list q
    exact ⟨its, rv, pp.isList, pp.lt⟩
  | false =>
    obtain ⟨its, rv, pp, _⟩ := I.tuple q
    obtain ⟨oo, ho, _⟩ := id pp
    exact ⟨its, rv, pp, Heap.lt_size ho⟩
theorem sq2_inj {c : Bool} {a : Addr} {xs ys : List V} (I : Inv X pins σ H s) (q : Sq2 X.K c H a xs) (q' : Sq2 X.K c H a ys) : xs = ys := by
  cases c with
  | true => exact I.list_inj q q'
  | false => exact I.tuple_inj q q'
end
def ItzB (K : PySem.W.Frag) (c1 c2 : Bool) (a b : Addr) : It :=
  ⟨fun i H => ∃ (xs ys : List V) (x y : V), Sq2 K c1 H a xs ∧ Sq2 K c2 H b ys ∧ xs[i]? = some x ∧ ys[i]? = some y,
    fun i H v H' => ∃ T x y, v = .ref T ∧ H T = none ∧ H' = upd H T (.tup [x, y]) ∧ (∀ xs, Sq2 K c1 H a xs → xs[i]? = some x) ∧ ∀ ys, Sq2 K c2 H b ys → ys[i]? = some y,
    fun i H => ∃ xs ys : List V, Sq2 K c1 H a xs ∧ Sq2 K c2 H b ys ∧ i ≤ xs.length ∧ i ≤ ys.length ∧ (xs.length = i ∨ ys.length = i)⟩
theorem turn_zipB {P : Program} {w : World} {K : PySem.W.Frag} {elts : List Expr} {kk : Nat} {tpos : Pos} {c1 c2 : Bool} {a b z TI TO i1 i2 : Addr} (S : ZipSep2 z TI TO i1 i2 [i1, a] [i2, b]) (na : a ≠ i1) (nb : b ≠ i2) :
    Turn P w K (.Tuple elts kk tpos) (ItzB K c1 c2 a b) [z, TI, TO, i1, i2] z (fun i h => IsZip h z TI TO .none ∧ IsTupOf2 h TI (.ref i1) (.ref i2) ∧ (∃ x y, IsTupOf2 h TO x y) ∧ IterB c1 h i1 a i ∧ IterB c2 h i2 b i) where
  mem := List.mem_cons_self
  obj := fun i h st c hc => by
    obtain ⟨hz, hTI, ⟨x, y, hTO⟩, k1, k2⟩ := st
    rcases (show c = z ∨ c = TI ∨ c = TO ∨ c = i1 ∨ c = i2 by simpa using hc) with rfl | rfl | rfl | rfl | rfl
    · exact ⟨_, hz, fun v q => by cases q⟩
    · exact ⟨_, hTI, fun v q => by cases q⟩
    · exact ⟨_, hTO, fun v q => by cases q⟩
    · exact k1.obj
    · exact k2.obj
  keep := fun i h h' st k => by
    obtain ⟨hz, hTI, ⟨x, y, hTO⟩, k1, k2⟩ := st
    refine ⟨k z (by simp) _ hz, k TI (by simp) _ hTI, ⟨x, y, k TO (by simp) _ hTO⟩, ?_, ?_⟩
    · exact k1.at (k i1 (by simp))
    · exact k2.at (k i2 (by simp))
  item := by
    intro X eP ew eK cal i pins s σ H E I hf st hg
    subst eP ew eK
    obtain ⟨hz, hTI, ⟨x0, y0, hTO⟩, k1, k2⟩ := st
    obtain ⟨xs, ys, x, y, qa, qb, gx, gy⟩ := hg
    obtain ⟨va, ra, pa, _⟩ := sq2_is I qa
    obtain ⟨vb, rb, pb, _⟩ := sq2_is I qb
    obtain ⟨u, hu, ru⟩ := ra.get gx
    obtain ⟨t, ht, rt⟩ := rb.get gy
    have hh : X.A.in1.handled = none := I.ok.hd cal
    have zl : z < s.heap.objs.size := Heap.lt_size hz
    have li : i < va.toArray.size := by simpa using (List.getElem?_eq_some_iff.mp hu).1
    have lj : i < vb.toArray.size := by simpa using (List.getElem?_eq_some_iff.mp ht).1
    refine wpAny_pyNext_zipD2_item S (drawsB hh c1 i1 a na va.toArray) (drawsB hh c2 i2 b nb vb.toArray) hz hTI hTO ⟨k1, pa⟩ ⟨k2, pb⟩ li lj fun x1 x2 h1 tk p1 p2 z1 TO1 st1 st2 hT hsz hk => ?_
    obtain rfl : u = x1 := by simpa [hu] using p1
    obtain rfl : t = x2 := by simpa [ht] using p2
    refine ⟨_, rfl, wpAny_letOwnedTupleGo_zip (s := { s with heap := h1, toks := tk }) z1 fun h2 z2 sb => ?_⟩
    have hT2 : h2.get? s.heap.objs.size = some { cls := .type "tuple", data := .seq #[u, t] } := (sb.2 _ (Nat.ne_of_gt zl)).trans hT
    have ok : ObjOk X.prog X.w (upd H s.heap.objs.size (.tup [x, y])) h2 s.heap.objs.size (.tup [x, y]) := ⟨by show 2 ≤ sizeLine; decide, [u, t], .cons ru (.cons rt .nil), ⟨_, hT2, rfl, _, rfl⟩⟩
    have I2 : Inv X pins σ (upd H s.heap.objs.size (.tup [x, y])) { s with heap := h2, toks := tk } := by
      refine I.turnedNew (ch := [z, TI, TO, i1, i2]) (fun c o hc q => ?_) hf (Nat.le_refl _) ok
      simp only [List.mem_cons, List.not_mem_nil, or_false, not_or] at hc
      exact (sb.2 c hc.1).trans (hk c o hc.1 hc.2.2.1 hc.2.2.2.1 hc.2.2.2.2 q)
    refine ⟨.ref s.heap.objs.size, _, I2, rfl, ⟨_, x, y, rfl, I.hok.fresh (Nat.le_refl _), rfl, fun l hl => ?_, fun l hl => ?_⟩, ⟨z2, ?_, ⟨u, t, ?_⟩, ?_, ?_⟩, fun c hc => ?_⟩
    · rw [sq2_inj I hl qa]
      exact gx
    · rw [sq2_inj I hl qb]
      exact gy
    · exact (sb.2 _ S.TIz).trans (hk _ _ S.TIz S.TITO S.TIi1 S.TIi2 hTI)
    · exact (sb.2 _ S.TOz).trans TO1
    · exact st1.1.at fun o q => (sb.2 _ S.zi1.symm).trans q
    · exact st2.1.at fun o q => (sb.2 _ S.zi2.symm).trans q
    · have hlt : c < s.heap.objs.size := by
        obtain ⟨o1, e1, _⟩ := k1.obj
        obtain ⟨o2, e2, _⟩ := k2.obj
        rcases (show c = z ∨ c = TI ∨ c = TO ∨ c = i1 ∨ c = i2 by simpa using hc) with rfl | rfl | rfl | rfl | rfl
        · exact zl
        · exact Heap.lt_size hTI
        · exact Heap.lt_size hTO
        · exact Heap.lt_size e1
        · exact Heap.lt_size e2
      rw [upd_ne (Nat.ne_of_lt hlt)]
      exact (hf c hc).1
  done := by
    intro X eP ew eK cal i pins s σ H E I hf st hg
    subst eP ew eK
    obtain ⟨hz, hTI, ⟨x0, y0, hTO⟩, k1, k2⟩ := st
    obtain ⟨xs, ys, qa, qb, l1, l2, hend⟩ := hg
    obtain ⟨va, ra, pa, _⟩ := sq2_is I qa
    obtain ⟨vb, rb, pb, _⟩ := sq2_is I qb
    have hh : X.A.in1.handled = none := I.ok.hd cal
    have la := ra.length
    have lb := rb.length
    refine wpAny_pyNext_zipD2_end S (drawsB hh c1 i1 a na va.toArray) (drawsB hh c2 i2 b nb vb.toArray) hz hTI hTO ⟨k1, pa⟩ ⟨k2, pb⟩ (by simp; omega) (by simp; omega) (by simp; omega) fun h1 tk hk => ⟨rfl, ?_⟩
    refine I.turnedL (ch := [z, TI, TO, i1, i2]) (fun c o hc q => ?_) hf
    simp only [List.mem_cons, List.not_mem_nil, or_false, not_or] at hc
    exact hk c o hc.1 hc.2.2.1 hc.2.2.2.1 hc.2.2.2.2 q
  self := fun A i s Q E st q => wpAny_pyIter_zip st.1 q
theorem begB (c : Bool) (l : Addr) (its : Array Value) : ∃ o, Begins (.ref l) o (fun h => IsB c h l its) ∧ ∀ h it, h.get? it = some o → IterB c h it l 0 := by
  cases c with
  | true => exact ⟨_, begins_list l its, fun h it e => ⟨_, e, rfl, rfl⟩⟩
  | false => exact ⟨_, begins_tuple l its, fun h it e => ⟨_, e, rfl, rfl⟩⟩
theorem sep_new {m a b : Nat} (la : a < m) (lb : b < m) : ZipSep2 (m + 4) (m + 2) (m + 3) m (m + 1) [m, a] [m + 1, b] := by
  constructor <;> simp <;> (try constructor) <;> (try (first | (refine Nat.ne_of_gt ?_; omega) | (refine Nat.ne_of_lt ?_; omega)))
def iZipB (K : PySem.W.Frag) (c1 c2 : Bool) (ta : TA) : TI := fun σ H R => ta σ H fun vs H1 => ∃ a b xs ys, vs = [.ref a, .ref b] ∧ Sq2 K c1 H1 a xs ∧ Sq2 K c2 H1 b ys ∧ R (ItzB K c1 c2 a b) H1
theorem pi_zipB (c1 c2 : Bool) {X : Cx} {e e2 : Expr} {ta : TA} {p pos tpos : Pos} {elts : List Expr} {kk : Nat} (hg : Gl X "zip") (hm : X.mg "zip" = none) (ha : PA X [e, e2] ta)
    (hs : starEach [e, e2] X.env = (false, eval e X.env) :: starEach [e2] X.env := by rfl) (hp : (backTo pos (starEach [e2] X.env)).any (·.1) = false := by rfl) : PI X (.Tuple elts kk tpos) (.Call (.Name "zip" p) [e, e2] [] pos) (iZipB X.K c1 c2 ta) := by
  refine ⟨fun pins s σ H R I h => Call_ (ld_blt I hg hm PyProof.Rows.boot_zip (PyProof.Rows.callWith_type1 (thn (ha.run pos pins s σ H _ I h) fun us s1 ⟨vs, H1, I1, r1, q1⟩ => ?_) hs hp))⟩
  obtain ⟨a, b, xs, ys, ex, qa, qb, q⟩ := q1
  subst ex
  obtain ⟨va, ra, pa, la⟩ := sq2_is I1 qa
  obtain ⟨vb, rb, pb, lb⟩ := sq2_is I1 qb
  obtain ⟨o1, B1, it1⟩ := begB c1 a va.toArray
  obtain ⟨o2, B2, it2⟩ := begB c2 b vb.toArray
  cases r1 with
  | cons r rr =>
    cases rr with
    | cons r' rr =>
      cases rr
      cases r
      cases r'
      refine zip_begins2 B1 B2 pa pb fun h1 hz hTI hTO g1 g2 hsz hk => wpAny_pyIter_zip hz ?_
      have I2 : Inv X pins σ H1 { s1 with heap := h1 } := I1.kept (t' := s1.toks) hk
      have S := sep_new la lb
      refine ⟨s1.heap.objs.size + 4, [s1.heap.objs.size + 4, s1.heap.objs.size + 2, s1.heap.objs.size + 3, s1.heap.objs.size, s1.heap.objs.size + 1], _, _, H1, rfl, I2, turn_zipB S (Nat.ne_of_lt la) (Nat.ne_of_lt (Nat.lt_succ_of_lt lb)), ⟨hz, hTI, ⟨_, _, hTO⟩, it1 _ _ g1, it2 _ _ g2⟩, fun c hc => ?_, q⟩
      have hle : s1.heap.objs.size ≤ c := by
        simp only [List.mem_cons, List.not_mem_nil, or_false] at hc
        rcases hc with rfl | rfl | rfl | rfl | rfl
        · exact Nat.le_add_right _ 4
        · exact Nat.le_add_right _ 2
        · exact Nat.le_add_right _ 3
        · exact Nat.le_refl _
        · exact Nat.le_add_right _ 1
      exact I1.fpOk hle (I1.hok.fresh hle)
theorem walk_zipB {K : PySem.W.Frag} {c1 c2 : Bool} {a b : Addr} {xs ys : List V} {n : Nat} (hx : xs.length = n) (hy : ys.length = n) : Walk (ItzB K c1 c2 a b) n (fun H => Sq2 K c1 H a xs ∧ Sq2 K c2 H b ys) (YPair (fun i => xs[i]?) (fun i => ys[i]?)) := by
  refine ⟨fun i H hi q => ⟨xs, ys, xs[i], ys[i], q.1, q.2, ?_, ?_⟩, fun H q => ⟨xs, ys, q.1, q.2, by omega, by omega, .inl hx⟩, fun i H v H' _ q y => ?_⟩
  · exact List.getElem?_eq_getElem (by omega)
  · exact List.getElem?_eq_getElem (by omega)
  · obtain ⟨T, x, z, t1, t2, t3, t4, t5⟩ := y
    exact ⟨T, x, z, t1, t2, t3, t4 xs q.1, t5 ys q.2⟩
end Deed

namespace Deed
open PySem PySem.Spec PyProof.Rows L2
/-! ### zip of three -/
def ItzB3 (K : PySem.W.Frag) (c1 c2 c3 : Bool) (a b d : Addr) : It :=
  ⟨fun i H => ∃ (xs ys ws : List V) (x y u : V), Sq2 K c1 H a xs ∧ Sq2 K c2 H b ys ∧ Sq2 K c3 H d ws ∧ xs[i]? = some x ∧ ys[i]? = some y ∧ ws[i]? = some u,
    fun i H v H' => ∃ T x y u, v = .ref T ∧ H T = none ∧ H' = upd H T (.tup [x, y, u]) ∧ (∀ xs, Sq2 K c1 H a xs → xs[i]? = some x) ∧ (∀ ys, Sq2 K c2 H b ys → ys[i]? = some y) ∧ ∀ ws, Sq2 K c3 H d ws → ws[i]? = some u,
    fun i H => ∃ xs ys ws : List V, Sq2 K c1 H a xs ∧ Sq2 K c2 H b ys ∧ Sq2 K c3 H d ws ∧ i ≤ xs.length ∧ i ≤ ys.length ∧ i ≤ ws.length ∧ (xs.length = i ∨ ys.length = i ∨ ws.length = i)⟩
theorem turn_zipB3 {P : Program} {w : World} {K : PySem.W.Frag} {elts : List Expr} {kk : Nat} {tpos : Pos} {c1 c2 c3 : Bool} {a b d z TI TO i1 i2 i3 : Addr} (S : ZipSep3 z TI TO i1 i2 i3 [i1, a] [i2, b] [i3, d]) (na : a ≠ i1) (nb : b ≠ i2) (nc : d ≠ i3) :
    Turn P w K (.Tuple elts kk tpos) (ItzB3 K c1 c2 c3 a b d) [z, TI, TO, i1, i2, i3] z (fun i h => IsZip h z TI TO .none ∧ IsTupOf3 h TI (.ref i1) (.ref i2) (.ref i3) ∧ (∃ x y u, IsTupOf3 h TO x y u) ∧ IterB c1 h i1 a i ∧ IterB c2 h i2 b i ∧ IterB c3 h i3 d i) where
  mem := List.mem_cons_self
  obj := fun i h st c hc => by
    obtain ⟨hz, hTI, ⟨x, y, u, hTO⟩, k1, k2, k3⟩ := st
    rcases (show c = z ∨ c = TI ∨ c = TO ∨ c = i1 ∨ c = i2 ∨ c = i3 by simpa using hc) with rfl | rfl | rfl | rfl | rfl | rfl
    · exact ⟨_, hz, fun v q => by cases q⟩
    · exact ⟨_, hTI, fun v q => by cases q⟩
    · exact ⟨_, hTO, fun v q => by cases q⟩
    · exact k1.obj
    · exact k2.obj
    · exact k3.obj
  keep := fun i h h' st k => by
    obtain ⟨hz, hTI, ⟨x, y, u, hTO⟩, k1, k2, k3⟩ := st
    refine ⟨k z (by simp) _ hz, k TI (by simp) _ hTI, ⟨x, y, u, k TO (by simp) _ hTO⟩, ?_, ?_, ?_⟩
    · exact k1.at (k i1 (by simp))
    · exact k2.at (k i2 (by simp))
    · exact k3.at (k i3 (by simp))
  item := by
    intro X eP ew eK cal i pins s σ H E I hf st hg
    subst eP ew eK
    obtain ⟨hz, hTI, ⟨x0, y0, u0, hTO⟩, k1, k2, k3⟩ := st
    obtain ⟨xs, ys, ws, x, y, q, qa, qb, qc, gx, gy, gq⟩ := hg
    obtain ⟨va, ra, pa, _⟩ := sq2_is I qa
    obtain ⟨vb, rb, pb, _⟩ := sq2_is I qb
    obtain ⟨vc, rc, pc, _⟩ := sq2_is I qc
    obtain ⟨u, hu, ru⟩ := ra.get gx
    obtain ⟨t, ht, rt⟩ := rb.get gy
    obtain ⟨r, hr, rr⟩ := rc.get gq
    have hh : X.A.in1.handled = none := I.ok.hd cal
    have zl : z < s.heap.objs.size := Heap.lt_size hz
    have li : i < va.toArray.size := by simpa using (List.getElem?_eq_some_iff.mp hu).1
    have lj : i < vb.toArray.size := by simpa using (List.getElem?_eq_some_iff.mp ht).1
    have lk : i < vc.toArray.size := by simpa using (List.getElem?_eq_some_iff.mp hr).1
    refine wpAny_pyNext_zipD3_item S (drawsB hh c1 i1 a na va.toArray) (drawsB hh c2 i2 b nb vb.toArray) (drawsB hh c3 i3 d nc vc.toArray) hz hTI hTO ⟨k1, pa⟩ ⟨k2, pb⟩ ⟨k3, pc⟩ li lj lk fun x1 x2 x3 h1 tk p1 p2 p3 z1 TO1 st1 st2 st3 hT hsz hk => ?_
    obtain rfl : u = x1 := by simpa [hu] using p1
    obtain rfl : t = x2 := by simpa [ht] using p2
    obtain rfl : r = x3 := by simpa [hr] using p3
    refine ⟨_, rfl, wpAny_letOwnedTupleGo_zip (s := { s with heap := h1, toks := tk }) z1 fun h2 z2 sb => ?_⟩
    have hT2 : h2.get? s.heap.objs.size = some { cls := .type "tuple", data := .seq #[u, t, r] } := (sb.2 _ (Nat.ne_of_gt zl)).trans hT
    have ok : ObjOk X.prog X.w (upd H s.heap.objs.size (.tup [x, y, q])) h2 s.heap.objs.size (.tup [x, y, q]) := ⟨by show 3 ≤ sizeLine; decide, [u, t, r], .cons ru (.cons rt (.cons rr .nil)), ⟨_, hT2, rfl, _, rfl⟩⟩
    have I2 : Inv X pins σ (upd H s.heap.objs.size (.tup [x, y, q])) { s with heap := h2, toks := tk } := by
      refine I.turnedNew (ch := [z, TI, TO, i1, i2, i3]) (fun c o hc q => ?_) hf (Nat.le_refl _) ok
      simp only [List.mem_cons, List.not_mem_nil, or_false, not_or] at hc
      exact (sb.2 c hc.1).trans (hk c o hc.1 hc.2.2.1 hc.2.2.2.1 hc.2.2.2.2.1 hc.2.2.2.2.2 q)
    refine ⟨.ref s.heap.objs.size, _, I2, rfl, ⟨_, x, y, q, rfl, I.hok.fresh (Nat.le_refl _), rfl, fun l hl => ?_, fun l hl => ?_, fun l hl => ?_⟩, ⟨z2, ?_, ⟨u, t, r, ?_⟩, ?_, ?_, ?_⟩, fun c hc => ?_⟩
    · rw [sq2_inj I hl qa]
      exact gx
    · rw [sq2_inj I hl qb]
      exact gy
    · rw [sq2_inj I hl qc]
      exact gq
    · exact (sb.2 _ S.TIz).trans (hk _ _ S.TIz S.TITO S.TIi1 S.TIi2 S.TIi3 hTI)
    · exact (sb.2 _ S.TOz).trans TO1
    · exact st1.1.at fun o q => (sb.2 _ S.zi1.symm).trans q
    · exact st2.1.at fun o q => (sb.2 _ S.zi2.symm).trans q
    · exact st3.1.at fun o q => (sb.2 _ S.zi3.symm).trans q
    · have hlt : c < s.heap.objs.size := by
        obtain ⟨o1, e1, _⟩ := k1.obj
        obtain ⟨o2, e2, _⟩ := k2.obj
        obtain ⟨o3, e3, _⟩ := k3.obj
        rcases (show c = z ∨ c = TI ∨ c = TO ∨ c = i1 ∨ c = i2 ∨ c = i3 by simpa using hc) with rfl | rfl | rfl | rfl | rfl | rfl
        · exact zl
        · exact Heap.lt_size hTI
        · exact Heap.lt_size hTO
        · exact Heap.lt_size e1
        · exact Heap.lt_size e2
        · exact Heap.lt_size e3
      rw [upd_ne (Nat.ne_of_lt hlt)]
      exact (hf c hc).1
  done := by
    intro X eP ew eK cal i pins s σ H E I hf st hg
    subst eP ew eK
    obtain ⟨hz, hTI, ⟨x0, y0, u0, hTO⟩, k1, k2, k3⟩ := st
    obtain ⟨xs, ys, ws, qa, qb, qc, l1, l2, l3, hend⟩ := hg
    obtain ⟨va, ra, pa, _⟩ := sq2_is I qa
    obtain ⟨vb, rb, pb, _⟩ := sq2_is I qb
    obtain ⟨vc, rc, pc, _⟩ := sq2_is I qc
    have hh : X.A.in1.handled = none := I.ok.hd cal
    have la := ra.length
    have lb := rb.length
    have lc := rc.length
    refine wpAny_pyNext_zipD3_end S (drawsB hh c1 i1 a na va.toArray) (drawsB hh c2 i2 b nb vb.toArray) (drawsB hh c3 i3 d nc vc.toArray) hz hTI hTO ⟨k1, pa⟩ ⟨k2, pb⟩ ⟨k3, pc⟩ (by simp; omega) (by simp; omega) (by simp; omega) (by simp; omega) fun h1 tk hk => ⟨rfl, ?_⟩
    refine I.turnedL (ch := [z, TI, TO, i1, i2, i3]) (fun c o hc q => ?_) hf
    simp only [List.mem_cons, List.not_mem_nil, or_false, not_or] at hc
    exact hk c o hc.1 hc.2.2.1 hc.2.2.2.1 hc.2.2.2.2.1 hc.2.2.2.2.2 q
  self := fun A i s Q E st q => wpAny_pyIter_zip st.1 q
theorem sep_new3 {m a b d : Nat} (la : a < m) (lb : b < m) (ld : d < m) : ZipSep3 (m + 5) (m + 3) (m + 4) m (m + 1) (m + 2) [m, a] [m + 1, b] [m + 2, d] := by
  constructor <;> simp <;> (try constructor) <;> (try (first | (refine Nat.ne_of_gt ?_; omega) | (refine Nat.ne_of_lt ?_; omega)))
def iZipB3 (K : PySem.W.Frag) (c1 c2 c3 : Bool) (ta : TA) : TI := fun σ H R => ta σ H fun vs H1 => ∃ a b d xs ys ws, vs = [.ref a, .ref b, .ref d] ∧ Sq2 K c1 H1 a xs ∧ Sq2 K c2 H1 b ys ∧ Sq2 K c3 H1 d ws ∧ R (ItzB3 K c1 c2 c3 a b d) H1
theorem pi_zipB3 (c1 c2 c3 : Bool) {X : Cx} {e e2 e3 : Expr} {ta : TA} {p pos tpos : Pos} {elts : List Expr} {kk : Nat} (hg : Gl X "zip") (hm : X.mg "zip" = none) (ha : PA X [e, e2, e3] ta)
    (hs : starEach [e, e2, e3] X.env = (false, eval e X.env) :: starEach [e2, e3] X.env := by rfl) (hp : (backTo pos (starEach [e2, e3] X.env)).any (·.1) = false := by rfl) : PI X (.Tuple elts kk tpos) (.Call (.Name "zip" p) [e, e2, e3] [] pos) (iZipB3 X.K c1 c2 c3 ta) := by
  refine ⟨fun pins s σ H R I h => Call_ (ld_blt I hg hm PyProof.Rows.boot_zip (PyProof.Rows.callWith_type1 (thn (ha.run pos pins s σ H _ I h) fun us s1 ⟨vs, H1, I1, r1, q1⟩ => ?_) hs hp))⟩
  obtain ⟨a, b, d, xs, ys, ws, ex, qa, qb, qc, q⟩ := q1
  subst ex
  obtain ⟨va, ra, pa, la⟩ := sq2_is I1 qa
  obtain ⟨vb, rb, pb, lb⟩ := sq2_is I1 qb
  obtain ⟨vc, rc, pc, lc⟩ := sq2_is I1 qc
  obtain ⟨o1, B1, it1⟩ := begB c1 a va.toArray
  obtain ⟨o2, B2, it2⟩ := begB c2 b vb.toArray
  obtain ⟨o3, B3, it3⟩ := begB c3 d vc.toArray
  cases r1 with
  | cons r rr =>
    cases rr with
    | cons r' rr =>
      cases rr with
      | cons r'' rr =>
        cases rr
        cases r
        cases r'
        cases r''
        refine zip_begins3 B1 B2 B3 pa pb pc fun h1 hz hTI hTO g1 g2 g3 hsz hk => wpAny_pyIter_zip hz ?_
        have I2 : Inv X pins σ H1 { s1 with heap := h1 } := I1.kept (t' := s1.toks) hk
        have S := sep_new3 la lb lc
        refine ⟨s1.heap.objs.size + 5, [s1.heap.objs.size + 5, s1.heap.objs.size + 3, s1.heap.objs.size + 4, s1.heap.objs.size, s1.heap.objs.size + 1, s1.heap.objs.size + 2], _, _, H1, rfl, I2, turn_zipB3 S (Nat.ne_of_lt la) (Nat.ne_of_lt (Nat.lt_succ_of_lt lb)) (Nat.ne_of_lt (Nat.lt_succ_of_lt (Nat.lt_succ_of_lt lc))), ⟨hz, hTI, ⟨_, _, _, hTO⟩, it1 _ _ g1, it2 _ _ g2, it3 _ _ g3⟩, fun c hc => ?_, q⟩
        have hle : s1.heap.objs.size ≤ c := by
          simp only [List.mem_cons, List.not_mem_nil, or_false] at hc
          rcases hc with rfl | rfl | rfl | rfl | rfl | rfl
          · exact Nat.le_add_right _ 5
          · exact Nat.le_add_right _ 3
          · exact Nat.le_add_right _ 4
          · exact Nat.le_refl _
          · exact Nat.le_add_right _ 1
          · exact Nat.le_add_right _ 2
        exact I1.fpOk hle (I1.hok.fresh hle)
/-- what the i-th triple is -/
def YTrip (f g h : Nat → Option V) (i : Nat) (H : Hp) (v : V) (H' : Hp) : Prop := ∃ T x y u, v = .ref T ∧ H T = none ∧ H' = upd H T (.tup [x, y, u]) ∧ f i = some x ∧ g i = some y ∧ h i = some u
theorem walk_zipB3 {K : PySem.W.Frag} {c1 c2 c3 : Bool} {a b d : Addr} {xs ys ws : List V} {n : Nat} (hx : xs.length = n) (hy : ys.length = n) (hw : ws.length = n) : Walk (ItzB3 K c1 c2 c3 a b d) n (fun H => Sq2 K c1 H a xs ∧ Sq2 K c2 H b ys ∧ Sq2 K c3 H d ws) (YTrip (fun i => xs[i]?) (fun i => ys[i]?) (fun i => ws[i]?)) := by
  refine ⟨fun i H hi q => ⟨xs, ys, ws, xs[i], ys[i], ws[i], q.1, q.2.1, q.2.2, ?_, ?_, ?_⟩, fun H q => ⟨xs, ys, ws, q.1, q.2.1, q.2.2, by omega, by omega, by omega, .inl hx⟩, fun i H v H' _ q y => ?_⟩
  · exact List.getElem?_eq_getElem (by omega)
  · exact List.getElem?_eq_getElem (by omega)
  · exact List.getElem?_eq_getElem (by omega)
  · obtain ⟨T, x, z, u, t1, t2, t3, t4, t5, t6⟩ := y
    exact ⟨T, x, z, u, t1, t2, t3, t4 xs q.1, t5 ys q.2.1, t6 ws q.2.2⟩
end Deed

namespace Deed
open PySem PySem.Spec PyProof.Rows L2 LamX
/-! tuples put together and cut, whatever they are: what follows is shown once -/
theorem catA_same {K : PySem.W.Frag} {H : Hp} {a b : Addr} {xs ys : List V} {Q : VK} (ha : H a = some (.tup xs)) (hb : H b = some (.tup ys)) (hl : xs.length + ys.length ≤ 1000) (q : ∀ t H', Same H H' → H' t = some (.tup (xs ++ ys)) → Q (.ref t) H') : rCatA K (.ref a) (.ref b) H Q := by
  refine ⟨a, b, xs, ys, rfl, rfl, SqT.of ha, SqT.of hb, Nat.le_of_lt (small1000 hl), fun e => ?_, fun _ e => ?_, fun _ _ p np => q p _ (same_new np _) upd_same⟩
  · subst e
    exact q b H (same_refl _) hb
  · subst e
    exact q a H (same_refl _) (by rw [List.append_nil]; exact ha)
theorem slA_same {K : PySem.W.Frag} {H : Hp} {a : Addr} {xs : List V} {lo hi : Option Int} {Q : VK} (ha : H a = some (.tup xs)) (q : ∀ t H', Same H H' → H' t = some (.tup (cutV xs lo hi)) → Q (.ref t) H') : rSlA K (.ref a) lo hi H Q := by
  refine ⟨a, xs, rfl, SqT.of ha, fun e => ?_, fun _ p np => q p _ (same_new np _) upd_same⟩
  refine q a H (same_refl _) ?_
  rw [ha]
  unfold cutV
  rw [e.1, e.2, List.drop_zero, Nat.sub_zero, List.take_length]
end Deed

namespace Deed
open PySem PySem.Spec PyProof.Rows L2 LamX
/-! entries as data -/
def entD (e : En) : PyData := match e.kd with
  | .deed g t rs ws => .tuple [.int e.num, .int e.day, .int e.wri, .int e.hand, .str "deed", .int g, .int t, .tuple (rs.map PyData.int), .tuple (ws.map PyData.int)]
  | .act x o => .tuple [.int e.num, .int e.day, .int e.wri, .int e.hand, .str x, .int o]
theorem EntAt.dp {K : PySem.W.Frag} {H : Hp} {a : Addr} {e : En} (h : EntAt H a e) : Dp K H (.ref a) (entD e) := by
  unfold EntAt at h
  unfold entD
  cases hk : e.kd with
  | deed g t rs ws =>
    rw [hk] at h
    obtain ⟨r, w, h1, h2, h3⟩ := h
    exact .tup (SqT.of h1) (.cons (.int _) (.cons (.int _) (.cons (.int _) (.cons (.int _) (.cons (.str _) (.cons (.int _) (.cons (.int _) (.cons (.tup (SqT.of h2) (dp_ints rs)) (.cons (.tup (SqT.of h3) (dp_ints ws)) .nil)))))))))
  | act x o =>
    rw [hk] at h
    exact .tup (SqT.of h) (.cons (.int _) (.cons (.int _) (.cons (.int _) (.cons (.int _) (.cons (.str _) (.cons (.int _) .nil))))))
theorem dp_ents {K : PySem.W.Frag} {H : Hp} : ∀ zs : List (Addr × En), (∀ z ∈ zs, EntAt H z.1 z.2) → DpAll K H (refs zs) ((ens zs).map entD)
  | [], _ => .nil
  | z :: r, h => .cons (h z List.mem_cons_self).dp (dp_ents r fun x hx => h x (List.mem_cons_of_mem _ hx))
theorem EnOk.lay {n : Nat} {ds as : List Int} {e : En} (h : EnOk n ds as e) : PyData.canLay0 (entD e) = true := by
  unfold entD
  cases hk : e.kd with
  | deed g t rs ws =>
    have h1 := lay_ints rs
    have h2 := lay_ints ws
    simp only [PyData.canLay0, PyData.canLayAll0, h1, h2, Bool.and_true, Bool.true_and]
    decide +kernel
  | act x o =>
    have h4 := h.2.2.2
    rw [hk] at h4
    have hx : PyData.strOk x = true := by rcases h4.1 with ⟨z, _⟩ | ⟨z | z, _⟩ <;> rw [z] <;> decide +kernel
    simp [PyData.canLay0, PyData.canLayAll0, hx]
theorem lay_ents {n : Nat} {ds as : List Int} : ∀ es : List En, (∀ e ∈ es, EnOk n ds as e) → PyData.canLayAll0 (es.map entD) = true
  | [], _ => by simp [PyData.canLayAll0]
  | e :: r, h => by
    simp [PyData.canLayAll0, (h e List.mem_cons_self).lay, lay_ents r fun x hx => h x (List.mem_cons_of_mem _ hx)]
theorem depth_ent (e : En) : PyData.depth (entD e) ≤ 4 := by
  unfold entD
  cases e.kd with
  | deed g t rs ws =>
    have h1 := depth_ints rs
    have h2 := depth_ints ws
    simp only [PyData.depth, PyData.depthAll]
    omega
  | act x o =>
    simp only [PyData.depth, PyData.depthAll]
    omega
theorem depth_ents : ∀ es : List En, PyData.depthAll (es.map entD) ≤ 5
  | [] => by simp [PyData.depthAll]
  | e :: r => by
    have h1 := depth_ent e
    have h2 := depth_ents r
    simp only [List.map_cons, PyData.depthAll]
    omega
theorem shaped_entsT {n : Nat} {ds as : List Int} (es : List En) (h : ∀ e ∈ es, EnOk n ds as e) : SeqAt.shaped (.tuple (es.map entD)) = true := by
  have h1 := depth_ents es
  have h2 : PyData.depth (.tuple (es.map entD)) ≤ 64 := by
    simp only [PyData.depth]
    omega
  show (PyData.canLay0 (.tuple (es.map entD)) && decide (PyData.depth (.tuple (es.map entD)) ≤ 64)) = true
  rw [Bool.and_eq_true]
  exact ⟨by simp only [PyData.canLay0]; exact lay_ents es h, decide_eq_true h2⟩
theorem shaped_entsL {n : Nat} {ds as : List Int} (es : List En) (h : ∀ e ∈ es, EnOk n ds as e) : SeqAt.shaped (.list (es.map entD)) = true := by
  have h1 := depth_ents es
  have h2 : PyData.depth (.list (es.map entD)) ≤ 64 := by
    simp only [PyData.depth]
    omega
  show (PyData.canLay0 (.list (es.map entD)) && decide (PyData.depth (.list (es.map entD)) ≤ 64)) = true
  rw [Bool.and_eq_true]
  exact ⟨by simp only [PyData.canLay0]; exact lay_ents es h, decide_eq_true h2⟩
theorem eqvT_nil (l : List PyData) : PyData.eqv (.tuple l) (.tuple []) = decide (l = []) := by
  cases l <;> simp [PyData.eqv, PyData.eqvAll]
theorem eqvL_nil (l : List PyData) : PyData.eqv (.list l) (.list []) = decide (l = []) := by
  cases l <;> simp [PyData.eqv, PyData.eqvAll]
/-! cuts -/
theorem cut_to (xs : List V) (k : Nat) : cutV xs none (some (k : Int)) = xs.take k := by
  unfold cutV
  rw [HT.sIx_none, HT.sIx_nat, List.drop_zero, Nat.sub_zero, List.take_eq_take_iff]
  omega
theorem cut_from (xs : List V) (k : Nat) : cutV xs (some (k : Int)) none = xs.drop k := by
  unfold cutV
  rw [HT.sIx_none, HT.sIx_nat]
  rw [List.take_of_length_le (by rw [List.length_drop]; omega)]
  rcases Nat.le_total k xs.length with h | h
  · rw [Nat.min_eq_left h]
  · rw [Nat.min_eq_right h, List.drop_length, List.drop_eq_nil_of_le h]
/-! a book with one entry otherwise, and with one gone -/
theorem dn_swap {A B : List En} {e e' : En} (hn : e'.num = e.num) (hd : e'.isDeed = e.isDeed) : dn (A ++ e' :: B) = dn (A ++ e :: B) := by
  unfold dn
  rw [List.filter_append, List.filter_append, List.filter_cons, List.filter_cons, hd]
  cases e.isDeed <;> simp [hn]
theorem an_swap {A B : List En} {e e' : En} (hn : e'.num = e.num) (hd : e'.isDeed = e.isDeed) : an (A ++ e' :: B) = an (A ++ e :: B) := by
  unfold an
  rw [List.filter_append, List.filter_append, List.filter_cons, List.filter_cons, hd]
  cases e.isDeed <;> simp [hn]
theorem BkOk.swap {n : Nat} {A B : List En} {e e' : En} (h : BkOk n (A ++ e :: B)) (hn : e'.num = e.num) (hd : e'.isDeed = e.isDeed) (ho : EnOk n (dn (A ++ e :: B)) (an (A ++ e :: B)) e') : BkOk n (A ++ e' :: B) := by
  refine ⟨?_, fun x hx => ?_, fun x hx => ?_⟩
  · have := h.nd
    rw [List.map_append, List.map_cons] at this ⊢
    rw [hn]
    exact this
  · rcases List.mem_append.mp hx with hx | hx
    · exact h.rng x (List.mem_append.mpr (.inl hx))
    · rcases List.mem_cons.mp hx with rfl | hx
      · rw [hn]
        exact h.rng e (by simp)
      · exact h.rng x (by simp [hx])
  · rw [dn_swap hn hd, an_swap hn hd]
    rcases List.mem_append.mp hx with hx | hx
    · exact h.ok x (List.mem_append.mpr (.inl hx))
    · rcases List.mem_cons.mp hx with rfl | hx
      · exact ho
      · exact h.ok x (by simp [hx])
/-- the numbers that an entry names -/
def En.names (e : En) : List Int := match e.kd with
  | .deed _ _ rs _ => rs
  | .act _ o => [o]
theorem EnOk.names_len {n : Nat} {ds as : List Int} {e : En} (h : EnOk n ds as e) : e.names.length ≤ 2 := by
  unfold En.names
  cases hk : e.kd with
  | deed g t rs ws =>
    have h4 := h.2.2.2
    rw [hk] at h4
    exact h4.2.2.2.1
  | act x o =>
    show 1 ≤ 2
    omega
theorem EnOk.less {n : Nat} {ds as ds' as' : List Int} {e : En} (h : EnOk n ds as e) (h1 : ∀ x ∈ e.names, x ∈ ds → x ∈ ds') (h2 : ∀ x ∈ e.names, x ∈ as → x ∈ as') : EnOk n ds' as' e := by
  unfold EnOk at h ⊢
  obtain ⟨a, b, c, d⟩ := h
  refine ⟨a, b, c, ?_⟩
  unfold En.names at h1 h2
  cases hk : e.kd with
  | deed g t rs ws =>
    rw [hk] at d h1
    obtain ⟨d1, d2, d3, d4, d5, d6, d7⟩ := d
    exact ⟨d1, d2, d3, d4, d5, fun r hr => ⟨h1 r hr (d6 r hr).1, (d6 r hr).2⟩, d7⟩
  | act x o =>
    rw [hk] at d h1 h2
    refine ⟨?_, d.2⟩
    rcases d.1 with ⟨z, ho⟩ | ⟨z, ho⟩
    · exact .inl ⟨z, h2 o (by simp) ho⟩
    · exact .inr ⟨z, h1 o (by simp) ho⟩
theorem BkOk.gone {n : Nat} {A B : List En} {e : En} (h : BkOk n (A ++ e :: B)) (hno : ∀ u ∈ A ++ e :: B, e.num ∉ u.names) : BkOk n (A ++ B) := by
  have sub : (A ++ B).Sublist (A ++ e :: B) := (List.Sublist.refl A).append (List.sublist_cons_self e B)
  have mem : ∀ x ∈ A ++ B, x ∈ A ++ e :: B := fun x hx => sub.subset hx
  have back : ∀ u ∈ A ++ e :: B, u.num ≠ e.num → u ∈ A ++ B := fun u hu hne => by
    rcases List.mem_append.mp hu with hu | hu
    · exact List.mem_append.mpr (.inl hu)
    · rcases List.mem_cons.mp hu with rfl | hu
      · exact absurd rfl hne
      · exact List.mem_append.mpr (.inr hu)
  refine ⟨(sub.map _).nodup h.nd, fun x hx => h.rng x (mem x hx), fun x hx => (h.ok x (mem x hx)).less (fun y hy hd => ?_) (fun y hy hd => ?_)⟩
  · obtain ⟨u, hu, h1, rfl⟩ := mem_dn.mp hd
    exact mem_dn.mpr ⟨u, back u hu (fun q => hno x (mem x hx) (q ▸ hy)), h1, rfl⟩
  · obtain ⟨u, hu, h1, rfl⟩ := mem_an.mp hd
    exact mem_an.mpr ⟨u, back u hu (fun q => hno x (mem x hx) (q ▸ hy)), h1, rfl⟩
/-- an entry by its first four places -/
theorem EntAt.four {H : Hp} {a : Addr} {e : En} (h : EntAt H a e) : ∃ r : List V, r.length ≤ 5 ∧ H a = some (.tup (.int e.num :: .int e.day :: .int e.wri :: .int e.hand :: r)) ∧ ∀ (H' : Hp) (a' : Addr) (d w : Int), KpT H H' → H' a' = some (.tup (.int e.num :: .int d :: .int w :: .int e.hand :: r)) → EntAt H' a' { e with day := d, wri := w } := by
  unfold EntAt at h ⊢
  cases hk : e.kd with
  | deed g t rs ws =>
    rw [hk] at h
    obtain ⟨r, w, h1, h2, h3⟩ := h
    exact ⟨_, by simp, h1, fun H' a' d w' k e' => ⟨r, w, e', k _ _ h2, k _ _ h3⟩⟩
  | act x o =>
    rw [hk] at h
    exact ⟨_, by simp, h, fun H' a' d w' k e' => e'⟩
end Deed

namespace Deed
open PySem PySem.Spec PySem.W PyProof.Rows L2 LamX
/-! ### sorted(xs) of tuples of one kind -/
def rSortedDp {β : Type} (K : PySem.W.Frag) (enc : β → PyData) : List V → Hp → VK → Prop := fun vs H Q => ∃ (a : Addr) (zs : List (V × β)), vs = [V.ref a] ∧ SqL K H a (zs.map (·.1)) ∧ (∀ z ∈ zs, Dp K H z.1 (enc z.2)) ∧ (∀ b b', alike (enc b) (enc b') = true) ∧ (∀ b, ∃ x r, enc b = .tuple (x :: r)) ∧ (∀ b, (enc b).depth ≤ 8) ∧
  ∀ (ys : List (V × β)) (p : Addr), ys.Perm zs → ys.Pairwise (fun u v => dataLt (enc v.2) (enc u.2) = false) → H p = none → Q (.ref p) (upd H p (.lst (ys.map (·.1))))
theorem each_zip {β : Type} : ∀ {zs : List (V × β)} {us : List Value}, Vals (zs.map (·.1)) us → EachIs (fun u (z : V × β) => RelV z.1 u) us zs
  | [], _, h => by
    cases h
    exact .nil
  | z :: r, _, h => by
    cases h with
    | cons h1 h2 => exact .cons h1 (each_zip h2)
theorem zip_each {β : Type} : ∀ {zs : List (V × β)} {us : List Value}, EachIs (fun u (z : V × β) => RelV z.1 u) us zs → Vals (zs.map (·.1)) us
  | _, _, .nil => .nil
  | _, _, .cons h t => .cons h (zip_each t)
theorem each_and {α β : Type} {R S : α → β → Prop} {as : List α} {bs : List β} (h : EachIs R as bs) (hS : ∀ b ∈ bs, ∀ a, R a b → S a b) : EachIs S as bs := by
  induction h with
  | nil => exact .nil
  | cons h1 _ ih => exact .cons (hS _ List.mem_cons_self _ h1) (ih fun b hb a => hS b (List.mem_cons_of_mem _ hb) a)
theorem cr_sortedDp {β : Type} (enc : β → PyData) {X : Cx} (hu : X.A.units + 64 < cLine) : CallR X (.builtin "sorted") (rSortedDp X.K enc) := by
  intro pins s σ H vs us Q I r h
  obtain ⟨a, zs, rfl, hs, hD, hal, hsr, hdp, q⟩ := h
  obtain ⟨its, rv, hl, hz⟩ := I.list hs
  rw [Vals.ref1 r]
  have e := each_zip rv
  have hz' : zs.length ≤ sizeLine := by rw [List.length_map] at hz; exact hz
  refine sorted_data (bs := zs) (R := fun u (z : V × β) => RelV z.1 u) (enc := fun z => enc z.2) hl.isList e (each_and e fun z hzz u hR => Dp.reads I _ _ _ (hD z hzz) hR) (AllAlike.of fun z z' => hal _ _) (Sortable.tuples fun z => hsr _) hz' (fun z _ => ?_) fun out ho eo => ?_
  · have := hdp z.2
    show X.A.units + 2 + _ < _
    omega
  · have hp : (zs.mergeSort (dataLe false fun z => enc z.2)).Perm zs := List.mergeSort_perm _ _
    have hpw : (zs.mergeSort (dataLe false fun z => enc z.2)).Pairwise (fun a b => dataLe false (fun z : V × β => enc z.2) a b = true) := sort_pairwise (sortLe_total _ _ _) zs
    obtain ⟨ep, he'⟩ := PyProof.Rows.sortedAll_at s.heap its out.toArray
    have hlen : ((zs.mergeSort (dataLe false fun z => enc z.2)).map (·.1)).length ≤ sizeLine := by
      rw [List.length_map, hp.length_eq]
      exact hz'
    refine ⟨.ref _, upd H (s.heap.objs.size + 1) (.lst ((zs.mergeSort (dataLe false fun z => enc z.2)).map (·.1))), I.laid (t' := s.toks) (fun _ _ => PyProof.Rows.sortedAll_old) (Nat.le_succ _) ⟨hlen, out, ep, zip_each eo, he'⟩, rfl, q _ _ hp (hpw.imp fun h => ?_) (I.hok.fresh (Nat.le_succ _))⟩
    rw [dataLe_eq] at h
    simpa using h
theorem sort_one {α : Type} {le lt : α → α → Prop} (h : ∀ a b, lt a b → ¬ le b a) : ∀ {l m : List α}, l.Perm m → l.Pairwise le → m.Pairwise lt → l = m
  | [], m, p, _, _ => (List.Perm.eq_nil p.symm).symm
  | x :: l, [], p, _, _ => absurd p.length_eq (by simp)
  | y :: l, x :: m, p, h1, h2 => by
    have a1 := List.pairwise_cons.mp h1
    have a2 := List.pairwise_cons.mp h2
    have e : y = x := by
      rcases List.mem_cons.mp (p.mem_iff.mp List.mem_cons_self) with e | hy
      · exact e
      · rcases List.mem_cons.mp (p.mem_iff.mpr List.mem_cons_self) with e | hx
        · exact e.symm
        · exact absurd (a1.1 x hx) (h x y (a2.1 y hy))
    subst e
    rw [sort_one h p.cons_inv a1.2 a2.2]
theorem dp_all {K : PySem.W.Frag} {H : Hp} {β : Type} {enc : β → PyData} : ∀ (ys : List (V × β)), (∀ y ∈ ys, Dp K H y.1 (enc y.2)) → DpAll K H (ys.map (·.1)) ((ys.map (·.2)).map enc)
  | [], _ => .nil
  | y :: r, h => .cons (h y List.mem_cons_self) (dp_all r fun x hx => h x (List.mem_cons_of_mem _ hx))
end Deed

namespace PySem.SeqAt
open AutoSeq1 (wpAny_loadPart')
open MeetsSeq
/-! ### a dict and a text are never equal -/
theorem dict_eq_declines_str (l : Addr) (es : Array DictEntry) (ep : Nat) (dd : Option Addr) (sl : Array (Option Value)) (b : Str) (u : Tok) :
    Meets (Builtin.«dict.__eq__» ⟨[.ref l, .str b u], []⟩) (fun _ R s => s.heap.get? l = some { cls := .type "dict", dict := dd, data := .dict es ep, slots := sl } ∧ R (.ok (.ret .notImplemented)) s) :=
  .of_wp fun prog w A R s h => by obtain ⟨hp, g, d, tk, os⟩ := s; obtain ⟨hl, h⟩ := h; have f1 := F.sub_str_dict; wp_walk using wpAny_loadPart' hl; exact ⟨_, rfl, h⟩
theorem str_eq_declines_dict (b : Str) (u : Tok) (l : Addr) (c : Value) (es : Array DictEntry) (ep : Nat) (dd : Option Addr) (sl : Array (Option Value)) :
    Meets (Builtin.«str.__eq__» ⟨[.str b u, .ref l], []⟩) (fun _ R s => s.heap.get? l = some { cls := c, dict := dd, data := .dict es ep, slots := sl } ∧ R (.ok (.ret .notImplemented)) s) :=
  .of_wp fun prog w A R s h => by obtain ⟨hp, g, d, tk, os⟩ := s; obtain ⟨hl, h⟩ := h; wp_walk using wpAny_loadPart' hl, wpAny_load hl; exact ⟨_, rfl, h⟩
section
variable {M : Model} {A : Around} {E : Value → Shared → Prop} {s : Shared}
theorem RcAt.dict_str {l : Addr} {o : Obj} {es : Array DictEntry} {ep : Nat} (b : Str) (u : Tok) (ho : s.heap.get? l = some o) (hc : o.cls = .type "dict") (hd : o.data = .dict es ep) (hu : A.units < cLine) : RcAt A s (.ref l) (.str b u) false := fun prog w E Q h => by
  obtain ⟨cls, dd, data, sl⟩ := o
  simp only at hc hd
  subst hc hd
  exact rc_eq_decline_or (k := false) ⟨_, ho, rfl⟩ (typeIs_str s b u) (by decide) F.sub_str_dict F.slot_dict_eq F.slot_str_eq_refl
    (fun _ hq => call_meets F.slot_dict_eq ⟨_, ho, rfl⟩ F.entry_dict_eq (F.args_dict_eq_2 _ _) (dict_eq_declines_str l es ep dd sl b u) ⟨ho, hq⟩)
    (fun _ hq => call_meets F.slot_str_eq_refl (typeIs_str s b u) F.entry_str_eq (F.args_str_eq_2 _ _) (str_eq_declines_dict b u l (.type "dict") es ep dd sl) ⟨ho, hq⟩)
    (fun _ hq => wpAny_of_eq (rfl : isSame (.ref l) (.str b u) = pure false) hq) (.inr hu) h
theorem RcAt.str_dict {l : Addr} {o : Obj} {es : Array DictEntry} {ep : Nat} (b : Str) (u : Tok) (ho : s.heap.get? l = some o) (hc : o.cls = .type "dict") (hd : o.data = .dict es ep) (hu : A.units < cLine) : RcAt A s (.str b u) (.ref l) false := fun prog w E Q h => by
  obtain ⟨cls, dd, data, sl⟩ := o
  simp only at hc hd
  subst hc hd
  exact rc_eq_decline_or (k := false) (typeIs_str s b u) ⟨_, ho, rfl⟩ (by decide) F.sub_dict_str F.slot_str_eq F.slot_dict_eq_refl
    (fun _ hq => call_meets F.slot_str_eq (typeIs_str s b u) F.entry_str_eq (F.args_str_eq_2 _ _) (str_eq_declines_dict b u l (.type "dict") es ep dd sl) ⟨ho, hq⟩)
    (fun _ hq => call_meets F.slot_dict_eq_refl ⟨_, ho, rfl⟩ F.entry_dict_eq (F.args_dict_eq_2 _ _) (dict_eq_declines_str l es ep dd sl b u) ⟨ho, hq⟩)
    (fun _ hq => wpAny_of_eq (rfl : isSame (.str b u) (.ref l) = pure false) hq) (.inr hu) h
theorem EqAt.str_dict {l : Addr} {o : Obj} {es : Array DictEntry} {ep : Nat} (b : Str) (u : Tok) (ho : s.heap.get? l = some o) (hc : o.cls = .type "dict") (hd : o.data = .dict es ep) (hu : A.units < cLine) : EqAt A s (.str b u) (.ref l) false := fun prog w E Q h => by
  unfold eqBool
  refine wpAny_holding ?_
  refine wpAny_ite_split (fun hab => absurd (eq_of_beq hab) nofun) (fun _ => ?_)
  exact wpAny_bind (RcAt.str_dict b u ho hc hd hu prog w E _ (wpAny_truthy_bool h))
theorem int___gt___bool_int_0 (a : Bool) (b : Int) (u : Tok) : Gives (Builtin.«int.__gt__» ⟨[.bool a, .int b u], []⟩) (.val (Value.bool (decide ((if a = true then (1 : Int) else 0) > b)))) :=
  .of_wp fun M A E s Q h => by obtain ⟨hp, g, d, tk, os⟩ := s; wp_walk; exact ⟨_, rfl, h⟩
theorem gt_bool_int {prog : Program} {w : World} {a : Bool} {b : Int} {u : Tok} {Q : Value → Shared → Prop} (h : Q (.bool (decide ((if a = true then (1 : Int) else 0) > b))) s) : wpAny (model prog w) A (compareOp .Gt (.bool a) (.int b u)) Q E s :=
  rc_left_or (op := .Gt) rfl (typeIs_int s b u) (by decide) F.sub_int_bool F.slot_bool_gt
    (call_gives F.slot_bool_gt rfl F.entry_int_gt (F.args_int_gt_2 _ _) (int___gt___bool_int_0 a b u) ⟨nofun, h⟩) (.inl rfl)
end
end PySem.SeqAt
namespace Deed
open PySem PySem.Spec PyProof.Rows L2
/-! ### things of whatever kind -/
inductive Knd (H : Hp) : V → Prop
  | non : Knd H .non
  | bl (b : Bool) : Knd H (.bl b)
  | int (i : Int) : Knd H (.int i)
  | str (x : Str) : Knd H (.str x)
  | lst {a : Addr} {xs : List V} : H a = some (.lst xs) → Knd H (.ref a)
  | tup {a : Addr} {xs : List V} : H a = some (.tup xs) → Knd H (.ref a)
  | dct {a : Addr} {kvs : List (Key × V)} : H a = some (.dK kvs) → Knd H (.ref a)
section
variable {X : Cx}
/-- thing == text -/
def rEqTS : R2 := fun x y H Q => ∃ z, y = .str z ∧ Knd H x ∧ Q (.bl (decide (x = .str z))) H
theorem dct_at {pins : List (Addr × Obj)} {σ : L2.St} {H : Hp} {s : Shared} (I : Inv X pins σ H s) {a : Addr} {kvs : List (Key × V)} (e : H a = some (.dK kvs)) : ∃ (o : Obj) (es : Array DictEntry) (ep : Nat), s.heap.get? a = some o ∧ o.cls = .type "dict" ∧ o.data = .dict es ep := by
  obtain ⟨_, _, vs, _, o, es, ep, ho, hx, hd, _⟩ := I.hok a _ e
  exact ⟨o, es, ep, ho, hx.1, hd⟩
theorem op_eqTS (hu : X.A.units + 64 < cLine) : OpR X (compareOp .Eq) rEqTS := by
  intro pins s σ H x y v u Q I rx ry h
  obtain ⟨z, rfl, hk, q⟩ := h
  have hu' : X.A.units < cLine := by omega
  obtain ⟨t', rfl⟩ := ry
  cases hk with
  | non => cases rx; exact SeqAt.RcAt.none_str z t' X.prog X.w _ _ ⟨.bl false, H, I, rfl, q⟩
  | bl b => cases rx; exact SeqAt.RcAt.bool_str b z t' X.prog X.w _ _ ⟨.bl false, H, I, rfl, q⟩
  | int i => obtain ⟨t, rfl⟩ := rx; exact SeqAt.RcAt.int_str i t z t' X.prog X.w _ _ ⟨.bl false, H, I, rfl, q⟩
  | str i =>
    exact op_eq pins s σ H _ (.str z) _ _ Q I rx ⟨t', rfl⟩ ⟨rfl, q⟩
  | lst e =>
    cases rx
    obtain ⟨its, r, pl, hz⟩ := I.list (SqL.of (K := X.K) e)
    exact SeqAt.RcAt.list_str z t' pl.isList hu' X.prog X.w _ _ ⟨.bl false, H, I, rfl, q⟩
  | tup e =>
    cases rx
    obtain ⟨its, r, pl, hz⟩ := I.tuple (SqT.of (K := X.K) e)
    exact SeqAt.RcAt.tuple_str z t' pl hu' X.prog X.w _ _ ⟨.bl false, H, I, rfl, q⟩
  | dct e =>
    cases rx
    obtain ⟨o, es, ep, ho, hc, hd⟩ := dct_at I e
    exact SeqAt.RcAt.dict_str z t' ho hc hd hu' X.prog X.w _ _ ⟨.bl false, H, I, rfl, q⟩
/-- thing in, or not in, a list or tuple of texts -/
def rInTS (K : PySem.W.Frag) (neg : Bool) : R2 := fun x y H Q => ∃ (p : Addr) (ws : List Str), y = .ref p ∧ (SqL K H p (ws.map V.str) ∨ SqT K H p (ws.map V.str)) ∧ Knd H x ∧ Q (.bl (if neg then !decide (x ∈ ws.map V.str) else decide (x ∈ ws.map V.str))) H
def eqTS (x : V) : Value → Bool
  | .str z _ => decide (x = .str z)
  | _ => false
theorem eqTS_at {pins : List (Addr × Obj)} {σ : L2.St} {H : Hp} {s : Shared} {A : Around} (I : Inv X pins σ H s) (hu : A.units < cLine) {x : V} {v : Value} (rx : RelV x v) (hk : Knd H x) {ws : List Str} {its : List Value} (r : Vals (ws.map V.str) its) : ∀ y ∈ its, SeqAt.EqAt A s y v (eqTS x y) := by
  intro y hy
  have hs : ∃ z t, y = .str z t := by
    clear hk rx
    induction its generalizing ws with
    | nil => cases hy
    | cons a r' ih =>
      cases ws with
      | nil => cases r
      | cons z zs =>
        cases r with
        | cons h1 h2 =>
          rcases List.mem_cons.mp hy with rfl | hy
          · obtain ⟨t, rfl⟩ := h1
            exact ⟨z, t, rfl⟩
          · exact ih h2 hy
  obtain ⟨z, t, rfl⟩ := hs
  cases hk with
  | non => cases rx; exact SeqAt.EqAt.str_none z t
  | bl b => cases rx; exact SeqAt.EqAt.str_bool z t b
  | int i => obtain ⟨t', rfl⟩ := rx; exact SeqAt.EqAt.str_int z t i t'
  | str i =>
    obtain ⟨t', rfl⟩ := rx
    have := SeqAt.EqAt.str_str (A := A) (s := s) z t i t'
    rw [show eqTS (.str i) (.str z t) = (z == i) from ?_]
    · exact this
    · show decide (V.str i = V.str z) = (z == i)
      by_cases e : i = z
      · subst e
        simp
      · rw [decide_eq_false (fun q => e (by injection q))]
        exact (beq_eq_false_iff_ne.mpr fun q => e q.symm).symm
  | lst e =>
    cases rx
    obtain ⟨its, r, pl, hz⟩ := I.list (SqL.of (K := X.K) e)
    exact SeqAt.EqAt.str_list z t pl.isList hu
  | tup e =>
    cases rx
    obtain ⟨its, r, pl, hz⟩ := I.tuple (SqT.of (K := X.K) e)
    exact SeqAt.EqAt.str_tuple z t pl hu
  | dct e =>
    cases rx
    obtain ⟨o, es, ep, ho, hc, hd⟩ := dct_at I e
    exact SeqAt.EqAt.str_dict z t ho hc hd hu
theorem any_eqTS {x : V} : ∀ {ws : List Str} {its : List Value}, Vals (ws.map V.str) its → its.any (eqTS x) = decide (x ∈ ws.map V.str)
  | [], _, r => by
    cases r
    simp
  | z :: zs, _, r => by
    cases r with
    | cons h1 h2 =>
      obtain ⟨t, rfl⟩ := h1
      rw [List.any_cons, any_eqTS h2, List.map_cons]
      show (decide (x = .str z) || _) = _
      rw [← Bool.decide_or]
      simp only [List.mem_cons]
theorem op_inTS (hu : X.A.units + 64 < cLine) : OpR X (compareOp .In) (rInTS X.K false) := by
  intro pins s σ H x y v u Q I rx ry h
  obtain ⟨p, ws, rfl, hq, hk, q⟩ := h
  cases ry
  have hu' : X.A.in1.units < cLine := by show X.A.units + 1 < cLine; omega
  rcases hq with hq | hq
  · obtain ⟨its, r, pl, hz⟩ := I.list hq
    refine SeqAt.in_listAt (eqTS x) pl.isList (fun w hw => eqTS_at I hu' rx hk r w (by simpa using hw)) ⟨.bl _, H, I, rfl, ?_⟩
    rw [show its.toArray.any (eqTS x) = its.any (eqTS x) by simp, any_eqTS r]
    exact q
  · obtain ⟨its, r, pl, hz⟩ := I.tuple hq
    refine SeqAt.in_tupleAt (eqTS x) pl (fun w hw => eqTS_at I hu' rx hk r w (by simpa using hw)) ⟨.bl _, H, I, rfl, ?_⟩
    rw [show its.toArray.any (eqTS x) = its.any (eqTS x) by simp, any_eqTS r]
    exact q
theorem op_notInTS (hu : X.A.units + 64 < cLine) : OpR X (compareOp .NotIn) (rInTS X.K true) := by
  intro pins s σ H x y v u Q I rx ry h
  obtain ⟨p, ws, rfl, hq, hk, q⟩ := h
  cases ry
  have hu' : X.A.in1.units < cLine := by show X.A.units + 1 < cLine; omega
  rcases hq with hq | hq
  · obtain ⟨its, r, pl, hz⟩ := I.list hq
    refine SeqAt.notIn_listAt (eqTS x) pl.isList (fun w hw => eqTS_at I hu' rx hk r w (by simpa using hw)) ⟨.bl _, H, I, rfl, ?_⟩
    rw [show its.toArray.any (eqTS x) = its.any (eqTS x) by simp, any_eqTS r]
    exact q
  · obtain ⟨its, r, pl, hz⟩ := I.tuple hq
    refine SeqAt.notIn_tupleAt (eqTS x) pl (fun w hw => eqTS_at I hu' rx hk r w (by simpa using hw)) ⟨.bl _, H, I, rfl, ?_⟩
    rw [show its.toArray.any (eqTS x) = its.any (eqTS x) by simp, any_eqTS r]
    exact q
/-- tuple != () -/
def rNeTE (K : PySem.W.Frag) : R2 := fun x y H Q => ∃ a b xs, x = .ref a ∧ y = .ref b ∧ SqT K H a xs ∧ SqT K H b [] ∧ Q (.bl (!xs.isEmpty)) H
theorem op_neTE (hu : X.A.units + 64 < cLine) : OpR X (compareOp .NotEq) (rNeTE X.K) := by
  intro pins s σ H x y v u Q I rx ry h
  obtain ⟨a, b, xs, rfl, rfl, ha, hb, q⟩ := h
  cases rx
  cases ry
  obtain ⟨its, r, pl, hz⟩ := I.tuple ha
  obtain ⟨its2, r2, pl2, hz2⟩ := I.tuple hb
  cases r2
  have hl := r.length
  refine SeqAt.RcNeAt.tuples (e := fun _ => true) pl pl2 (by omega) (fun j h1 h2 => absurd h2 (by simp)) X.prog X.w _ _ ⟨.bl _, H, I, rfl, ?_⟩
  have e : (!((List.range (min its.toArray.size ([] : List Value).toArray.size)).all (fun _ => true) && its.toArray.size == ([] : List Value).toArray.size)) = !xs.isEmpty := by
    cases xs with
    | nil =>
      have : its = [] := List.eq_nil_of_length_eq_zero (by rw [← hl]; rfl)
      subst this
      rfl
    | cons x xs =>
      cases its with
      | nil => simp at hl
      | cons i is => simp
  rw [e]
  exact q
/-- thing + number, thing - number, thing > number, of numbers and truths -/
def b2n (b : Bool) : Int := if b = true then 1 else 0
def numOf : V → Option Int
  | .int i => some i
  | .bl b => some (b2n b)
  | _ => none
theorem op_addTI : OpR X (binaryOp .Add) (fun x y H Q => ∃ i j, numOf x = some i ∧ y = .int j ∧ Q (.int (i + j)) H) := by
  intro pins s σ H x y v u Q I rx ry h
  obtain ⟨i, j, hx, rfl, q⟩ := h
  obtain ⟨t', rfl⟩ := ry
  cases x with
  | int k =>
    obtain ⟨t, rfl⟩ := rx
    injection hx with hx
    subst hx
    exact add_int ⟨.int _, H, I.tok _, ⟨_, rfl⟩, q⟩
  | bl k =>
    cases rx
    injection hx with hx
    subst hx
    exact PySem.IntBool.add_bool_int ⟨.int _, H, I.tok _, ⟨_, rfl⟩, q⟩
  | _ => cases hx
theorem op_subTI : OpR X (binaryOp .Sub) (fun x y H Q => ∃ i j, numOf x = some i ∧ y = .int j ∧ Q (.int (i - j)) H) := by
  intro pins s σ H x y v u Q I rx ry h
  obtain ⟨i, j, hx, rfl, q⟩ := h
  obtain ⟨t', rfl⟩ := ry
  cases x with
  | int k =>
    obtain ⟨t, rfl⟩ := rx
    injection hx with hx
    subst hx
    exact sub_int ⟨.int _, H, I.tok _, ⟨_, rfl⟩, q⟩
  | bl k =>
    cases rx
    injection hx with hx
    subst hx
    exact PySem.IntBool.sub_bool_int ⟨.int _, H, I.tok _, ⟨_, rfl⟩, q⟩
  | _ => cases hx
theorem op_gtTI : OpR X (compareOp .Gt) (fun x y H Q => ∃ i j, numOf x = some i ∧ y = .int j ∧ Q (.bl (decide (i > j))) H) := by
  intro pins s σ H x y v u Q I rx ry h
  obtain ⟨i, j, hx, rfl, q⟩ := h
  cases x with
  | int k =>
    injection hx with hx
    subst hx
    exact op_gt pins s σ H _ _ _ _ Q I rx ry ⟨_, _, rfl, rfl, q⟩
  | bl k =>
    obtain ⟨t', rfl⟩ := ry
    cases rx
    injection hx with hx
    subst hx
    exact SeqAt.gt_bool_int ⟨.bl _, H, I, rfl, q⟩
  | _ => cases hx
theorem str_of_bool {prog : Program} {w : World} {A : Around} {E : Value → Shared → Prop} {s : Shared} {b : Bool} {Q : Value → Shared → Prop} (h : Q (.str (if b then "True" else "False") s.toks) { s with toks := s.toks + 1 }) : wpAny (model prog w) A (call (.type "str") [.bool b]) Q E s :=
  callType_new F.called_str (by decide) (F.typeCall_str_1 _) (F.newCall_str_1 _) (fun obj => F.args_object_init_2 obj _) F.entry_str_new
    (meets_str_new (S := fun _ R s => R (.ok (.ret (.str (if b then "True" else "False") s.toks))) { s with toks := s.toks + 1 }) fun _ _ _ _ s hq =>
      wpAny_strOf_gives rfl (PySem.typeIs_bool s b) F.slot_bool_str F.slot_bool_repr F.entry_bool_repr (F.args_bool_repr_1 _) (gives_bool_repr b) hq (hsz := by cases b <;> decide)) ⟨typeIs_str _ _ _, h⟩
def strTI : V → Int → Str
  | .bl b, _ => if b then "True" else "False"
  | _, i => toString i
/-- str(thing) of a number or a truth: some text -/
theorem call_strTI : CallR X (.type "str") (fun xs H Q => ∃ x i, xs = [x] ∧ numOf x = some i ∧ i.natAbs.log2 < 1920 ∧ Q (.str (strTI x i)) H) := by
  intro pins s σ H xs us Q I r h
  obtain ⟨x, i, rfl, hx, hz, q⟩ := h
  obtain ⟨u, rfl, rx⟩ := vals1 r
  cases x with
  | int k =>
    obtain ⟨t, rfl⟩ := rx
    injection hx with hx
    subst hx
    exact PySem.P.str_of_int hz ⟨.str _, H, I.tok _, ⟨_, rfl⟩, q⟩
  | bl k =>
    cases rx
    exact str_of_bool ⟨.str _, H, I.tok _, ⟨_, rfl⟩, q⟩
  | _ => cases hx
end
end Deed

namespace Deed
open PySem PySem.Spec PyProof.Rows L2 LamX
/-! ### a thing of whatever kind, as data -/
theorem Kp.noneG {p q : Addr} {H H' : Hp} (k : Kp p H H') (n : q ≠ p) (h : H' q = Option.none) : H q = Option.none := by
  cases e : H q with
  | none => rfl
  | some o => rw [k _ _ n e] at h; cases h
inductive Tg where
  | non | bl (b : Bool) | int (i : Int) | str (x : Str) | lst | tup (ts : List Tg) | dct
mutual
inductive TgAt (p : Addr) (H : Hp) : V → Tg → Prop
  | non : TgAt p H .non .non
  | bl (b : Bool) : TgAt p H (.bl b) (.bl b)
  | int (i : Int) : TgAt p H (.int i) (.int i)
  | str (x : Str) : TgAt p H (.str x) (.str x)
  | lst {a : Addr} {xs : List V} : a ≠ p → H a = some (.lst xs) → TgAt p H (.ref a) .lst
  | tup {a : Addr} {xs : List V} {ts : List Tg} : H a = some (.tup xs) → TgAll p H xs ts → TgAt p H (.ref a) (.tup ts)
  | dct {a : Addr} {kvs : List (Key × V)} : a ≠ p → H a = some (.dK kvs) → TgAt p H (.ref a) .dct
inductive TgAll (p : Addr) (H : Hp) : List V → List Tg → Prop
  | nil : TgAll p H [] []
  | cons {v : V} {vs : List V} {t : Tg} {ts : List Tg} : TgAt p H v t → TgAll p H vs ts → TgAll p H (v :: vs) (t :: ts)
end
section
variable {p : Addr} {H H' : Hp} {K : PySem.W.Frag}
mutual
theorem TgAt.kp (k : Kp p H H') (P : PenAt H p) : ∀ (t : Tg) (v : V), TgAt p H v t → TgAt p H' v t
  | .non, _, h => by cases h; exact .non
  | .bl _, _, h => by cases h; exact .bl _
  | .int _, _, h => by cases h; exact .int _
  | .str _, _, h => by cases h; exact .str _
  | .lst, _, h => by
    cases h with
    | lst n e => exact .lst n (k _ _ n e)
  | .tup ts, _, h => by
    cases h with
    | tup e ha => exact .tup (k.tup P _ _ e) (TgAll.kp k P ts _ ha)
  | .dct, _, h => by
    cases h with
    | dct n e => exact .dct n (k _ _ n e)
theorem TgAll.kp (k : Kp p H H') (P : PenAt H p) : ∀ (ts : List Tg) (vs : List V), TgAll p H vs ts → TgAll p H' vs ts
  | [], _, h => by cases h; exact .nil
  | t :: ts, _, h => by
    cases h with
    | cons h1 h2 => exact .cons (TgAt.kp k P t _ h1) (TgAll.kp k P ts _ h2)
end
mutual
theorem TgAt.same (k : Same H H') : ∀ (t : Tg) (v : V), TgAt p H v t → TgAt p H' v t
  | .non, _, h => by cases h; exact .non
  | .bl _, _, h => by cases h; exact .bl _
  | .int _, _, h => by cases h; exact .int _
  | .str _, _, h => by cases h; exact .str _
  | .lst, _, h => by
    cases h with
    | lst n e => exact .lst n (k _ _ e)
  | .tup ts, _, h => by
    cases h with
    | tup e ha => exact .tup (k _ _ e) (TgAll.same k ts _ ha)
  | .dct, _, h => by
    cases h with
    | dct n e => exact .dct n (k _ _ e)
theorem TgAll.same (k : Same H H') : ∀ (ts : List Tg) (vs : List V), TgAll p H vs ts → TgAll p H' vs ts
  | [], _, h => by cases h; exact .nil
  | t :: ts, _, h => by
    cases h with
    | cons h1 h2 => exact .cons (TgAt.same k t _ h1) (TgAll.same k ts _ h2)
end
mutual
/-- a list that changes stays a list -/
theorem TgAt.relist {M : Addr} {xs ys : List V} (e : H M = some (.lst xs)) : ∀ (t : Tg) (v : V), TgAt p H v t → TgAt p (upd H M (.lst ys)) v t
  | .non, _, h => by cases h; exact .non
  | .bl _, _, h => by cases h; exact .bl _
  | .int _, _, h => by cases h; exact .int _
  | .str _, _, h => by cases h; exact .str _
  | .lst, _, h => by
    cases h with
    | @lst a zs n e' =>
      by_cases ha : a = M
      · subst ha
        exact .lst n upd_same
      · exact .lst n (by rw [upd_ne ha]; exact e')
  | .tup ts, _, h => by
    cases h with
    | tup e' ha => exact .tup (by rw [upd_ne fun z => by rw [z, e] at e'; cases e']; exact e') (TgAll.relist e ts _ ha)
  | .dct, _, h => by
    cases h with
    | dct n e' => exact .dct n (by rw [upd_ne fun z => by rw [z, e] at e'; cases e']; exact e')
theorem TgAll.relist {M : Addr} {xs ys : List V} (e : H M = some (.lst xs)) : ∀ (ts : List Tg) (vs : List V), TgAll p H vs ts → TgAll p (upd H M (.lst ys)) vs ts
  | [], _, h => by cases h; exact .nil
  | t :: ts, _, h => by
    cases h with
    | cons h1 h2 => exact .cons (TgAt.relist e t _ h1) (TgAll.relist e ts _ h2)
end
theorem TgAll.length : ∀ {vs : List V} {ts : List Tg}, TgAll p H vs ts → vs.length = ts.length
  | _, [], h => by cases h; rfl
  | _, t :: ts, h => by
    cases h with
    | cons h1 h2 => rw [List.length_cons, List.length_cons, TgAll.length h2]
theorem TgAll.get : ∀ {vs : List V} {ts : List Tg} {i : Nat} {v : V}, TgAll p H vs ts → vs[i]? = some v → ∃ t, ts[i]? = some t ∧ TgAt p H v t
  | _, [], i, v, h, e => by
    cases h
    cases e
  | _, t :: ts, i, v, h, e => by
    cases h with
    | cons h1 h2 =>
      cases i with
      | zero =>
        injection e with e
        subst e
        exact ⟨t, rfl, h1⟩
      | succ i => exact TgAll.get (i := i) h2 (by simpa using e)
theorem TgAll.append : ∀ {vs : List V} {ts : List Tg} {vs' : List V} {ts' : List Tg}, TgAll p H vs ts → TgAll p H vs' ts' → TgAll p H (vs ++ vs') (ts ++ ts')
  | _, [], _, _, h, h' => by
    cases h
    exact h'
  | _, t :: ts, _, _, h, h' => by
    cases h with
    | cons h1 h2 => exact .cons h1 (TgAll.append h2 h')
theorem TgAll.take : ∀ {vs : List V} {ts : List Tg} (n : Nat), TgAll p H vs ts → TgAll p H (vs.take n) (ts.take n)
  | _, _, 0, _ => .nil
  | _, [], n + 1, h => by
    cases h
    exact .nil
  | _, t :: ts, n + 1, h => by
    cases h with
    | cons h1 h2 => exact .cons h1 (TgAll.take n h2)
theorem TgAll.drop : ∀ {vs : List V} {ts : List Tg} (n : Nat), TgAll p H vs ts → TgAll p H (vs.drop n) (ts.drop n)
  | _, _, 0, h => h
  | _, [], n + 1, h => by
    cases h
    exact .nil
  | _, t :: ts, n + 1, h => by
    cases h with
    | cons h1 h2 => exact TgAll.drop n h2
theorem TgAll.reverse : ∀ {vs : List V} {ts : List Tg}, TgAll p H vs ts → TgAll p H vs.reverse ts.reverse
  | _, [], h => by
    cases h
    exact .nil
  | _, t :: ts, h => by
    cases h with
    | cons h1 h2 =>
      rw [List.reverse_cons, List.reverse_cons]
      exact (TgAll.reverse h2).append (.cons h1 .nil)
theorem TgAll.cut {vs : List V} {ts : List Tg} (h : TgAll p H vs ts) (lo hi : Option Int) : ∃ ts', TgAll p H (cutV vs lo hi) ts' := ⟨_, (h.drop _).take _⟩
theorem TgAll.rep {vs : List V} {ts : List Tg} (h : TgAll p H vs ts) : ∀ k : Nat, TgAll p H (List.replicate k vs).flatten (List.replicate k ts).flatten
  | 0 => .nil
  | k + 1 => by
    rw [List.replicate_succ, List.replicate_succ, List.flatten_cons, List.flatten_cons]
    exact h.append (h.rep k)
theorem TgAll.ints : ∀ ns : List Int, TgAll p H (ns.map V.int) (ns.map Tg.int)
  | [] => .nil
  | n :: r => .cons (.int n) (TgAll.ints r)
theorem TgAll.mk {vs : List V} (h : ∀ v ∈ vs, ∃ t, TgAt p H v t) : ∃ ts, TgAll p H vs ts := by
  induction vs with
  | nil => exact ⟨[], .nil⟩
  | cons v r ih =>
    obtain ⟨t, ht⟩ := h v List.mem_cons_self
    obtain ⟨ts, hts⟩ := ih fun x hx => h x (List.mem_cons_of_mem _ hx)
    exact ⟨t :: ts, .cons ht hts⟩
theorem TgAll.mem {vs : List V} {ts : List Tg} (h : TgAll p H vs ts) {v : V} (hv : v ∈ vs) : ∃ t, t ∈ ts ∧ TgAt p H v t := by
  obtain ⟨i, hi, e⟩ := List.mem_iff_getElem.mp hv
  obtain ⟨t, ht, hat⟩ := h.get (i := i) (by rw [List.getElem?_eq_getElem hi, e])
  exact ⟨t, List.mem_of_getElem? ht, hat⟩
theorem TgAt.knd {v : V} {t : Tg} (h : TgAt p H v t) : Knd H v := by
  cases h with
  | non => exact .non
  | bl b => exact .bl b
  | int i => exact .int i
  | str x => exact .str x
  | lst _ e => exact .lst e
  | tup e _ => exact .tup e
  | dct _ e => exact .dct e
def Tg.ty : Tg → String
  | .non => "NoneType" | .bl _ => "bool" | .int _ => "int" | .str _ => "str" | .lst => "list" | .tup _ => "tuple" | .dct => "dict"
theorem TgAt.ty {v : V} {t : Tg} (h : TgAt p H v t) : TyX K H v (.type t.ty) := by
  cases h with
  | non => exact .base .non
  | bl b => exact .base (.bl b)
  | int i => exact .base (.int i)
  | str x => exact .base (.str x)
  | lst _ e => exact .base (.lst e)
  | tup e _ => exact .base (.tup e)
  | dct _ e => exact .base (.dK e)
def Tg.isI : Tg → Bool | .int _ => true | .bl _ => true | _ => false
def Tg.isB : Tg → Bool | .bl _ => true | _ => false
def Tg.isT : Tg → Bool | .tup _ => true | _ => false
def Tg.isS : Tg → Bool | .str _ => true | _ => false
def Tg.isL : Tg → Bool | .lst => true | _ => false
theorem Tg.kI (t : Tg) : kitB t.ty "int" = some t.isI := by cases t <;> (simp only [Tg.ty, Tg.isI]; decide +kernel)
theorem Tg.kB (t : Tg) : kitB t.ty "bool" = some t.isB := by cases t <;> (simp only [Tg.ty, Tg.isB]; decide +kernel)
theorem Tg.kT (t : Tg) : kitB t.ty "tuple" = some t.isT := by cases t <;> (simp only [Tg.ty, Tg.isT]; decide +kernel)
theorem Tg.kS (t : Tg) : kitB t.ty "str" = some t.isS := by cases t <;> (simp only [Tg.ty, Tg.isS]; decide +kernel)
theorem Tg.kL (t : Tg) : kitB t.ty "list" = some t.isL := by cases t <;> (simp only [Tg.ty, Tg.isL]; decide +kernel)
theorem TgAt.tupOf {v : V} {t : Tg} (h : TgAt p H v t) (ht : t.isT = true) : ∃ a xs ts, v = .ref a ∧ t = .tup ts ∧ H a = some (.tup xs) ∧ TgAll p H xs ts := by
  cases h with
  | tup e ha => exact ⟨_, _, _, rfl, rfl, e, ha⟩
  | _ => cases ht
end
end Deed

namespace Deed
open PySem PySem.Spec PyProof.Rows L2 LamX
end Deed

namespace Deed
open PySem PySem.Spec PyProof.Rows L2 LamX
section
variable {P : Program} {w : World} {K : PySem.W.Frag} {mg : Str → Option Value} {base : Heap}
abbrev CDrw (P : Program) (w : World) (K : PySem.W.Frag) (mg : Str → Option Value) (base : Heap) (k : Nat) := CallOk P w K mg base k "_law_draw" ["_law_pen_here", "_law_bound"] spDraw
abbrev sLThing : Stmt := topS 74
abbrev nLThing : List Str := ["_law_pen_here", "_law_deep", "_law_way", "_law_parts", "_law_k"]
abbrev pLThing : List Str := ["_law_pen_here", "_law_deep"]
theorem scLThing : FnScope nLThing pLThing (defScope sLThing) := ⟨rfl, rfl, rfl, by decide +kernel, rfl, by decide +kernel, by decide +kernel⟩
def spLThing (n : Nat) : Sp := fun vs H Q _ => ∃ (p : Addr) (deep : Int), vs = [.ref p, .int deep] ∧ PenAt H p ∧ 0 ≤ deep ∧ deep < n ∧ ∀ v H', Kp p H H' → PenAt H' p → (∃ t, TgAt p H' v t) → Q v H'
theorem ok_LThing {f : Addr} {fd : FuncData} {k : Nat} (D : Df K mg "_law_thing" sLThing pLThing f fd) (cDr : ∀ n, CDrw P w K mg base (k + n)) (m_range : mg "range" = none) (m_tuple : mg "tuple" = none) : ∀ n : Nat, FnOk P w K mg base CX0 (k + n + 1) f fd pLThing (spLThing n)
  | 0 => by
    refine D.F.ok scLThing (fun vs H Q E h => ?_) (fun cdv A outer s H vs Q E hr h => ?_)
    · obtain ⟨p, deep, rfl, _⟩ := h
      rfl
    · obtain ⟨p, deep, rfl, _, h0, h1, _⟩ := h
      omega
  | n + 1 => by
    have C__law_thing : CallOk P w K mg base (k + (n + 1)) "_law_thing" pLThing (spLThing n) := D.call (ok_LThing D cDr m_range m_tuple n)
    have C__law_draw := cDr (n + 1)
    refine D.F.ok scLThing (fun vs H Q E h => ?_) (fun cdv A outer s H vs Q E hr h => ?_)
    · obtain ⟨p, deep, rfl, _⟩ := h
      rfl
    · obtain ⟨p, deep, rfl, hP, h0, h1, q⟩ := h
      have nd := scLThing.nd
      refine ⟨_, pss_cons (ps_set (i := 2) nd rfl (.inl rfl) (pe_call C__law_draw.ok hr (by rfl) C__law_draw.g C__law_draw.kp C__law_draw.b .nil pass0 (pa_cons (pv 0) (pa_cons pe_int pa_nil))))
      (pss_cons (ps_if (PW.pt (pw_or (pt_cmpR op_lt (pv 2) pe_int (nomark _)) (pw_or1 (pt_cmpR op_eq (pv 1) pe_int (nomark _))))) (pss_one (ps_ret (pe_ix ix_list (pe_lst (pa_cons pe_non (pa_cons pe_bl (pa_cons pe_bl (pa_cons pe_int (pa_cons pe_int (pa_cons (pe_un un_neg pe_int) (pa_cons pe_int (pa_cons (pe_op op_pow pe_int pe_int) (pa_cons pe_str (pa_cons pe_str (pa_cons (pe_tup pa_nil) (pa_cons (pe_lst pa_nil) pa_nil))))))))))))) (pe_call C__law_draw.ok hr (by rfl) C__law_draw.g C__law_draw.kp C__law_draw.b .nil pass0 (pa_cons (pv 0) (pa_cons pe_int pa_nil))) (fun _ _ => rfl)))) pss_nil)
      (pss_cons (ps_setLc (i := 3) (own := [("_law_k", 4)]) (g := gName 4) (by rfl) nd rfl rfl (sw_true rfl rfl rfl (by decide +kernel)) (pi_range1 rfl m_range (pa_cons (pe_call C__law_draw.ok hr (by rfl) C__law_draw.g C__law_draw.kp C__law_draw.b .nil pass0 (pa_cons (pv 0) (pa_cons pe_int pa_nil))) pa_nil)) (blkOk_by (own := [("_law_k", 4)]) (N := nLThing) (sc := defScope sLThing) (by decide +kernel)) (fun _ _ _ _ _ => (pg_name (i := 4) nd rfl (.inl rfl))) (fun _ _ _ _ _ => pts_nil)
          (fun _ _ _ _ _ => (pe_call C__law_thing.ok hr (by rfl) C__law_thing.g C__law_thing.kp C__law_thing.b .nil pass0 (pa_cons (pv 0) (pa_cons (pe_op op_sub (pv 1) pe_int) pa_nil)))))
      (pss_cons (ps_if (pt_cmpR op_eq (pv 2) pe_int (nomark _)) (pss_one (ps_ret (pv 3))) pss_nil)
      (pss_cons (ps_if (pt_cmpR op_eq (pv 2) pe_int (nomark _)) (pss_one (ps_ret (pe_disp (pps_cons pe_str (pv 3) pps_nil) rfl rfl (by simp) (by decide)))) pss_nil)
      (pss_one (ps_ret (pe_callTy call_tuple_of (by rfl) m_tuple (by decide +kernel) (pa_cons (pv 3) pa_nil)))))))), ?_⟩
      refine ⟨_, rfl, p, 12, rfl, hP, by decide, by decide, fun way H1 k1 P1 a1 b1 => ?_⟩
      refine ⟨_, rfl, _, _, rfl, rfl, _, rfl, ?_⟩
      refine ite2 (fun c => ?_) (fun c => ⟨_, rfl, rfl, _, rfl, ite2 (fun c2 => ?_) (fun c2 => ?_)⟩)
      rotate_right 1
      · have hd : deep ≠ 0 := fun h => c2 (decide_eq_true (congrArg V.int h))
        refine ⟨_, rfl, p, 4, rfl, P1, by decide, by decide, fun m H2 k2 P2 a2 b2 => ?_⟩
        refine ⟨_, rfl, by omega, by omega, fun M nM => ?_⟩
        have nMp : M ≠ p := P2.free nM
        refine lc_range (lo := 0) (n := m.toNat) (fun i H' => ∃ (xs : List V) (ts : List Tg), H' M = some (.lst xs) ∧ Kp p H2 H' ∧ PenAt H' p ∧ xs.length = i ∧ TgAll p H' xs ts) ⟨[], [], upd_same, Kp.new nM _, P2.new nM _, rfl, .nil⟩ ?_ ?_
        · rintro i H3 hi ⟨xs, ts, eM, k3, P3, hl, hts⟩
          refine ⟨rfl, ?_⟩
          unfold tYes
          dsimp only
          rw [if_pos rfl]
          refine ⟨_, rfl, _, rfl, _, _, rfl, rfl, p, deep - 1, rfl, P3, by omega, by omega, fun v H4 k4 P4 ⟨t, hv⟩ => ?_⟩
          have eM4 := k4 _ _ nMp eM
          have hxs4 : ∀ x ∈ xs ++ [v], ∃ t, TgAt p (upd H4 M (.lst (xs ++ [v]))) x t := fun x hx => by
            have h5 : ∃ t, TgAt p H4 x t := by
              rcases List.mem_append.mp hx with hx | hx
              · obtain ⟨t', _, ht'⟩ := hts.mem hx
                exact ⟨t', TgAt.kp k4 P3 _ _ ht'⟩
              · rw [List.mem_singleton.mp hx]
                exact ⟨t, hv⟩
            obtain ⟨t5, h5⟩ := h5
            exact ⟨t5, TgAt.relist eM4 t5 x h5⟩
          obtain ⟨ts', hts'⟩ := TgAll.mk hxs4
          exact ⟨_, eM4, small1000 (by omega), xs ++ [v], ts', upd_same, (k3.trans k4).over nM _, P4.put nMp _, by rw [List.length_append, hl]; rfl, hts'⟩
        rintro H3 ⟨xs, ts, eM, k3, P3, hl, hts⟩
        have k03 := k1.trans (k2.trans k3)
        refine ⟨_, rfl, rfl, _, rfl, ite2 (fun c => ⟨_, rfl, q _ H3 k03 P3 ⟨_, .lst nMp eM⟩⟩) (fun c => ⟨_, rfl, rfl, _, rfl, ite2 (fun c => ?_) (fun c => ?_)⟩)⟩
        · intro d nd'
          have ndp : d ≠ p := P3.free nd'
          exact ⟨_, rfl, upd_same, [(Sum.inr "a", .ref M)], rfl, (by show 1 ≤ 15; omega), q _ _ ((k03.trans (Kp.new nd' _)).over (k03.noneG ndp nd') _) ((P3.new nd' _).put ndp _) ⟨_, .dct ndp upd_same⟩⟩
        · exact ⟨_, rfl, M, _, rfl, .inl ⟨SqL.of eM, fun t nt => q _ _ (k03.trans (Kp.new nt _)) (P3.new nt _) ⟨_, .tup upd_same (TgAll.kp (Kp.new nt _) P3 _ _ hts)⟩⟩⟩
      all_goals
        refine ⟨_, rfl, _, _, rfl, rfl, ⟨by decide, by decide, by decide⟩, Nat.zero_le _, fun t1 nt1 => ?_⟩
        have P2 := P1.new nt1 (.tup [])
        have k2 : Kp p H1 (upd H1 t1 (.tup [])) := Kp.new nt1 _
        have e2 : (upd H1 t1 (.tup [])) t1 = some (.tup []) := upd_same
        generalize (upd H1 t1 (.tup [])) = H2 at P2 k2 e2
        refine ⟨Nat.zero_le _, fun l2 nl2 => ?_⟩
        have P3 := P2.new nl2 (.lst [])
        have k3 : Kp p H2 (upd H2 l2 (.lst [])) := Kp.new nl2 _
        have s3 := same_new nl2 (.lst [])
        have e3 : (upd H2 l2 (.lst [])) l2 = some (.lst []) := upd_same
        have np2 : l2 ≠ p := P2.free nl2
        generalize (upd H2 l2 (.lst [])) = H3 at P3 k3 s3 e3
        refine ⟨(by show 12 ≤ sizeLine; decide), fun l3 nl3 => ?_⟩
        have np3 : l3 ≠ p := P3.free nl3
        have s4 := same_new nl3 (.lst [.non, .bl true, .bl false, .int 0, .int 1, .int (-1), .int 9, .int (10 ^ (39 : Int).toNat), .str "", .str "a", .ref t1, .ref l2])
        refine ⟨_, rfl, p, 12, rfl, P3.new nl3 _, by decide, by decide, fun u H5 k5 P5 a5 b5 => ?_⟩
        obtain ⟨v, gv, hv⟩ := pick (xs := [.non, .bl true, .bl false, .int 0, .int 1, .int (-1), .int 9, .int (10 ^ (39 : Int).toNat), .str "", .str "a", .ref t1, .ref l2]) (fun v => ∃ o, TgAt p H5 v o) a5 b5 (am1 ⟨_, .non⟩ (am1 ⟨_, .bl _⟩ (am1 ⟨_, .bl _⟩ (am1 ⟨_, .int _⟩ (am1 ⟨_, .int _⟩ (am1 ⟨_, .int _⟩ (am1 ⟨_, .int _⟩ (am1 ⟨_, .int _⟩ (am1 ⟨_, .str _⟩ (am1 ⟨_, .str _⟩ (am1 ⟨_, .tup (k5.tup (P3.new nl3 _) _ _ (s4 _ _ (s3 _ _ e2))) .nil⟩ (am1 ⟨_, .lst np2 (k5 _ _ np2 (s4 _ _ e3))⟩ am0))))))))))))
        exact ⟨l3, _, u, v, rfl, rfl, SqL.of (k5 _ _ np3 upd_same), gv, q v H5 (k1.trans (k2.trans (k3.trans ((Kp.new nl3 _).trans k5)))) P5 hv⟩
end
end Deed

namespace Deed
open PySem PySem.Spec PyProof.Rows L2
/-! ### t[::-1] of a tuple -/
theorem fm_congr {α β : Type} {f g : α → Option β} : ∀ {l : List α}, (∀ x ∈ l, f x = g x) → l.filterMap f = l.filterMap g
  | [], _ => rfl
  | a :: l, h => by rw [List.filterMap_cons, List.filterMap_cons, h a List.mem_cons_self, fm_congr fun x hx => h x (List.mem_cons_of_mem _ hx)]
section
variable {prog : Program} {w : World} {A : Around} {E : Value → Shared → Prop} {s : Shared}
theorem revPick (xs : Array Value) : ((List.range xs.size).filterMap fun (m : Nat) => xs[(((xs.size : Int) - 1) + (m : Int) * (-1)).toNat]?).toArray = xs.toList.reverse.toArray := by
  rw [← PySem.W.krv_pick]
  unfold slicePick
  rw [PySem.W.krv_bounds]
  show _ = ((sliceRange ((xs.size : Int) - 1) (-1) (-1)).filterMap (xs[·]?)).toArray
  rw [PySem.W.krv_sliceRange, List.filterMap_map]
  congr 1
  refine fm_congr fun m hm => ?_
  have := List.mem_range.mp hm
  show xs[(((xs.size : Int) - 1) + (m : Int) * (-1)).toNat]? = xs[xs.size - 1 - m]?
  congr 1
  omega
theorem sliceApplied_rev {sl : Addr} {vs : Value} {n : Nat} {Q : Int × Int × Nat → Shared → Prop} (hs : s.heap.IsSliceOf sl .none .none vs) (ps : IsPart vs (some (-1)))
    (h : Q ((n : Int) - 1, -1, n) s) : wpAny (model prog w) A (Builtin.Slice.sliceApplied (.ref sl) (pure (n : Int))) Q E s := by
  obtain ⟨os, hos, hcs, hds⟩ := id hs
  unfold Builtin.Slice.sliceApplied Builtin.Slice.sliceFields
  refine wpAny_bind (wpAny_bind (wpAny_field hos hds (x := .none) rfl (wpAny_bind (wpAny_field hos hds (x := .none) rfl (wpAny_bind (wpAny_field hos hds (x := vs) rfl (wpAny_pure ?_)))))))
  refine wpAny_bind (HT.slicePart_ ps ?_)
  show wpAny _ _ (if ((-1 : Int) == 0) = true then _ else _) _ _ s
  rw [if_neg (by decide)]
  refine wpAny_bind (HT.slicePart_ .none (wpAny_bind (HT.slicePart_ .none (wpAny_bind (wpAny_pure ?_)))))
  show wpAny _ _ (match Builtin.Slice.sliceAdjust none none (-1) (n : Int) with | (lo, hi) => pure (lo, (-1 : Int), Builtin.Slice.slicePlaces lo hi (-1))) _ _ s
  have e : Builtin.Slice.sliceAdjust none none (-1) (n : Int) = ((n : Int) - 1, -1) := by
    unfold Builtin.Slice.sliceAdjust
    simp
  rw [e]
  show wpAny _ _ (pure ((n : Int) - 1, (-1 : Int), Builtin.Slice.slicePlaces ((n : Int) - 1) (-1) (-1))) _ _ s
  have e2 : Builtin.Slice.slicePlaces ((n : Int) - 1) (-1) (-1) = n := by
    unfold Builtin.Slice.slicePlaces
    simp
    omega
  rw [e2]
  exact wpAny_pure h
theorem getItem_tuple_rev {t sl : Addr} {items : Array Value} {vs : Value} {Q : Value → Shared → Prop} (ht : IsTup s.heap t items) (hs : s.heap.IsSliceOf sl .none .none vs) (ps : IsPart vs (some (-1)))
    (h : Q (.ref s.heap.objs.size) { s with heap := s.heap.push { cls := .type "tuple", data := .seq items.toList.reverse.toArray } })
    (hsz : items.size ≤ sizeLine) : wpAny (model prog w) A (getItem (.ref t) (.ref sl)) Q E s := by
  have htake : sizeOk (.seq items.toList.reverse.toArray) := by
    show items.toList.reverse.toArray.size ≤ sizeLine
    rw [List.size_toArray, List.length_reverse, Array.length_toList]
    omega
  obtain ⟨os, hos, hcs, hds⟩ := id hs
  have hTs : s.TypeIs (.ref sl) "slice" := ⟨os, hos, hcs⟩
  unfold getItem
  try with_reducible refine wpAny_holding ?_
  first | refine wpAny_bind (wpAny_pure ?_) | skip
  refine wpAny_bind (wpAny_sequenceKey ht.typeIs (by decide) ?_)
  refine wpAny_bind (wpAny_callSpecial?_slot (name := Str.ofString "__getitem__") ht.typeIs PyProof.Rows.slot_tuple_getitem
    (wpAny_call_entry PyProof.Rows.slot_tuple_getitem ht.typeIs entry_tuple_getitem ?_ (args_tuple_getitem _ _)))
  show wpAny _ _ (Builtin.Tuple.tupleItemsOf (.ref t) >>= _) _ _ s
  refine wpAny_bind (tupleItemsOf_ ht ?_)
  refine wpAny_bind (wpAny_typeOf hTs ?_)
  rw [if_pos (by decide)]
  refine wpAny_bind (sliceApplied_rev hs ps ?_)
  have hno : ¬ ((((items.size : Int) - 1) == 0 && (-1 : Int) == 1 && items.size == items.size) = true) := by
    intro q
    rw [Bool.and_eq_true, Bool.and_eq_true] at q
    exact absurd q.1.2 (by decide)
  show wpAny _ _ (if (((items.size : Int) - 1) == 0 && (-1 : Int) == 1 && items.size == items.size) = true then _ else _) _ _ s
  rw [if_neg hno, revPick]
  first
    | exact wpAny_bind (m := Builtin.Tuple.tupleExact _) (wpAny_newObj_type (wpAny_pure ⟨_, rfl, wpAny_pure h⟩) htake)
    | exact wpAny_bind (m := Builtin.Tuple.tupleExact _) (wpAny_newObj_type (wpAny_bind (wpAny_pure (wpAny_pure ⟨_, rfl, wpAny_pure h⟩))) htake)
    | exact wpAny_bind (wpAny_bind (m := Builtin.Tuple.tupleExact _) (wpAny_newObj_type (wpAny_pure (wpAny_pure ⟨_, rfl, wpAny_pure h⟩)) htake))
    | exact wpAny_bind (wpAny_bind (m := Builtin.Tuple.tupleExact _) (wpAny_newObj_type (wpAny_pure ⟨_, rfl, wpAny_pure h⟩) htake))
end
section
variable {X : Cx}
def tRevT (K : PySem.W.Frag) (te : TE) : TE := fun σ H Q => te σ H fun x H1 => ∃ a xs, x = .ref a ∧ SqT K H1 a xs ∧ ∀ p, H1 p = none → Q (.ref p) (upd H1 p (.tup xs.reverse))
theorem pe_revT {e : Expr} {te : TE} {k : Nat} {p1 p2 p3 pos : Pos} (he : PE X e te) : PE X (.Subscript e (.Slice none none (some (.UnaryOp .USub (.Constant (.int 1) k p1) p2)) p3) pos) (tRevT X.K te) := by
  refine ⟨fun pins s σ H Q I h => ?_⟩
  refine Subscript_ (thn (he.run pins s σ H _ I h) fun v s1 ⟨x, H1, I1, r1, q1⟩ => ?_)
  obtain ⟨a, xs, ex, hx, q⟩ := q1
  subst ex
  cases r1
  have hst : PO X (some (.UnaryOp .USub (.Constant (.int 1) k p1) p2)) (tPart (tUn (rU fun i => .int (-i)) (tC (.int 1)))) := po_some (pe_un un_neg pe_int)
  refine wpAny_Slice (thn (po_none.run pins s1 σ H1 (fun o H2 => o = none ∧ H2 = H1) I1 ⟨rfl, rfl⟩) fun vl s2 ⟨l, H2, I2, pl, el, e2⟩ => ?_)
  subst el e2
  refine thn (po_none.run pins s2 σ H2 (fun o H3 => o = none ∧ H3 = H2) I2 ⟨rfl, rfl⟩) fun vu s3 ⟨u, H3, I3, pu, eu, e3⟩ => ?_
  subst eu e3
  refine thn (hst.run pins s3 σ H3 (fun o H4 => o = some (-1) ∧ H4 = H3) I3 ⟨1, rfl, -1, rfl, rfl, rfl⟩) fun vs s4 ⟨o, H4, I4, ps, eo, e4⟩ => ?_
  subst eo e4
  have I5 : Inv X pins σ H4 { s4 with heap := s4.heap.push { cls := .type "slice", data := .fields #[vl, vu, vs] } } := I4.kept (t' := s4.toks) fun b ob q => Heap.get?_push_of_some _ q
  obtain ⟨its, r, ht, hz⟩ := I5.tuple hx
  have hlen := r.length
  cases pl
  cases pu
  show wpAny (model X.prog X.w) X.A (subscriptTail e (.Slice none none (some (.UnaryOp .USub (.Constant (.int 1) k p1) p2)) p3) (.ref a) (.ref s4.heap.objs.size)) (EP X pins σ Q) X.xe { s4 with heap := s4.heap.push { cls := .type "slice", data := .fields #[.none, .none, vs] } }
  refine tail_any (ops := [.ref a, .ref s4.heap.objs.size]) ht.typeIs (PyProof.Rows.slot_tuple_getitem.lookup) ?_ (by with_unfolding_all rfl)
  refine getItem_tuple_rev ht (Heap.IsSliceOf.new _ .none .none vs) ps ?_ (by rw [List.size_toArray]; omega)
  refine ⟨.ref _, _, I5.laid (t' := s4.toks) (o := .tup xs.reverse) (fun b ob q => Heap.get?_push_of_some _ q) (Nat.le_refl _) ?_, rfl, q _ (I5.hok.fresh (Nat.le_refl _))⟩
  exact ⟨by rw [List.length_reverse]; exact hz, its.reverse, r.reverse, IsTup.new _ _⟩
end
end Deed

namespace Deed
open PySem PySem.Spec PyProof.Rows L2 LamX
def FitsN : Nat → Tg → Prop
  | 0, _ => False
  | n + 1, .tup ts => ts.length ≤ 300 ∧ ∀ t ∈ ts, FitsN n t
  | _ + 1, .str x => x.length ≤ 300
  | _ + 1, .int i => i.natAbs.log2 < 1920
  | _ + 1, _ => True
theorem TgAt.num {p : Addr} {H : Hp} {v : V} {t : Tg} {n : Nat} (h : TgAt p H v t) (hf : FitsN (n + 1) t) (hi : t.isI = true) : ∃ i, numOf v = some i ∧ i.natAbs.log2 < 1920 := by
  cases h with
  | int i => exact ⟨i, rfl, hf⟩
  | bl b => exact ⟨_, rfl, by cases b <;> decide⟩
  | _ => cases hi
theorem cutV_le (xs : List V) (lo hi : Option Int) : (cutV xs lo hi).length ≤ xs.length := cutV_length xs lo hi
section
variable {P : Program} {w : World} {K : PySem.W.Frag} {mg : Str → Option Value} {base : Heap}
def spLSpoilt (n : Nat) : Sp := fun vs H Q _ => ∃ (p : Addr) (v : V) (t : Tg), vs = [.ref p, v] ∧ PenAt H p ∧ TgAt p H v t ∧ FitsN n t ∧ ∀ v' H', Kp p H H' → PenAt H' p → (∃ t', TgAt p H' v' t') → Q v' H'
end
end Deed

namespace Deed
open PySem PySem.Spec PyProof.Rows L2 LamX
/-! ### what a thing is: yes or no -/
def Tg.toI : Tg → Int | .int i => i | _ => 0
def Tg.isW : Tg → Bool | .int _ => true | _ => false
def Tg.within (lo hi : Int) : Tg → Bool | .int i => decide (lo ≤ i) && decide (i ≤ hi) | _ => false
theorem Tg.within_int {lo hi : Int} {t : Tg} (h : t.within lo hi = true) : ∃ i, t = .int i ∧ lo ≤ i ∧ i ≤ hi := by
  cases t with
  | int i =>
    unfold Tg.within at h
    rw [Bool.and_eq_true] at h
    exact ⟨i, rfl, of_decide_eq_true h.1, of_decide_eq_true h.2⟩
  | _ => cases h
def diedT (b : Int) : Tg → Bool | .non => true | d => d.within (b + 1) 9999
def isPersonT : Tg → Bool
  | .tup [b, d] => b.within (-9999) 9999 && diedT b.toI d
  | _ => false
def isFolkT : Tg → Bool
  | .tup ts => (decide (1 ≤ ts.length) && decide (ts.length ≤ 6)) && ts.all isPersonT
  | _ => false
theorem len1 {α : Type} : ∀ {l : List α}, l.length = 1 → ∃ a, l = [a]
  | [a], _ => ⟨a, rfl⟩
  | [], h => nomatch h
  | _ :: _ :: _, h => by simp at h
theorem len2 {α : Type} : ∀ {l : List α}, l.length = 2 → ∃ a b, l = [a, b]
  | [a, b], _ => ⟨a, b, rfl⟩
  | [], h => nomatch h
  | [_], h => nomatch h
  | _ :: _ :: _ :: _, h => by simp at h
theorem len4 {α : Type} : ∀ {l : List α}, l.length = 4 → ∃ a b c d, l = [a, b, c, d]
  | [a, b, c, d], _ => ⟨a, b, c, d, rfl⟩
  | [], h => nomatch h
  | [_], h => nomatch h
  | [_, _], h => nomatch h
  | [_, _, _], h => nomatch h
  | _ :: _ :: _ :: _ :: _ :: _, h => by simp at h
theorem len6 {α : Type} : ∀ {l : List α}, 6 ≤ l.length → ∃ a b c d e f r, l = a :: b :: c :: d :: e :: f :: r
  | a :: b :: c :: d :: e :: f :: r, _ => ⟨a, b, c, d, e, f, r, rfl⟩
  | [], h => by simp at h
  | [_], h => by simp at h
  | [_, _], h => by simp at h
  | [_, _, _], h => by simp at h
  | [_, _, _, _], h => by simp at h
  | [_, _, _, _, _], h => by simp at h
def spB1 (φ : Tg → Bool) : Sp := fun vs H Q _ => ∃ (p : Addr) (v : V) (t : Tg), vs = [v] ∧ TgAt p H v t ∧ ∀ H', Same H H' → Q (.bl (φ t)) H'
theorem all_map_id {α : Type} (φ : α → Bool) (l : List α) : (l.map φ).all id = l.all φ := by
  induction l with
  | nil => rfl
  | cons a r ih => simp [ih]
theorem TgAll.at {p : Addr} {H : Hp} {xs : List V} {ts : List Tg} {i : Nat} {x : V} {y : Tg} (h : TgAll p H xs ts) (hx : xs[i]? = some x) (hy : ts[i]? = some y) : TgAt p H x y := by
  obtain ⟨t, e, ht⟩ := h.get hx
  rw [hy] at e
  injection e with e
  rw [e]
  exact ht
section
variable {P : Program} {w : World} {K : PySem.W.Frag} {mg : Str → Option Value} {base : Heap}
abbrev sIsWhole : Stmt := topS 13
abbrev nIsWhole : List Str := ["thing"]
abbrev pIsWhole : List Str := ["thing"]
theorem scIsWhole : FnScope nIsWhole pIsWhole (defScope sIsWhole) := ⟨rfl, rfl, rfl, by decide +kernel, rfl, by decide +kernel, by decide +kernel⟩
theorem ok_IsWhole {f : Addr} {fd : FuncData} {k : Nat} (F : Fun K "is_whole" "is_whole" sIsWhole f fd) (m_isinstance : mg "isinstance" = none) (m_int : mg "int" = none) (m_bool : mg "bool" = none) : FnOk P w K mg base CX0 (k + 1) f fd pIsWhole (spB1 Tg.isW) := by
  refine F.ok scIsWhole (fun vs H Q E h => ?_) (fun cdv A outer s H vs Q E hr h => ?_)
  · obtain ⟨p, v, t, rfl, _⟩ := h
    rfl
  · obtain ⟨p, v, t, rfl, hT, q⟩ := h
    refine ⟨_, pss_one (ps_ret (pe_and (pe_callB call_isi (by rfl) m_isinstance (by decide +kernel) (pa_cons (pv 0) (pa_cons (pe_bltn (v := .ty "int") (by rfl) m_int (by decide +kernel) rfl) pa_nil))) (pe_one (pe_not (pe_callB call_isi (by rfl) m_isinstance (by decide +kernel) (pa_cons (pv 0) (pa_cons (pe_bltn (v := .ty "bool") (by rfl) m_bool (by decide +kernel) rfl) pa_nil))))))), ?_⟩
    refine ⟨_, rfl, _, _, _, _, t.isI, rfl, .ty "int", hT.ty, kit_ty t.kI, _, rfl, ?_⟩
    refine ite2 (fun c => ?_) (fun c => ?_)
    · refine ⟨_, rfl, _, _, _, _, t.isB, rfl, .ty "bool", hT.ty, kit_ty t.kB, _, rfl, ?_⟩
      rw [show (!t.isB) = t.isW by cases t <;> first | rfl | cases c]
      exact q _ (same_refl _)
    · have h := q _ (same_refl _)
      have e : t.isW = false := by cases t <;> first | rfl | exact absurd rfl c
      rw [e] at h
      exact h
def spWi : Sp := fun vs H Q _ => ∃ (p : Addr) (v : V) (t : Tg) (lo hi : Int), vs = [v, .int lo, .int hi] ∧ TgAt p H v t ∧ ∀ H', Same H H' → Q (.bl (t.within lo hi)) H'
abbrev sIsWithin : Stmt := topS 14
abbrev nIsWithin : List Str := ["thing", "low", "high"]
abbrev pIsWithin : List Str := ["thing", "low", "high"]
theorem scIsWithin : FnScope nIsWithin pIsWithin (defScope sIsWithin) := ⟨rfl, rfl, rfl, by decide +kernel, rfl, by decide +kernel, by decide +kernel⟩
theorem ok_IsWithin {f : Addr} {fd : FuncData} {k : Nat} (F : Fun K "is_within" "is_within" sIsWithin f fd) (C_is_whole : CallOk P w K mg base k "is_whole" pIsWhole (spB1 Tg.isW)) : FnOk P w K mg base CX0 (k + 1) f fd pIsWithin spWi := by
  refine F.ok scIsWithin (fun vs H Q E h => ?_) (fun cdv A outer s H vs Q E hr h => ?_)
  · obtain ⟨p, v, t, lo, hi, rfl, _⟩ := h
    rfl
  · obtain ⟨p, v, t, lo, hi, rfl, hT, q⟩ := h
    refine ⟨_, pss_one (ps_ret (pe_and (pe_call C_is_whole.ok hr (by rfl) C_is_whole.g C_is_whole.kp C_is_whole.b .nil pass0 (pa_cons (pv 0) pa_nil)) (pe_one (pe_chain op_le op_le (pv 1) (pv 0) (pv 2))))), ?_⟩
    refine ⟨_, rfl, p, v, t, rfl, hT, fun H1 s1 => ⟨_, rfl, ?_⟩⟩
    have q1 := q _ s1
    cases hT with
    | int i =>
      refine iteT ?_
      refine ⟨_, rfl, _, rfl, _, _, rfl, rfl, _, rfl, ?_⟩
      have q2 : Q (.bl (decide (lo ≤ i) && decide (i ≤ hi))) H1 := q1
      refine ite2 (fun c => ?_) (fun c => ?_)
      · have c' : decide (lo ≤ i) = true := c
        rw [c', Bool.true_and] at q2
        exact ⟨_, rfl, _, _, rfl, rfl, q2⟩
      · have c' : decide (lo ≤ i) = false := Bool.eq_false_iff.mpr c
        rw [c', Bool.false_and] at q2
        exact q2
    | _ => exact iteF q1
abbrev sIsDayG : Stmt := topS 15
abbrev nIsDayG : List Str := ["thing"]
abbrev pIsDayG : List Str := ["thing"]
theorem scIsDayG : FnScope nIsDayG pIsDayG (defScope sIsDayG) := ⟨rfl, rfl, rfl, by decide +kernel, rfl, by decide +kernel, by decide +kernel⟩
theorem ok_IsDayG {f : Addr} {fd : FuncData} {k : Nat} (F : Fun K "is_day" "is_day" sIsDayG f fd) (C_is_within : CallOk P w K mg base k "is_within" pIsWithin spWi) (iLAST_DAY : MgInt mg "LAST_DAY" 9999) : FnOk P w K mg base CX0 (k + 1) f fd pIsDayG (spB1 (Tg.within 0 9999)) := by
  refine F.ok scIsDayG (fun vs H Q E h => ?_) (fun cdv A outer s H vs Q E hr h => ?_)
  · obtain ⟨p, v, t, rfl, _⟩ := h
    rfl
  · obtain ⟨p, v, t, rfl, hT, q⟩ := h
    refine ⟨_, pss_one (ps_ret (pe_call C_is_within.ok hr (by rfl) C_is_within.g C_is_within.kp C_is_within.b .nil pass0 (pa_cons (pv 0) (pa_cons pe_int (pa_cons (pe_num (by rfl) iLAST_DAY) pa_nil))))), ?_⟩
    exact ⟨_, rfl, p, v, t, 0, 9999, rfl, hT, q⟩
abbrev sIsPerson : Stmt := topS 17
abbrev nIsPerson : List Str := ["thing", "born", "died"]
abbrev pIsPerson : List Str := ["thing"]
theorem scIsPerson : FnScope nIsPerson pIsPerson (defScope sIsPerson) := ⟨rfl, rfl, rfl, by decide +kernel, rfl, by decide +kernel, by decide +kernel⟩
theorem ok_IsPerson {f : Addr} {fd : FuncData} {k : Nat} (F : Fun K "is_person" "is_person" sIsPerson f fd) (C_is_within : CallOk P w K mg base k "is_within" pIsWithin spWi) (m_isinstance : mg "isinstance" = none) (m_tuple : mg "tuple" = none) (m_len : mg "len" = none) (iLAST_DAY : MgInt mg "LAST_DAY" 9999) : FnOk P w K mg base CX0 (k + 1) f fd pIsPerson (spB1 isPersonT) := by
  refine F.ok scIsPerson (fun vs H Q E h => ?_) (fun cdv A outer s H vs Q E hr h => ?_)
  · obtain ⟨p, v, t, rfl, _⟩ := h
    rfl
  · obtain ⟨p, v, t, rfl, hT, q⟩ := h
    have nd := scIsPerson.nd
    refine ⟨_, pss_cons (ps_if (PW.pt (pw_or (pt_not (pt_val (pe_callB call_isi (by rfl) m_isinstance (by decide +kernel) (pa_cons (pv 0) (pa_cons (pe_bltn (v := .ty "tuple") (by rfl) m_tuple (by decide +kernel) rfl) pa_nil))))) (pw_or1 (pt_cmpR op_ne (pe_callB call_len_seq (by rfl) m_len (by decide +kernel) (pa_cons (pv 0) pa_nil)) pe_int (nomark _))))) (pss_one (ps_ret pe_bl)) pss_nil)
      (pss_cons (ps_asg (pv 0) (pg_tup (by rfl) (pgs_cons (pg_name (i := 1) nd rfl (.inl rfl)) (pgs_cons (pg_name (i := 2) nd rfl (.inl rfl)) pgs_nil))))
      (pss_cons (ps_if (pt_not (pt_val (pe_call C_is_within.ok hr (by rfl) C_is_within.g C_is_within.kp C_is_within.b .nil pass0 (pa_cons (pv 1) (pa_cons (pe_un un_neg (pe_num (by rfl) iLAST_DAY)) (pa_cons (pe_num (by rfl) iLAST_DAY) pa_nil)))))) (pss_one (ps_ret pe_bl)) pss_nil)
      (pss_one (ps_ret (pe_or (pe_cmpR op_isN (pv 2) pe_non (nomark _)) (pe_one (pe_call C_is_within.ok hr (by rfl) C_is_within.g C_is_within.kp C_is_within.b .nil pass0 (pa_cons (pv 2) (pa_cons (pe_op op_add (pv 1) pe_int) (pa_cons (pe_num (by rfl) iLAST_DAY) pa_nil)))))))))), ?_⟩
    refine ⟨_, rfl, _, _, _, _, t.isT, rfl, .ty "tuple", hT.ty, kit_ty t.kT, _, rfl, ?_⟩
    cases hc : t.isT with
    | false =>
      refine iteT ?_
      have h := q _ (same_refl _)
      have e : isPersonT t = false := by cases t <;> first | rfl | cases hc
      rw [e] at h
      exact h
    | true =>
      refine iteF ?_
      obtain ⟨a, xs, ts, rfl, rfl, ea, hts⟩ := hT.tupOf hc
      refine ⟨_, rfl, a, _, rfl, .inr (SqT.of ea), rfl, _, rfl, ?_⟩
      have hlen := hts.length
      by_cases h2 : ts.length = 2
      · rw [show decide (V.int (xs.length : Nat) = V.int 2) = true from decide_eq_true (by rw [hlen, h2]; rfl)]
        refine iteF ?_
        obtain ⟨xb, xd, rfl⟩ := len2 (hlen.trans h2)
        obtain ⟨tb, td, rfl⟩ := len2 h2
        cases hts with
        | cons hb h' =>
          cases h' with
          | cons hd _ =>
            refine ⟨_, rfl, a, [xb, xd], rfl, SqT.of ea, rfl, xb, [xd], rfl, xd, [], rfl, rfl, ?_⟩
            refine ⟨_, rfl, _, rfl, p, xb, tb, -9999, 9999, rfl, hb, fun H1 s1 => ⟨_, rfl, ?_⟩⟩
            have q1 : ∀ H', Same H H' → Q (.bl (tb.within (-9999) 9999 && diedT tb.toI td)) H' := q
            cases hw : tb.within (-9999) 9999 with
            | false =>
              refine iteT ?_
              have h := q1 _ s1
              rw [hw] at h
              exact h
            | true =>
              refine iteF ?_
              obtain ⟨i, rfl, hi0, hi1⟩ := Tg.within_int hw
              cases hb
              rw [hw, Bool.true_and] at q1
              refine ⟨_, rfl, ?_⟩
              by_cases hn : xd = .non
              · subst hn
                cases hd
                refine ⟨rfl, _, rfl, iteT ?_⟩
                exact q1 _ s1
              · have hne : td ≠ .non := fun z => by
                  subst z
                  cases hd
                  exact hn rfl
                have e : diedT i td = td.within (i + 1) 9999 := by cases td <;> first | rfl | exact absurd rfl hne
                have hd1 := TgAt.same s1 _ _ hd
                refine ⟨by cases xd <;> rfl, _, rfl, ?_⟩
                rw [show decide (xd = V.non) = false from decide_eq_false hn]
                refine iteF ?_
                refine ⟨_, rfl, _, rfl, _, _, rfl, rfl, p, xd, td, i + 1, 9999, rfl, hd1, fun H2 s2 => ?_⟩
                have h := q1 _ (s1.trans s2)
                rw [show (Tg.int i).toI = i from rfl, e] at h
                exact h
      · rw [show decide (V.int (xs.length : Nat) = V.int 2) = false from decide_eq_false fun z => h2 (by injection z with z; omega)]
        refine iteT ?_
        have h := q _ (same_refl _)
        have e : isPersonT (.tup ts) = false := by
          match ts, h2 with
          | [], _ => rfl
          | [_], _ => rfl
          | [_, _], h2 => exact absurd rfl h2
          | _ :: _ :: _ :: _, _ => rfl
        rw [e] at h
        exact h
abbrev sIsFolkG : Stmt := topS 18
abbrev nIsFolkG : List Str := ["thing", "person"]
abbrev pIsFolkG : List Str := ["thing"]
theorem scIsFolkG : FnScope nIsFolkG pIsFolkG (defScope sIsFolkG) := ⟨rfl, rfl, rfl, by decide +kernel, rfl, by decide +kernel, by decide +kernel⟩
theorem ok_IsFolkG {f : Addr} {fd : FuncData} {k : Nat} (F : Fun K "is_folk" "is_folk" sIsFolkG f fd) (C_is_person : CallOk P w K mg base k "is_person" pIsPerson (spB1 isPersonT)) (m_isinstance : mg "isinstance" = none) (m_tuple : mg "tuple" = none) (m_len : mg "len" = none) (m_all : mg "all" = none) (iMOST_FOLK : MgInt mg "MOST_FOLK" 6) : FnOk P w K mg base CX0 (k + 1) f fd pIsFolkG (spB1 isFolkT) := by
  refine F.ok scIsFolkG (fun vs H Q E h => ?_) (fun cdv A outer s H vs Q E hr h => ?_)
  · obtain ⟨p, v, t, rfl, _⟩ := h
    rfl
  · obtain ⟨p, v, t, rfl, hT, q⟩ := h
    have nd := scIsFolkG.nd
    refine ⟨_, pss_cons (ps_if (PW.pt (pw_or (pt_not (pt_val (pe_callB call_isi (by rfl) m_isinstance (by decide +kernel) (pa_cons (pv 0) (pa_cons (pe_bltn (v := .ty "tuple") (by rfl) m_tuple (by decide +kernel) rfl) pa_nil))))) (pw_or1 (pt_not (pt_chain op_le op_le pe_int (pe_callB call_len_seq (by rfl) m_len (by decide +kernel) (pa_cons (pv 0) pa_nil)) (pe_num (by rfl) iMOST_FOLK)))))) (pss_one (ps_ret pe_bl)) pss_nil)
      (pss_one (ps_ret (pe_callB (cr_all rfl) (by rfl) m_all (by decide +kernel) (pa_cons (pe_lc (own := [("person", 1)]) (g := gName 1) (by rfl) nd (pi_tup (pv 0)) (blkOk_by (own := [("person", 1)]) (N := nIsFolkG) (sc := defScope sIsFolkG) (by decide +kernel)) (fun _ _ _ _ _ => (pg_name (i := 1) nd rfl (.inl rfl))) (fun _ _ _ _ _ => pts_nil)
          (fun _ _ _ _ _ => (pe_call C_is_person.ok hr (by rfl) C_is_person.g C_is_person.kp C_is_person.b .nil pass0 (pa_cons (pv 1) pa_nil)))) pa_nil)))), ?_⟩
    refine ⟨_, rfl, _, _, _, _, t.isT, rfl, .ty "tuple", hT.ty, kit_ty t.kT, _, rfl, ?_⟩
    cases hc : t.isT with
    | false =>
      refine iteT ?_
      have h := q _ (same_refl _)
      have e : isFolkT t = false := by cases t <;> first | rfl | cases hc
      rw [e] at h
      exact h
    | true =>
      refine iteF ?_
      obtain ⟨a, xs, ts, rfl, rfl, ea, hts⟩ := hT.tupOf hc
      have hlen := hts.length
      refine ⟨_, rfl, a, _, rfl, .inr (SqT.of ea), _, _, rfl, rfl, _, rfl, ?_⟩
      have q1 : ∀ H', Same H H' → Q (.bl ((decide (1 ≤ ts.length) && decide (ts.length ≤ 6)) && ts.all isPersonT)) H' := q
      by_cases h1 : 1 ≤ ts.length
      · rw [decide_eq_true (show (1 : Int) ≤ (xs.length : Nat) by omega)]
        refine iteT ?_
        refine ⟨_, _, rfl, rfl, _, rfl, ?_⟩
        by_cases h6 : ts.length ≤ 6
        · rw [decide_eq_true (show ((xs.length : Nat) : Int) ≤ 6 by omega)]
          refine iteF ?_
          rw [decide_eq_true h1, decide_eq_true h6] at q1
          refine ⟨_, rfl, a, rfl, ⟨_, SqT.of ea⟩, fun M nM => ?_⟩
          refine lc_sameM (walk_tup (xs := xs)) ts (fun y => .bl (isPersonT y)) hlen.symm (by omega) nM (fun H s => SqT.of (s _ _ ea)) ?_ ?_
          · rintro i y x H2' H2 hy s2 ⟨rfl, hx⟩ Q1 q1'
            exact ⟨rfl, _, rfl, p, x, y, rfl, TgAt.same s2 _ _ (hts.at hx hy), fun H3 s3 => q1' _ s3⟩
          intro H2 s2 eM
          refine ⟨M, ts.map isPersonT, rfl, SqL.of (by rw [eM, List.map_map]; rfl), ?_⟩
          rw [all_map_id]
          exact q1 _ s2
        · rw [decide_eq_false (show ¬ ((xs.length : Nat) : Int) ≤ 6 by omega)]
          refine iteT ?_
          rw [decide_eq_true h1, decide_eq_false h6] at q1
          exact q1 _ (same_refl _)
      · rw [decide_eq_false (show ¬ (1 : Int) ≤ (xs.length : Nat) by omega)]
        refine ⟨_, rfl, iteT ?_⟩
        rw [decide_eq_false h1] at q1
        exact q1 _ (same_refl _)
end
end Deed

namespace Deed
open PySem PySem.Spec PyProof.Rows L2 LamX RZ
theorem walk_zipG {K : PySem.W.Frag} {a b : Addr} {xs ys : List V} {n : Nat} (hn : n = min xs.length ys.length) : Walk (ItzT K a b) n (fun H => SqT K H a xs ∧ SqT K H b ys) (YPair (fun i => xs[i]?) (fun i => ys[i]?)) := by
  subst hn
  refine ⟨fun i _ hi q => ?_, fun _ q => ⟨xs, ys, q.1, q.2, by omega⟩, fun i H v H' _ q y => ?_⟩
  · have h1 : i < xs.length := by omega
    have h2 : i < ys.length := by omega
    exact ⟨xs, ys, xs[i], ys[i], q.1, q.2, by simp [h1], by simp [h2]⟩
  · obtain ⟨T, x, z, h1, h2, h3, h4, h5⟩ := y
    exact ⟨T, x, z, h1, h2, h3, h4 xs q.1, h5 ys q.2⟩
theorem cutDropG {α : Type} (f : α → V) (l : List α) (m : Nat) : cutV (l.map f) (some (m : Int)) none = (l.drop m).map f := by
  unfold cutV
  rw [HT.sIx_none, HT.sIx_nat, List.length_map, ← List.map_drop, ← List.map_take]
  congr 1
  by_cases h : m ≤ l.length
  · rw [Nat.min_eq_left h, List.take_of_length_le (by rw [List.length_drop]; omega)]
  · rw [Nat.min_eq_right (by omega), List.drop_of_length_le (by omega), List.drop_of_length_le (by omega), List.take_nil]
def ltAt (ns : List Int) (j : Nat) : Bool := decide ((ns[j]?).getD 0 < (ns[j + 1]?).getD 0)
def risI (ns : List Int) : Bool := (List.range (ns.length - 1)).all (ltAt ns)
theorem risI_iff (ns : List Int) : risI ns = true ↔ ns.Pairwise (· < ·) := by
  unfold risI
  rw [List.all_eq_true]
  constructor
  · intro h
    have adj : ∀ j (h1 : j + 1 < ns.length), ns[j] < ns[j + 1] := fun j h1 => by
      have := of_decide_eq_true (h j (List.mem_range.mpr (by omega)))
      rw [List.getElem?_eq_getElem (by omega), List.getElem?_eq_getElem h1] at this
      exact this
    have step : ∀ (d i : Nat) (h1 : i + d + 1 < ns.length), ns[i] < ns[i + d + 1] := fun d => by
      induction d with
      | zero => exact fun i h1 => adj i h1
      | succ d ih =>
        intro i h1
        have a1 := ih i (by omega)
        have a2 := adj (i + d + 1) (by omega)
        have : ns[i + (d + 1) + 1] = ns[i + d + 1 + 1] := by congr 1
        omega
    refine List.pairwise_iff_getElem.mpr fun i j hi hj hij => ?_
    have := step (j - i - 1) i (by omega)
    have e : ns[i + (j - i - 1) + 1]'(by omega) = ns[j] := by congr 1; omega
    omega
  · intro h j hj
    have hj := List.mem_range.mp hj
    have := List.pairwise_iff_getElem.mp h j (j + 1) (by omega) (by omega) (by omega)
    unfold ltAt
    rw [List.getElem?_eq_getElem (by omega), List.getElem?_eq_getElem (by omega)]
    exact decide_eq_true this
def risT (most limit : Int) : Tg → Bool
  | .tup ts => decide ((ts.length : Int) ≤ most) && (ts.all (Tg.within 0 (limit - 1)) && risI (ts.map Tg.toI))
  | _ => false
theorem TgAll.ofInts {p : Addr} {H : Hp} : ∀ {xs : List V} {ts : List Tg} {lo hi : Int}, TgAll p H xs ts → ts.all (Tg.within lo hi) = true → xs = (ts.map Tg.toI).map V.int ∧ ts = (ts.map Tg.toI).map Tg.int
  | _, [], _, _, h, _ => by
    cases h
    exact ⟨rfl, rfl⟩
  | _, t :: ts, lo, hi, h, ha => by
    rw [List.all_cons, Bool.and_eq_true] at ha
    cases h with
    | cons h1 h2 =>
      obtain ⟨e1, e2⟩ := TgAll.ofInts h2 ha.2
      obtain ⟨i, rfl, _⟩ := Tg.within_int ha.1
      cases h1
      exact ⟨by rw [List.map_cons, List.map_cons, ← e1]; rfl, by rw [List.map_cons, List.map_cons, ← e2]; rfl⟩
def hasI (i : Int) : Tg → Bool
  | .tup ts => decide (i ∈ ts.map Tg.toI)
  | _ => false
def deedTailT (n num : Int) : List Tg → Bool
  | [g, t, r, w] => g.within 0 (n - 1) && (t.within 0 (n - 1) && (!decide (g.toI = t.toI) && (risT 2 num r && (risT 3 n w && (!hasI g.toI w && !hasI t.toI w)))))
  | _ => false
def actTailT (num : Int) : List Tg → Bool
  | [x] => x.within 0 (num - 1)
  | _ => false
def tailT (n num : Int) (x : Tg) (r : List Tg) : Bool := match x with
  | .str z => if z = "deed" then deedTailT n num r else decide (z ∈ [("paid" : Str), "void", "undone"]) && actTailT num r
  | _ => false
def isEntT (n : Int) : Tg → Bool
  | .tup (a :: b :: c :: d :: e :: f :: r) => a.within 0 30 && (b.within 0 9999 && (c.within 0 9999 && (d.within 0 3 && tailT n a.toI e (f :: r))))
  | _ => false
def ActWG (K : PySem.W.Frag) (mg : Str → Option Value) (a : Addr) : Prop := mg "ACT_WORDS" = some (.ref a) ∧ ∀ H : Hp, SqT K H a (([("paid" : Str), "void", "undone"] : List Str).map V.str)
def lenT : Tg → Int | .tup ts => ts.length | _ => 0
section
variable {P : Program} {w : World} {K : PySem.W.Frag} {mg : Str → Option Value} {base : Heap}
abbrev sIsRisG : Stmt := topS 19
abbrev nIsRisG : List Str := ["things", "ahead", "behind"]
abbrev pIsRisG : List Str := ["things"]
theorem scIsRisG : FnScope nIsRisG pIsRisG (defScope sIsRisG) := ⟨rfl, rfl, rfl, by decide +kernel, rfl, by decide +kernel, by decide +kernel⟩
def spRisG : Sp := fun vs H Q _ => ∃ (t : Addr) (ns : List Int), vs = [.ref t] ∧ H t = some (.tup (ns.map V.int)) ∧ ns.length ≤ 1000 ∧ ∀ H', Same H H' → Q (.bl (risI ns)) H'
theorem ok_IsRisG {f : Addr} {fd : FuncData} {k : Nat} (F : Fun K "is_rising" "is_rising" sIsRisG f fd) (m_zip : mg "zip" = none) (m_all : mg "all" = none) : FnOk P w K mg base CX0 (k + 1) f fd pIsRisG spRisG := by
  refine F.ok scIsRisG (fun vs H Q E h => ?_) (fun cdv A outer s H vs Q E hr h => ?_)
  · obtain ⟨t, ns, rfl, _⟩ := h
    rfl
  · obtain ⟨t, ns, rfl, et, hl, q⟩ := h
    have nd := scIsRisG.nd
    refine ⟨_, pss_one (ps_ret (pe_callB (cr_all rfl) (by rfl) m_all (by decide +kernel) (pa_cons (pe_lc (own := [("ahead", 1), ("behind", 2)]) (g := gTup K 2 (gCons (gName 1) (gCons (gName 2) gNil))) (by rfl) nd (pi_zipA (by rfl) m_zip (pa_cons (pv 0) (pa_cons (pe_slice sl_tupA (pv 0) (po_some pe_int) po_none) pa_nil))) (blkOk_by (own := [("ahead", 1), ("behind", 2)]) (N := nIsRisG) (sc := defScope sIsRisG) (by decide +kernel)) (fun _ _ _ _ _ => (pg_tup (by rfl) (pgs_cons (pg_name (i := 1) nd rfl (.inl rfl)) (pgs_cons (pg_name (i := 2) nd rfl (.inl rfl)) pgs_nil)))) (fun _ _ _ _ _ => pts_nil)
          (fun _ _ _ _ _ => (pe_cmpR op_lt (pv 1) (pv 2) (nomark _)))) pa_nil))), ?_⟩
    refine ⟨_, rfl, _, rfl, _, rfl, ?_⟩
    dsimp only [tNoPart]
    refine slA_same et fun t2 H2 s2 e2 => ?_
    have e2' : H2 t2 = some (.tup ((ns.drop 1).map V.int)) := by
      rw [e2]
      exact congrArg (fun l => some (HO.tup l)) (cutDropG V.int ns 1)
    refine ⟨t, t2, ns.map V.int, (ns.drop 1).map V.int, rfl, .inr ⟨SqT.of (s2 _ _ et), SqT.of e2', fun M nM => ?_⟩⟩
    refine lc_sameM (walk_zipG (n := ns.length - 1) (by simp)) (List.range (ns.length - 1)) (fun j => .bl (ltAt ns j)) (by rw [List.length_range]) (by rw [List.length_range]; omega) nM (fun H s => ⟨SqT.of (s _ _ (s2 _ _ et)), SqT.of (s _ _ e2')⟩) ?_ ?_
    · rintro j y x H3 H3' hy s3 ⟨T0, xx, yy, rfl, nT, rfl, hxx, hyy⟩ Q1 q1
      obtain rfl : j = y := by
        have h9 := (List.getElem?_eq_some_iff.mp hy).2
        rw [List.getElem_range] at h9
        exact h9
      dsimp only at hxx hyy
      rw [List.getElem?_map] at hxx hyy
      rw [List.getElem?_drop] at hyy
      cases hz : ns[j]? with
      | none => rw [hz] at hxx; cases hxx
      | some m =>
        rw [hz] at hxx
        injection hxx with hxx
        subst hxx
        rw [show 1 + j = j + 1 by omega] at hyy
        cases hz2 : ns[j + 1]? with
        | none => rw [hz2] at hyy; cases hyy
        | some m2 =>
          rw [hz2] at hyy
          injection hyy with hyy
          subst hyy
          have s4 := same_new nT (.tup [.int m, .int m2])
          have eT : (upd H3 T0 (.tup [.int m, .int m2])) T0 = some (.tup [.int m, .int m2]) := upd_same
          generalize (upd H3 T0 (.tup [.int m, .int m2])) = H4 at s4 eT
          refine ⟨T0, _, rfl, SqT.of eT, rfl, _, _, rfl, _, _, rfl, rfl, rfl, ?_⟩
          refine ⟨_, rfl, _, rfl, _, _, rfl, rfl, ?_⟩
          have e : ltAt ns j = decide (m < m2) := by
            unfold ltAt
            rw [hz, hz2]
            rfl
          have := q1 _ s4
          rw [e] at this
          exact this
    intro H3 s3 eM
    refine ⟨M, (List.range (ns.length - 1)).map (ltAt ns), rfl, SqL.of (by rw [eM, List.map_map]; rfl), ?_⟩
    rw [all_map_id]
    exact q _ (s2.trans s3)
abbrev sIsRisB : Stmt := topS 20
abbrev nIsRisB : List Str := ["thing", "most", "limit", "part"]
abbrev pIsRisB : List Str := ["thing", "most", "limit"]
theorem scIsRisB : FnScope nIsRisB pIsRisB (defScope sIsRisB) := ⟨rfl, rfl, rfl, by decide +kernel, rfl, by decide +kernel, by decide +kernel⟩
def spRisBG : Sp := fun vs H Q _ => ∃ (p : Addr) (v : V) (t : Tg) (most limit : Int), vs = [v, .int most, .int limit] ∧ TgAt p H v t ∧ most ≤ 1000 ∧ ∀ H', Same H H' → Q (.bl (risT most limit t)) H'
theorem ok_IsRisB {f : Addr} {fd : FuncData} {k : Nat} (F : Fun K "is_rising_below" "is_rising_below" sIsRisB f fd) (C_is_within : CallOk P w K mg base k "is_within" pIsWithin spWi) (C_is_rising : CallOk P w K mg base k "is_rising" pIsRisG spRisG) (m_isinstance : mg "isinstance" = none) (m_tuple : mg "tuple" = none) (m_len : mg "len" = none) (m_all : mg "all" = none) : FnOk P w K mg base CX0 (k + 1) f fd pIsRisB spRisBG := by
  refine F.ok scIsRisB (fun vs H Q E h => ?_) (fun cdv A outer s H vs Q E hr h => ?_)
  · obtain ⟨p, v, t, most, limit, rfl, _⟩ := h
    rfl
  · obtain ⟨p, v, t, most, limit, rfl, hT, hm, q⟩ := h
    have nd := scIsRisB.nd
    refine ⟨_, pss_cons (ps_if (PW.pt (pw_or (pt_not (pt_val (pe_callB call_isi (by rfl) m_isinstance (by decide +kernel) (pa_cons (pv 0) (pa_cons (pe_bltn (v := .ty "tuple") (by rfl) m_tuple (by decide +kernel) rfl) pa_nil))))) (pw_or1 (pt_cmpR op_gt (pe_callB call_len_seq (by rfl) m_len (by decide +kernel) (pa_cons (pv 0) pa_nil)) (pv 1) (nomark _))))) (pss_one (ps_ret pe_bl)) pss_nil)
      (pss_one (ps_ret (pe_and (pe_callB (cr_all rfl) (by rfl) m_all (by decide +kernel) (pa_cons (pe_lc (own := [("part", 3)]) (g := gName 3) (by rfl) nd (pi_tup (pv 0)) (blkOk_by (own := [("part", 3)]) (N := nIsRisB) (sc := defScope sIsRisB) (by decide +kernel)) (fun _ _ _ _ _ => (pg_name (i := 3) nd rfl (.inl rfl))) (fun _ _ _ _ _ => pts_nil)
          (fun _ _ _ _ _ => (pe_call C_is_within.ok hr (by rfl) C_is_within.g C_is_within.kp C_is_within.b .nil pass0 (pa_cons (pv 3) (pa_cons pe_int (pa_cons (pe_op op_sub (pv 2) pe_int) pa_nil)))))) pa_nil)) (pe_one (pe_call C_is_rising.ok hr (by rfl) C_is_rising.g C_is_rising.kp C_is_rising.b .nil pass0 (pa_cons (pv 0) pa_nil)))))), ?_⟩
    refine ⟨_, rfl, _, _, _, _, t.isT, rfl, .ty "tuple", hT.ty, kit_ty t.kT, _, rfl, ?_⟩
    cases hc : t.isT with
    | false =>
      refine iteT ?_
      have h := q _ (same_refl _)
      have e : risT most limit t = false := by cases t <;> first | rfl | cases hc
      rw [e] at h
      exact h
    | true =>
      refine iteF ?_
      obtain ⟨a, xs, ts, rfl, rfl, ea, hts⟩ := hT.tupOf hc
      have hlen := hts.length
      have q1 : ∀ H', Same H H' → Q (.bl (decide ((ts.length : Int) ≤ most) && (ts.all (Tg.within 0 (limit - 1)) && risI (ts.map Tg.toI)))) H' := q
      refine ⟨_, rfl, a, _, rfl, .inr (SqT.of ea), _, rfl, _, _, rfl, rfl, _, rfl, ?_⟩
      by_cases hgt : ((xs.length : Nat) : Int) > most
      · rw [decide_eq_true hgt]
        refine iteT ?_
        rw [decide_eq_false (show ¬ (ts.length : Int) ≤ most by omega)] at q1
        exact q1 _ (same_refl _)
      · rw [decide_eq_false hgt]
        refine iteF ?_
        rw [decide_eq_true (show (ts.length : Int) ≤ most by omega), Bool.true_and] at q1
        refine ⟨_, rfl, a, rfl, ⟨_, SqT.of ea⟩, fun M nM => ?_⟩
        refine lc_sameM (walk_tup (xs := xs)) ts (fun y => .bl (y.within 0 (limit - 1))) hlen.symm (by omega) nM (fun H s => SqT.of (s _ _ ea)) ?_ ?_
        · rintro i y x H2' H2 hy s2 ⟨rfl, hx⟩ Q1 q1'
          exact ⟨rfl, _, rfl, _, rfl, _, _, rfl, rfl, p, x, y, 0, limit - 1, rfl, TgAt.same s2 _ _ (hts.at hx hy), fun H3 s3 => q1' _ s3⟩
        intro H2 s2 eM
        refine ⟨M, ts.map (Tg.within 0 (limit - 1)), rfl, SqL.of (by rw [eM, List.map_map]; rfl), ?_⟩
        rw [all_map_id]
        refine ⟨_, rfl, ?_⟩
        refine ite2 (fun c => ?_) (fun c => ?_)
        · have c' : ts.all (Tg.within 0 (limit - 1)) = true := c
          rw [c', Bool.true_and] at q1
          obtain ⟨e1, _⟩ := hts.ofInts c'
          refine ⟨_, rfl, a, ts.map Tg.toI, rfl, ?_, by rw [List.length_map]; omega, fun H3 s3 => q1 _ (s2.trans s3)⟩
          rw [s2 _ _ ea, ← e1]
        · have c' : ts.all (Tg.within 0 (limit - 1)) = false := Bool.eq_false_iff.mpr c
          rw [c', Bool.false_and] at q1
          exact q1 _ s2
abbrev sIsDeedT : Stmt := topS 21
abbrev nIsDeedT : List Str := ["folk", "number", "tail", "giver", "taker", "rests", "witnesses", "last"]
abbrev pIsDeedT : List Str := ["folk", "number", "tail"]
theorem scIsDeedT : FnScope nIsDeedT pIsDeedT (defScope sIsDeedT) := ⟨rfl, rfl, rfl, by decide +kernel, rfl, by decide +kernel, by decide +kernel⟩
def spDeedTG : Sp := fun vs H Q _ => ∃ (p fa a : Addr) (fx xs : List V) (ts : List Tg) (num : Int), vs = [.ref fa, .int num, .ref a] ∧ H fa = some (.tup fx) ∧ H a = some (.tup xs) ∧ TgAll p H xs ts ∧ ∀ H', Same H H' → Q (.bl (deedTailT fx.length num ts)) H'
theorem ok_IsDeedT {f : Addr} {fd : FuncData} {k : Nat} (F : Fun K "is_deed_tail" "is_deed_tail" sIsDeedT f fd) (C_is_within : CallOk P w K mg base k "is_within" pIsWithin spWi) (C_is_rising_below : CallOk P w K mg base k "is_rising_below" pIsRisB spRisBG) (m_len : mg "len" = none) (iMOST_RESTS : MgInt mg "MOST_RESTS" 2) (iMOST_WITNESSES : MgInt mg "MOST_WITNESSES" 3) : FnOk P w K mg base CX0 (k + 1) f fd pIsDeedT spDeedTG := by
  refine F.ok scIsDeedT (fun vs H Q E h => ?_) (fun cdv A outer s H vs Q E hr h => ?_)
  · obtain ⟨p, fa, a, fx, xs, ts, num, rfl, _⟩ := h
    rfl
  · obtain ⟨p, fa, a, fx, xs, ts, num, rfl, ef, ea, hts, q⟩ := h
    have nd := scIsDeedT.nd
    refine ⟨_, pss_cons (ps_if (pt_cmpR op_ne (pe_callB call_len_seq (by rfl) m_len (by decide +kernel) (pa_cons (pv 2) pa_nil)) pe_int (nomark _)) (pss_one (ps_ret pe_bl)) pss_nil)
      (pss_cons (ps_asg (pv 2) (pg_tup (by rfl) (pgs_cons (pg_name (i := 3) nd rfl (.inl rfl)) (pgs_cons (pg_name (i := 4) nd rfl (.inl rfl)) (pgs_cons (pg_name (i := 5) nd rfl (.inl rfl)) (pgs_cons (pg_name (i := 6) nd rfl (.inl rfl)) pgs_nil))))))
      (pss_cons (ps_set (i := 7) nd rfl (.inl rfl) (pe_op op_sub (pe_callB call_len_seq (by rfl) m_len (by decide +kernel) (pa_cons (pv 0) pa_nil)) pe_int))
      (pss_cons (ps_if (PW.pt (pw_or (pt_not (pt_val (pe_call C_is_within.ok hr (by rfl) C_is_within.g C_is_within.kp C_is_within.b .nil pass0 (pa_cons (pv 3) (pa_cons pe_int (pa_cons (pv 7) pa_nil)))))) (pw_or (pt_not (pt_val (pe_call C_is_within.ok hr (by rfl) C_is_within.g C_is_within.kp C_is_within.b .nil pass0 (pa_cons (pv 4) (pa_cons pe_int (pa_cons (pv 7) pa_nil)))))) (pw_or1 (pt_cmpR op_eq (pv 3) (pv 4) (nomark _)))))) (pss_one (ps_ret pe_bl)) pss_nil)
      (pss_cons (ps_if (pt_not (pt_val (pe_call C_is_rising_below.ok hr (by rfl) C_is_rising_below.g C_is_rising_below.kp C_is_rising_below.b .nil pass0 (pa_cons (pv 5) (pa_cons (pe_num (by rfl) iMOST_RESTS) (pa_cons (pv 1) pa_nil)))))) (pss_one (ps_ret pe_bl)) pss_nil)
      (pss_cons (ps_if (pt_not (pt_val (pe_call C_is_rising_below.ok hr (by rfl) C_is_rising_below.g C_is_rising_below.kp C_is_rising_below.b .nil pass0 (pa_cons (pv 6) (pa_cons (pe_num (by rfl) iMOST_WITNESSES) (pa_cons (pe_callB call_len_seq (by rfl) m_len (by decide +kernel) (pa_cons (pv 0) pa_nil)) pa_nil)))))) (pss_one (ps_ret pe_bl)) pss_nil)
      (pss_one (ps_ret (pe_and (pe_cmpR op_notIn_seq (pv 3) (pv 6) (by rfl)) (pe_one (pe_cmpR op_notIn_seq (pv 4) (pv 6) (by rfl))))))))))), ?_⟩
    have hlen := hts.length
    refine ⟨_, rfl, a, _, rfl, .inr (SqT.of ea), rfl, _, rfl, ?_⟩
    by_cases h4 : ts.length = 4
    · rw [show decide (V.int (xs.length : Nat) = V.int 4) = true from decide_eq_true (by rw [hlen, h4]; rfl)]
      refine iteF ?_
      obtain ⟨xg, xt, xr, xw, rfl⟩ := len4 (hlen.trans h4)
      obtain ⟨tg, tt, tr, tw, rfl⟩ := len4 h4
      cases hts with
      | cons hg h' =>
      cases h' with
      | cons ht h' =>
      cases h' with
      | cons hr' h' =>
      cases h' with
      | cons hw _ =>
      refine ⟨_, rfl, a, _, rfl, SqT.of ea, rfl, _, _, rfl, _, _, rfl, _, _, rfl, _, _, rfl, rfl, ?_⟩
      refine ⟨_, rfl, fa, _, rfl, .inr (SqT.of ef), _, _, rfl, rfl, ?_⟩
      have q1 : ∀ H', Same H H' → Q (.bl (tg.within 0 ((fx.length : Int) - 1) && (tt.within 0 ((fx.length : Int) - 1) && (!decide (tg.toI = tt.toI) && (risT 2 num tr && (risT 3 fx.length tw && (!hasI tg.toI tw && !hasI tt.toI tw))))))) H' := q
      clear q
      refine ⟨_, rfl, _, rfl, p, xg, tg, 0, _, rfl, hg, fun H1 s1 => ⟨_, rfl, ?_⟩⟩
      cases c1 : tg.within 0 ((fx.length : Int) - 1) with
      | false =>
        refine iteT ?_
        have h := q1 _ s1
        rw [c1] at h
        exact h
      | true =>
      refine iteF ?_
      rw [c1, Bool.true_and] at q1
      refine ⟨_, rfl, _, rfl, p, xt, tt, 0, _, rfl, TgAt.same s1 _ _ ht, fun H2 s2 => ⟨_, rfl, ?_⟩⟩
      have s02 := s1.trans s2
      cases c2 : tt.within 0 ((fx.length : Int) - 1) with
      | false =>
        refine iteT ?_
        have h := q1 _ s02
        rw [c2] at h
        exact h
      | true =>
      refine iteF ?_
      rw [c2, Bool.true_and] at q1
      obtain ⟨g, rfl, _, _⟩ := Tg.within_int c1
      obtain ⟨t, rfl, _, _⟩ := Tg.within_int c2
      cases hg
      cases ht
      refine ⟨_, rfl, _, rfl, rfl, _, rfl, ?_⟩
      rw [show decide (V.int g = V.int t) = decide (g = t) by by_cases e : g = t <;> simp [e]]
      have q2 : ∀ H', Same H H' → Q (.bl (!decide (g = t) && (risT 2 num tr && (risT 3 fx.length tw && (!hasI g tw && !hasI t tw))))) H' := q1
      clear q1
      cases c3 : decide (g = t) with
      | true =>
        refine iteT ?_
        have h := q2 _ s02
        rw [c3] at h
        exact h
      | false =>
      refine iteF ?_
      rw [c3, Bool.not_false, Bool.true_and] at q2
      refine ⟨_, rfl, _, rfl, p, xr, tr, 2, num, rfl, TgAt.same s02 _ _ hr', by decide, fun H3 s3 => ⟨_, rfl, ?_⟩⟩
      have s03 := s02.trans s3
      cases c4 : risT 2 num tr with
      | false =>
        refine iteT ?_
        have h := q2 _ s03
        rw [c4] at h
        exact h
      | true =>
      refine iteF ?_
      rw [c4, Bool.true_and] at q2
      refine ⟨_, rfl, _, rfl, fa, _, rfl, .inr (SqT.of (s03 _ _ ef)), p, xw, tw, 3, _, rfl, TgAt.same s03 _ _ hw, by decide, fun H4 s4 => ⟨_, rfl, ?_⟩⟩
      have s04 := s03.trans s4
      cases c5 : risT 3 fx.length tw with
      | false =>
        refine iteT ?_
        have h := q2 _ s04
        rw [c5] at h
        exact h
      | true =>
      refine iteF ?_
      rw [c5, Bool.true_and] at q2
      have htw : tw.isT = true := by cases tw <;> first | rfl | cases c5
      obtain ⟨wa, wxs, wts, rfl, rfl, ew, hwts⟩ := hw.tupOf htw
      have c5' : (decide ((wts.length : Int) ≤ 3) && (wts.all (Tg.within 0 ((fx.length : Int) - 1)) && risI (wts.map Tg.toI))) = true := c5
      rw [Bool.and_eq_true, Bool.and_eq_true] at c5'
      obtain ⟨e1, _⟩ := hwts.ofInts c5'.2.1
      have ew4 : H4 wa = some (.tup ((wts.map Tg.toI).map V.int)) := by rw [s04 _ _ ew, ← e1]
      have q3 : ∀ H', Same H H' → Q (.bl (!decide (g ∈ wts.map Tg.toI) && !decide (t ∈ wts.map Tg.toI))) H' := q2
      refine ⟨_, rfl, _, rfl, wa, _, rfl, .inr (SqT.of ew4), rfl, flat_ints _, _, rfl, ?_⟩
      rw [show (if true = true then !inV (V.int g) ((wts.map Tg.toI).map V.int) else inV (V.int g) ((wts.map Tg.toI).map V.int)) = !decide (g ∈ wts.map Tg.toI) by rw [if_pos rfl, mem_inV]]
      cases c6 : decide (g ∈ wts.map Tg.toI) with
      | true =>
        refine iteF ?_
        have h := q3 _ s04
        rw [c6] at h
        exact h
      | false =>
        refine iteT ?_
        rw [c6] at q3
        refine ⟨_, rfl, _, rfl, wa, _, rfl, .inr (SqT.of ew4), rfl, flat_ints _, ?_⟩
        rw [show (if true = true then !inV (V.int t) ((wts.map Tg.toI).map V.int) else inV (V.int t) ((wts.map Tg.toI).map V.int)) = !decide (t ∈ wts.map Tg.toI) by rw [if_pos rfl, mem_inV]]
        exact q3 _ s04
    · rw [show decide (V.int (xs.length : Nat) = V.int 4) = false from decide_eq_false fun z => h4 (by injection z with z; omega)]
      refine iteT ?_
      have h := q _ (same_refl _)
      have e : deedTailT fx.length num ts = false := by
        match ts, h4 with
        | [], _ => rfl
        | [_], _ => rfl
        | [_, _], _ => rfl
        | [_, _, _], _ => rfl
        | [_, _, _, _], h4 => exact absurd rfl h4
        | _ :: _ :: _ :: _ :: _ :: _, _ => rfl
      rw [e] at h
      exact h
abbrev sIsActT : Stmt := topS 22
abbrev nIsActT : List Str := ["number", "tail"]
abbrev pIsActT : List Str := ["number", "tail"]
theorem scIsActT : FnScope nIsActT pIsActT (defScope sIsActT) := ⟨rfl, rfl, rfl, by decide +kernel, rfl, by decide +kernel, by decide +kernel⟩
def spActTG : Sp := fun vs H Q _ => ∃ (p a : Addr) (xs : List V) (ts : List Tg) (num : Int), vs = [.int num, .ref a] ∧ H a = some (.tup xs) ∧ TgAll p H xs ts ∧ ∀ H', Same H H' → Q (.bl (actTailT num ts)) H'
theorem ok_IsActT {f : Addr} {fd : FuncData} {k : Nat} (F : Fun K "is_act_tail" "is_act_tail" sIsActT f fd) (C_is_within : CallOk P w K mg base k "is_within" pIsWithin spWi) (m_len : mg "len" = none) : FnOk P w K mg base CX0 (k + 1) f fd pIsActT spActTG := by
  refine F.ok scIsActT (fun vs H Q E h => ?_) (fun cdv A outer s H vs Q E hr h => ?_)
  · obtain ⟨p, a, xs, ts, num, rfl, _⟩ := h
    rfl
  · obtain ⟨p, a, xs, ts, num, rfl, ea, hts, q⟩ := h
    have nd := scIsActT.nd
    refine ⟨_, pss_one (ps_ret (pe_and (pe_cmpR op_eq (pe_callB call_len_seq (by rfl) m_len (by decide +kernel) (pa_cons (pv 1) pa_nil)) pe_int (nomark _)) (pe_one (pe_call C_is_within.ok hr (by rfl) C_is_within.g C_is_within.kp C_is_within.b .nil pass0 (pa_cons (pe_ix ix_tup (pv 1) pe_int (fun _ _ => rfl)) (pa_cons pe_int (pa_cons (pe_op op_sub (pv 0) pe_int) pa_nil))))))), ?_⟩
    have hlen := hts.length
    refine ⟨_, rfl, a, _, rfl, .inr (SqT.of ea), rfl, _, rfl, ?_⟩
    by_cases h1 : ts.length = 1
    · rw [show decide (V.int (xs.length : Nat) = V.int 1) = true from decide_eq_true (by rw [hlen, h1]; rfl)]
      refine iteT ?_
      obtain ⟨x, rfl⟩ := len1 (hlen.trans h1)
      obtain ⟨t, rfl⟩ := len1 h1
      cases hts with
      | cons hx _ =>
      exact ⟨_, rfl, a, _, 0, _, rfl, rfl, SqT.of ea, atI_nat (j := 0) rfl, _, rfl, _, _, rfl, rfl, p, x, t, 0, num - 1, rfl, hx, q⟩
    · rw [show decide (V.int (xs.length : Nat) = V.int 1) = false from decide_eq_false fun z => h1 (by injection z with z; omega)]
      refine iteF ?_
      have h := q _ (same_refl _)
      have e : actTailT num ts = false := by
        match ts, h1 with
        | [], _ => rfl
        | [_], h1 => exact absurd rfl h1
        | _ :: _ :: _, _ => rfl
      rw [e] at h
      exact h
end
end Deed

namespace Deed
open PySem PySem.Spec PyProof.Rows L2 LamX
section
variable {P : Program} {w : World} {K : PySem.W.Frag} {mg : Str → Option Value} {base : Heap}
theorem TgAt.str_iff {p : Addr} {H : Hp} {v : V} {t : Tg} (h : TgAt p H v t) (z : Str) : v = .str z ↔ t = .str z := by
  cases h <;> simp
theorem tailT_deed {n num : Int} {x : Tg} {r : List Tg} (h : x = .str "deed") : tailT n num x r = deedTailT n num r := by
  subst h
  unfold tailT
  simp
theorem tailT_act {n num : Int} {x : Tg} {r : List Tg} {z : Str} (h : x = .str z) (h2 : z ≠ "deed") (h3 : z ∈ [("paid" : Str), "void", "undone"]) : tailT n num x r = actTailT num r := by
  subst h
  show (if z = "deed" then _ else _) = _
  rw [if_neg h2, decide_eq_true h3, Bool.true_and]
theorem tailT_no {n num : Int} {x : Tg} {r : List Tg} (h : x ≠ .str "deed") (h2 : ∀ z ∈ [("paid" : Str), "void", "undone"], x ≠ .str z) : tailT n num x r = false := by
  cases x with
  | str z =>
    show (if z = "deed" then _ else _) = _
    rw [if_neg fun e => h (by rw [e]), decide_eq_false fun e => h2 z e rfl, Bool.false_and]
  | _ => rfl
abbrev sIsEntG : Stmt := topS 23
abbrev nIsEntG : List Str := ["folk", "thing", "number", "day", "written", "hand", "word"]
abbrev pIsEntG : List Str := ["folk", "thing"]
theorem scIsEntG : FnScope nIsEntG pIsEntG (defScope sIsEntG) := ⟨rfl, rfl, rfl, by decide +kernel, rfl, by decide +kernel, by decide +kernel⟩
def spEntG : Sp := fun vs H Q _ => ∃ (p : Addr) (vf v : V) (tf t : Tg), vs = [vf, v] ∧ TgAt p H vf tf ∧ TgAt p H v t ∧ ∀ H', Same H H' → Q (.bl (isFolkT tf && isEntT (lenT tf) t)) H'
theorem ok_IsEntG {f : Addr} {fd : FuncData} {k : Nat} {a_ACT_WORDS : Addr} (F : Fun K "is_entry" "is_entry" sIsEntG f fd) (C_is_folk : CallOk P w K mg base k "is_folk" pIsFolkG (spB1 isFolkT)) (C_is_within : CallOk P w K mg base k "is_within" pIsWithin spWi) (C_is_day : CallOk P w K mg base k "is_day" pIsDayG (spB1 (Tg.within 0 9999))) (C_is_deed_tail : CallOk P w K mg base k "is_deed_tail" pIsDeedT spDeedTG) (C_is_act_tail : CallOk P w K mg base k "is_act_tail" pIsActT spActTG) (m_isinstance : mg "isinstance" = none) (m_tuple : mg "tuple" = none) (m_len : mg "len" = none) (iOF : MgInt mg "OF" 5) (iLAST_NUMBER : MgInt mg "LAST_NUMBER" 30) (iLAST_HAND : MgInt mg "LAST_HAND" 3) (AW : ActWG K mg a_ACT_WORDS) : FnOk P w K mg base CX0 (k + 1) f fd pIsEntG spEntG := by
  refine F.ok scIsEntG (fun vs H Q E h => ?_) (fun cdv A outer s H vs Q E hr h => ?_)
  · obtain ⟨p, vf, v, tf, t, rfl, _⟩ := h
    rfl
  · obtain ⟨p, vf, v, tf, t, rfl, hTf, hT, q⟩ := h
    have nd := scIsEntG.nd
    have g_ACT_WORDS := AW.1
    refine ⟨_, pss_cons (ps_if (PW.pt (pw_or (pt_not (pt_val (pe_call C_is_folk.ok hr (by rfl) C_is_folk.g C_is_folk.kp C_is_folk.b .nil pass0 (pa_cons (pv 0) pa_nil)))) (pw_or (pt_not (pt_val (pe_callB call_isi (by rfl) m_isinstance (by decide +kernel) (pa_cons (pv 1) (pa_cons (pe_bltn (v := .ty "tuple") (by rfl) m_tuple (by decide +kernel) rfl) pa_nil))))) (pw_or1 (pt_cmpR op_le (pe_callB call_len_seq (by rfl) m_len (by decide +kernel) (pa_cons (pv 1) pa_nil)) (pe_num (by rfl) iOF) (nomark _)))))) (pss_one (ps_ret pe_bl)) pss_nil)
      (pss_cons (ps_asg (pe_slice sl_tupA (pv 1) po_none (po_some (pe_num (by rfl) iOF))) (pg_tup (by rfl) (pgs_cons (pg_name (i := 2) nd rfl (.inl rfl)) (pgs_cons (pg_name (i := 3) nd rfl (.inl rfl)) (pgs_cons (pg_name (i := 4) nd rfl (.inl rfl)) (pgs_cons (pg_name (i := 5) nd rfl (.inl rfl)) (pgs_cons (pg_name (i := 6) nd rfl (.inl rfl)) pgs_nil)))))))
      (pss_cons (ps_if (PW.pt (pw_or (pt_not (pt_val (pe_call C_is_within.ok hr (by rfl) C_is_within.g C_is_within.kp C_is_within.b .nil pass0 (pa_cons (pv 2) (pa_cons pe_int (pa_cons (pe_num (by rfl) iLAST_NUMBER) pa_nil)))))) (pw_or (pt_not (pt_val (pe_call C_is_day.ok hr (by rfl) C_is_day.g C_is_day.kp C_is_day.b .nil pass0 (pa_cons (pv 3) pa_nil)))) (pw_or1 (pt_not (pt_val (pe_call C_is_day.ok hr (by rfl) C_is_day.g C_is_day.kp C_is_day.b .nil pass0 (pa_cons (pv 4) pa_nil)))))))) (pss_one (ps_ret pe_bl)) pss_nil)
      (pss_cons (ps_if (pt_not (pt_val (pe_call C_is_within.ok hr (by rfl) C_is_within.g C_is_within.kp C_is_within.b .nil pass0 (pa_cons (pv 5) (pa_cons pe_int (pa_cons (pe_num (by rfl) iLAST_HAND) pa_nil)))))) (pss_one (ps_ret pe_bl)) pss_nil)
      (pss_cons (ps_if (pt_cmpR (op_eqTS hr.units) (pv 6) pe_str (nomark _)) (pss_one (ps_ret (pe_call C_is_deed_tail.ok hr (by rfl) C_is_deed_tail.g C_is_deed_tail.kp C_is_deed_tail.b .nil pass0 (pa_cons (pv 0) (pa_cons (pv 2) (pa_cons (pe_slice sl_tupA (pv 1) (po_some (pe_num (by rfl) iOF)) po_none) pa_nil)))))) pss_nil)
      (pss_one (ps_ret (pe_and (pe_cmpR (op_inTS hr.units) (pv 6) (pe_glob (v := .ref a_ACT_WORDS) (by rfl) g_ACT_WORDS rfl) (by rfl)) (pe_one (pe_call C_is_act_tail.ok hr (by rfl) C_is_act_tail.g C_is_act_tail.kp C_is_act_tail.b .nil pass0 (pa_cons (pv 2) (pa_cons (pe_slice sl_tupA (pv 1) (po_some (pe_num (by rfl) iOF)) po_none) pa_nil))))))))))), ?_⟩
    refine ⟨_, rfl, p, vf, tf, rfl, hTf, fun H1 s1 => ⟨_, rfl, ?_⟩⟩
    cases cf : isFolkT tf with
    | false =>
      refine iteT ?_
      have h := q _ s1
      rw [cf] at h
      exact h
    | true =>
    refine iteF ?_
    rw [cf, Bool.true_and] at q
    have htf : tf.isT = true := by cases tf <;> first | rfl | cases cf
    obtain ⟨fa, fx, fts, rfl, rfl, ef, hfts⟩ := hTf.tupOf htf
    have hfl : lenT (.tup fts) = (fx.length : Int) := by rw [hfts.length]; rfl
    rw [hfl] at q
    have hT1 := TgAt.same s1 _ _ hT
    refine ⟨_, rfl, _, _, _, _, t.isT, rfl, .ty "tuple", hT1.ty, kit_ty t.kT, _, rfl, ?_⟩
    cases hc : t.isT with
    | false =>
      refine iteT ?_
      have h := q _ s1
      have e : isEntT fx.length t = false := by cases t <;> first | rfl | cases hc
      rw [e] at h
      exact h
    | true =>
    refine iteF ?_
    obtain ⟨a, xs, ts, rfl, rfl, ea, hts⟩ := hT.tupOf hc
    have ea1 := s1 _ _ ea
    have hlen := hts.length
    refine ⟨_, rfl, a, _, rfl, .inr (SqT.of ea1), _, _, rfl, rfl, _, rfl, ?_⟩
    by_cases h6 : 6 ≤ ts.length
    rotate_left
    · rw [decide_eq_true (show ((xs.length : Nat) : Int) ≤ 5 by omega)]
      refine iteT ?_
      have h := q _ s1
      have e : isEntT fx.length (.tup ts) = false := by
        match ts, h6 with
        | [], _ => rfl
        | [_], _ => rfl
        | [_, _], _ => rfl
        | [_, _, _], _ => rfl
        | [_, _, _, _], _ => rfl
        | [_, _, _, _, _], _ => rfl
        | _ :: _ :: _ :: _ :: _ :: _ :: _, h6 => simp at h6
      rw [e] at h
      exact h
    rw [decide_eq_false (show ¬ ((xs.length : Nat) : Int) ≤ 5 by omega)]
    refine iteF ?_
    obtain ⟨xa, xb, xc, xd, xe, xf, xr, rfl⟩ := len6 (show 6 ≤ xs.length by omega)
    obtain ⟨ta, tb, tc, td, te, tf', tr, rfl⟩ := len6 h6
    have htl : TgAll p H (xf :: xr) (tf' :: tr) := hts.drop 5
    cases hts with
    | cons ha h' =>
    cases h' with
    | cons hb h' =>
    cases h' with
    | cons hc' h' =>
    cases h' with
    | cons hd h' =>
    cases h' with
    | cons he _ =>
    refine ⟨_, rfl, _, rfl, slA_same ea1 fun t2 H2 s2 e2 => ?_⟩
    have e2' : H2 t2 = some (.tup [xa, xb, xc, xd, xe]) := by
      rw [e2]
      refine congrArg (fun l => some (HO.tup l)) ?_
      unfold cutV
      rw [HT.sIx_none, show ((5 : Int)) = ((5 : Nat) : Int) from rfl, HT.sIx_nat, Nat.min_eq_left (by simp)]
      rfl
    have s02 := s1.trans s2
    refine ⟨t2, _, rfl, SqT.of e2', rfl, _, _, rfl, _, _, rfl, _, _, rfl, _, _, rfl, _, _, rfl, rfl, ?_⟩
    have q1 : ∀ H', Same H H' → Q (.bl (ta.within 0 30 && (tb.within 0 9999 && (tc.within 0 9999 && (td.within 0 3 && tailT fx.length ta.toI te (tf' :: tr)))))) H' := q
    clear q
    refine ⟨_, rfl, p, xa, ta, 0, 30, rfl, TgAt.same s02 _ _ ha, fun H3 s3 => ⟨_, rfl, ?_⟩⟩
    have s03 := s02.trans s3
    cases c1 : ta.within 0 30 with
    | false =>
      refine iteT ?_
      have h := q1 _ s03
      rw [c1] at h
      exact h
    | true =>
    refine iteF ?_
    rw [c1, Bool.true_and] at q1
    refine ⟨_, rfl, p, xb, tb, rfl, TgAt.same s03 _ _ hb, fun H4 s4 => ⟨_, rfl, ?_⟩⟩
    have s04 := s03.trans s4
    cases c2 : tb.within 0 9999 with
    | false =>
      refine iteT ?_
      have h := q1 _ s04
      rw [c2] at h
      exact h
    | true =>
    refine iteF ?_
    rw [c2, Bool.true_and] at q1
    refine ⟨_, rfl, p, xc, tc, rfl, TgAt.same s04 _ _ hc', fun H5 s5 => ⟨_, rfl, ?_⟩⟩
    have s05 := s04.trans s5
    cases c3 : tc.within 0 9999 with
    | false =>
      refine iteT ?_
      have h := q1 _ s05
      rw [c3] at h
      exact h
    | true =>
    refine iteF ?_
    rw [c3, Bool.true_and] at q1
    refine ⟨_, rfl, p, xd, td, 0, 3, rfl, TgAt.same s05 _ _ hd, fun H6 s6 => ⟨_, rfl, ?_⟩⟩
    have s06 := s05.trans s6
    cases c4 : td.within 0 3 with
    | false =>
      refine iteT ?_
      have h := q1 _ s06
      rw [c4] at h
      exact h
    | true =>
    refine iteF ?_
    rw [c4, Bool.true_and] at q1
    obtain ⟨num, rfl, _, _⟩ := Tg.within_int c1
    cases ha
    have he6 := TgAt.same s06 _ _ he
    have cut5 : ∀ xa' xb' xc' xd' xe' : V, cutV (xa' :: xb' :: xc' :: xd' :: xe' :: xf :: xr) (some (5 : Int)) none = xf :: xr := fun _ _ _ _ _ => by
      unfold cutV
      rw [HT.sIx_none, show ((5 : Int)) = ((5 : Nat) : Int) from rfl, HT.sIx_nat, Nat.min_eq_left (by simp)]
      show List.take _ (xf :: xr) = _
      rw [List.take_of_length_le (by simp)]
    refine ⟨_, rfl, _, rfl, he6.knd, _, rfl, ?_⟩
    by_cases cd : xe = .str "deed"
    · rw [decide_eq_true cd]
      refine iteT ?_
      rw [tailT_deed ((he.str_iff _).mp cd)] at q1
      refine ⟨_, rfl, _, rfl, _, rfl, _, rfl, ?_⟩
      dsimp only [tNoPart]
      refine slA_same (s06 _ _ ea) fun t7 H7 s7 e7 => ?_
      rw [cut5] at e7
      have s07 := s06.trans s7
      exact ⟨p, fa, t7, fx, _, _, num, rfl, s07 _ _ ef, e7, TgAll.same s07 _ _ htl, fun H8 s8 => q1 _ (s07.trans s8)⟩
    rw [decide_eq_false cd]
    refine iteF ?_
    have hnd : te ≠ .str "deed" := fun z => cd ((he.str_iff _).mpr z)
    refine ⟨_, rfl, a_ACT_WORDS, [("paid" : Str), "void", "undone"], rfl, .inr (AW.2 _), he6.knd, _, rfl, ?_⟩
    by_cases ca : xe ∈ ([("paid" : Str), "void", "undone"] : List Str).map V.str
    · simp only [Bool.false_eq_true, if_false]
      rw [decide_eq_true ca]
      refine iteT ?_
      obtain ⟨z, hz, hze⟩ := List.mem_map.mp ca
      have hte : te = .str z := (he.str_iff z).mp hze.symm
      rw [tailT_act hte (fun e => hnd (by rw [hte, e])) hz] at q1
      refine ⟨_, rfl, _, rfl, _, rfl, ?_⟩
      dsimp only [tNoPart]
      refine slA_same (s06 _ _ ea) fun t7 H7 s7 e7 => ?_
      rw [cut5] at e7
      have s07 := s06.trans s7
      exact ⟨p, t7, _, _, num, rfl, e7, TgAll.same s07 _ _ htl, fun H8 s8 => q1 _ (s07.trans s8)⟩
    · simp only [Bool.false_eq_true, if_false]
      rw [decide_eq_false ca]
      refine iteF ?_
      rw [tailT_no hnd fun z hz e => ca (List.mem_map.mpr ⟨z, hz, ((he.str_iff z).mpr e).symm⟩)] at q1
      exact q1 _ s06
end
end Deed

namespace Deed
open PySem PySem.Spec PyProof.Rows L2 LamX
theorem tup_at {p : Addr} {H : Hp} {xs : List V} {ts : List Tg} (h : TgAll p H xs ts) {i : Nat} {t : Tg} (ht : ts[i]? = some t) : ∃ x, xs[i]? = some x ∧ TgAt p H x t := by
  have hi : i < ts.length := (List.getElem?_eq_some_iff.mp ht).1
  have hi' : i < xs.length := by rw [h.length]; exact hi
  exact ⟨xs[i], List.getElem?_eq_getElem hi', h.at (List.getElem?_eq_getElem hi') ht⟩
theorem log_small {i : Int} (h : i.natAbs < 2 ^ 64) : i.natAbs.log2 < 1920 := by
  by_cases h0 : i.natAbs = 0
  · rw [h0]
    decide
  · have := (Nat.log2_lt h0).mpr h
    omega
theorem folk_tg {p : Addr} {H : Hp} {t : Addr} {n : Nat} (h : FolkAt H t n) (hn : n ≤ 300) : ∃ ts, TgAt p H (.ref t) (.tup ts) ∧ ts.length = n ∧ FitsN 3 (.tup ts) ∧ ts.all isPersonT = true := by
  obtain ⟨xs, e, hl, hp⟩ := h
  have key : ∀ xs : List V, (∀ x ∈ xs, PersonAt H x) → ∃ ts, TgAll p H xs ts ∧ (∀ t ∈ ts, FitsN 2 t) ∧ ts.all isPersonT = true := by
    intro xs
    induction xs with
    | nil => exact fun _ => ⟨[], .nil, ⟨fun _ h => (nomatch h), rfl⟩⟩
    | cons x r ih =>
      intro hx
      obtain ⟨ts, h1, h2, h3⟩ := ih fun y hy => hx y (List.mem_cons_of_mem _ hy)
      obtain ⟨a, b, d, rfl, ea, hb0, hb1, hd⟩ := hx x List.mem_cons_self
      obtain ⟨td, htd, hfd, hdd⟩ : ∃ td, TgAt p H d td ∧ FitsN 1 td ∧ diedT b td = true := by
        rcases hd with rfl | ⟨i, rfl, hi0, hi1⟩
        · exact ⟨.non, .non, trivial, rfl⟩
        · exact ⟨.int i, .int i, log_small (by omega), by show (decide (b + 1 ≤ i) && decide (i ≤ 9999)) = true; rw [decide_eq_true (by omega : b + 1 ≤ i), decide_eq_true hi1]; rfl⟩
      refine ⟨.tup [.int b, td] :: ts, .cons (.tup ea (.cons (.int b) (.cons htd .nil))) h1, fun u hu => ?_, ?_⟩
      rotate_left
      · rw [List.all_cons, h3, Bool.and_true]
        show ((decide (-9999 ≤ b) && decide (b ≤ 9999)) && diedT b td) = true
        rw [hdd, decide_eq_true hb0, decide_eq_true (by omega : b ≤ 9999)]
        rfl
      rcases List.mem_cons.mp hu with rfl | hu
      · refine ⟨by show 2 ≤ 300; decide, fun y hy => ?_⟩
        simp only [List.mem_cons, List.not_mem_nil, or_false] at hy
        rcases hy with rfl | rfl
        · exact log_small (by omega)
        · exact hfd
      · exact h2 u hu
  obtain ⟨ts, h1, h2, h3⟩ := key xs hp
  have hl2 := h1.length
  exact ⟨ts, .tup e h1, by omega, ⟨by omega, h2⟩, h3⟩
end Deed

namespace Deed
open PySem PySem.Spec PyProof.Rows L2
section
variable {X : Cx}
/-- x = {k: v for ..}, x an own name -/
theorem ps_setDc {i : Nat} {y : Str} {py : Pos} {kx vx tg iter : Expr} {ifs : List Expr} {scope : Scope} {own : List (Str × Nat)} {pos spos : Pos} {wi : TI} {g : TG} {tt : TT} {tk tv : TE} (cal : X.calm = true) (nd : X.N.Nodup) (yi : X.N[i]? = some y) (yl : X.env.scope.names.lookup y = some .local)
    (sw : swapsWith (.DictComp kx vx [⟨tg, iter, ifs, 0⟩] scope pos) (some (.Name y py)) spos.line X.env = pure true) (pi : PI X tg iter wi) (blk : BlkOk X.N X.env.scope scope own)
    (pg : ∀ (s : Shared) (H : Hp) (C : Addr) (cl : List (Str × Addr)) (fp : List Addr), PG (X.blk s H scope (compEnvC scope cl C X.env) fp) tg g) (pt : ∀ (s : Shared) (H : Hp) (C : Addr) (cl : List (Str × Addr)) (fp : List Addr), PTs (X.blk s H scope (compEnvC scope cl C X.env) fp) ifs tt)
    (pk : ∀ (s : Shared) (H : Hp) (C : Addr) (cl : List (Str × Addr)) (fp : List Addr), PE (X.blk s H scope (compEnvC scope cl C X.env) fp) kx tk) (pw : ∀ (s : Shared) (H : Hp) (C : Addr) (cl : List (Str × Addr)) (fp : List Addr), PE (X.blk s H scope (compEnvC scope cl C X.env) fp) vx tv)
    (fo : ∀ x, foldedSetIterable iter X.env x = pure x := by intro _; rfl) : PS X (.Assign [.Name y py] (.DictComp kx vx [⟨tg, iter, ifs, 0⟩] scope pos) spos) (tAsg (tDc wi g tt tk tv (own.map (·.2))) (gName i)) := by
  refine ⟨fun pins s σ H D I hh => ?_⟩
  rw [exec_Assign_Name_used _ _ _ _ sw]
  refine wpAny_bind (wpAny_standAt (wpAny_bind ?_))
  show wpAny _ X.A (do let _ ← comprehension (.DictComp kx vx [⟨tg, iter, ifs, 0⟩] scope pos) scope X.env (firstIterPos [⟨tg, iter, ifs, 0⟩] pos) newDict false (eval iter X.env) (some (assign (.Name y py) X.env))) _ _ s
  have ht : tDc wi g tt tk tv (own.map (·.2)) σ H (fun x H1 => gName i x σ H1 D.nx) := hh
  refine wpAny_bind (thn (dc_core (Qf := fun _ s' => SP X pins D .next s') cal nd I pi blk pg pt pk pw fo ht fun L C s1 m H1 I1 q nC fp => ?_) fun _ s2 hq => wpAny_pure (wpAny_pure hq))
  show wpAny _ _ (assign (.Name y py) X.env (.ref L)) _ _ _
  refine wpAny_assign_Name (store_ok2 (v := V.ref L) I1 nd yi (.inl yl) rfl (fun s2 I2 ⟨c, sb, hc⟩ => ?_) (.inr yl))
  obtain ⟨f0, f1, f2, f3, f4, f5⟩ := fp
  have nc : C ≠ c := by
    rcases hc with e | e
    · rw [e]
      exact f1
    · exact fun z => f4 y c e z.symm
  refine ⟨m, nC.sameBut sb nc, fun h3 sb3 => ⟨_, H1, ?_, q⟩⟩
  exact I2.turned (t' := s2.toks) (fun b o hb e => (sb3.2 b hb).trans e) f0 f1 f3 f4 f5
theorem swD_true {kx vx : Expr} {gs : List Comprehension} {scope : Scope} {pos py : Pos} {y : Str} {l : Nat} {env : Env} (fk : env.scope.kind = .function) (yl : env.scope.names.lookup y = some .local) (hl : (py.line == pos.line) = true)
    (no : (scope.names.any fun (n, k) => n == y && (k == .local || k == .cell)) = false) : swapsWith (.DictComp kx vx gs scope pos) (some (.Name y py)) l env = pure true := by
  have k1 : env.kindOf y = some .local := yl
  have k2 : env.blockKind = .function := by
    unfold Env.blockKind
    rw [fk]
    rfl
  unfold swapsWith
  simp only [k2, k1, no, Expr.pos, hl]
  rfl
end
end Deed

namespace Deed
open PySem PySem.Spec PyProof.Rows L2 LamX
/-! ### books, of whatever kind -/
theorem within_ints : ∀ {ts : List Tg} {lo hi : Int}, ts.all (Tg.within lo hi) = true → ts = (ts.map Tg.toI).map Tg.int
  | [], _, _, _ => rfl
  | t :: ts, lo, hi, h => by
    rw [List.all_cons, Bool.and_eq_true] at h
    obtain ⟨i, rfl, _⟩ := Tg.within_int h.1
    have := within_ints h.2
    rw [List.map_cons, List.map_cons, ← this]
    rfl
theorem entT_shape {n : Int} {t : Tg} (h : isEntT n t = true) : ∃ num b c d z f r, t = .tup (.int num :: b :: c :: d :: .str z :: f :: r) ∧ ((z = "deed" ∧ ∃ (g : Tg) (rs : List Int) (u : Tg), r = [g, .tup (rs.map Tg.int), u] ∧ rs.length ≤ 2) ∨ (z ≠ "deed" ∧ z ∈ [("paid" : Str), "void", "undone"] ∧ ∃ o, f = .int o ∧ r = [])) := by
  match t, h with
  | .tup (a :: b :: c :: d :: e :: f :: r), h =>
    have h' : (a.within 0 30 && (b.within 0 9999 && (c.within 0 9999 && (d.within 0 3 && tailT n a.toI e (f :: r))))) = true := h
    simp only [Bool.and_eq_true] at h'
    obtain ⟨h1, _, _, _, h5⟩ := h'
    obtain ⟨num, rfl, _⟩ := Tg.within_int h1
    match e, h5 with
    | .str z, h5 =>
      have h5' : (if z = "deed" then deedTailT n num (f :: r) else decide (z ∈ [("paid" : Str), "void", "undone"]) && actTailT num (f :: r)) = true := h5
      refine ⟨num, b, c, d, z, f, r, rfl, ?_⟩
      by_cases hz : z = "deed"
      · rw [if_pos hz] at h5'
        refine .inl ⟨hz, ?_⟩
        match r, h5' with
        | [g, tr, u], h5' =>
          have h6 : (f.within 0 (n - 1) && (g.within 0 (n - 1) && (!decide (f.toI = g.toI) && (risT 2 num tr && (risT 3 n u && (!hasI f.toI u && !hasI g.toI u)))))) = true := h5'
          simp only [Bool.and_eq_true] at h6
          have h7 := h6.2.2.2.1
          match tr, h7 with
          | .tup rs, h7 =>
            have h8 : (decide ((rs.length : Int) ≤ 2) && (rs.all (Tg.within 0 (num - 1)) && risI (rs.map Tg.toI))) = true := h7
            simp only [Bool.and_eq_true] at h8
            have h9 : (rs.length : Int) ≤ 2 := of_decide_eq_true h8.1
            exact ⟨g, rs.map Tg.toI, u, by rw [← within_ints h8.2.1], by rw [List.length_map]; omega⟩
      · rw [if_neg hz, Bool.and_eq_true] at h5'
        refine .inr ⟨hz, of_decide_eq_true h5'.1, ?_⟩
        match r, h5'.2 with
        | [], h6 =>
          have h7 : f.within 0 (num - 1) = true := h6
          obtain ⟨o, rfl, _⟩ := Tg.within_int h7
          exact ⟨o, rfl, rfl⟩
theorem TgAll.int_only {p : Addr} {H : Hp} : ∀ {rs : List Int} {xs : List V}, TgAll p H xs (rs.map Tg.int) → xs = rs.map V.int
  | [], _, h => by
    cases h
    rfl
  | i :: r, _, h => by
    cases h with
    | cons h1 h2 =>
      cases h1
      rw [TgAll.int_only h2]
      rfl
def numT : Tg → Int | .tup (a :: _) => a.toI | _ => 0
def wordT : Tg → Str | .tup (_ :: _ :: _ :: _ :: .str z :: _) => z | _ => ""
def ofT : Tg → Int | .tup (_ :: _ :: _ :: _ :: _ :: f :: _) => f.toI | _ => 0
def restsT : Tg → List Int | .tup (_ :: _ :: _ :: _ :: _ :: _ :: _ :: .tup rs :: _) => rs.map Tg.toI | _ => []
def wdT (ts : List Tg) : List (Key × V) := ts.foldl (fun kvs t => putK kvs (.inl (numT t)) (.str (wordT t))) []
def WdOk (kvs : List (Key × V)) : Prop := ∀ kv ∈ kvs, ∃ x, kv.2 = V.str x
theorem WdOk.put {kvs : List (Key × V)} (h : WdOk kvs) (k : Key) (x : Str) : WdOk (putK kvs k (.str x)) := by
  unfold putK
  split
  · intro kv hkv
    obtain ⟨kv', h1, rfl⟩ := List.mem_map.mp hkv
    split
    · exact ⟨x, rfl⟩
    · exact h kv' h1
  · intro kv hkv
    rcases List.mem_append.mp hkv with h1 | h1
    · exact h kv h1
    · rw [List.mem_singleton.mp h1]
      exact ⟨x, rfl⟩
theorem putK_len {kvs : List (Key × V)} {k : Key} {v : V} : (putK kvs k v).length ≤ kvs.length + 1 := by
  unfold putK
  split
  · rw [List.length_map]
    omega
  · rw [List.length_append]
    exact Nat.le_refl _
theorem wdT_ok : ∀ (ts : List Tg) (kvs : List (Key × V)), WdOk kvs → WdOk (ts.foldl (fun kvs t => putK kvs (.inl (numT t)) (.str (wordT t))) kvs)
  | [], _, h => h
  | t :: ts, kvs, h => wdT_ok ts _ (h.put _ _)
theorem wdT_len : ∀ (ts : List Tg) (kvs : List (Key × V)), (ts.foldl (fun kvs t => putK kvs (.inl (numT t)) (.str (wordT t))) kvs).length ≤ kvs.length + ts.length
  | [], _ => Nat.le_refl _
  | t :: ts, kvs => by
    have h1 := wdT_len ts (putK kvs (.inl (numT t)) (.str (wordT t)))
    have h2 := putK_len (kvs := kvs) (k := .inl (numT t)) (v := .str (wordT t))
    rw [List.foldl_cons, List.length_cons]
    omega
def getW (kvs : List (Key × V)) (r : Int) : V := (valV kvs (.inl r)).getD .non
theorem getW_or {kvs : List (Key × V)} (h : WdOk kvs) (r : Int) : getW kvs r = .non ∨ ∃ x, getW kvs r = .str x := by
  unfold getW valV
  cases hf : kvs.find? fun kv => decide (kv.1 = (Sum.inl r : Key)) with
  | none => exact .inl rfl
  | some kv =>
    obtain ⟨x, hx⟩ := h kv (List.mem_of_find?_eq_some hf)
    exact .inr ⟨x, hx⟩
theorem getW_scal {kvs : List (Key × V)} (h : WdOk kvs) (r : Int) (x : Str) : scal (getW kvs r) (.str x) = true := by
  rcases getW_or h r with e | ⟨y, e⟩ <;> rw [e] <;> rfl
theorem getW_knd {kvs : List (Key × V)} (h : WdOk kvs) (r : Int) (H : Hp) : Knd H (getW kvs r) := by
  rcases getW_or h r with e | ⟨y, e⟩ <;> rw [e]
  · exact .non
  · exact .str y
def fitT (kvs : List (Key × V)) (t : Tg) : Bool :=
  if wordT t = "deed" then (restsT t).all (fun r => decide (getW kvs r = .str "deed"))
  else if wordT t = "undone" then decide (getW kvs (ofT t) ∈ ([("paid" : Str), "void", "undone"] : List Str).map V.str)
  else decide (getW kvs (ofT t) = .str "deed")
def isBookT : Tg → Bool
  | .tup [f, a, .tup es] => isFolkT f && (a.within 0 9999 && (decide (es.length ≤ 16) && (es.all (isEntT (lenT f)) && (decide ((wdT es).length = es.length) && es.all (fitT (wdT es))))))
  | _ => false
section
variable {P : Program} {w : World} {K : PySem.W.Frag} {mg : Str → Option Value} {base : Heap}
abbrev sIsAgeG : Stmt := topS 16
abbrev nIsAgeG : List Str := ["thing"]
abbrev pIsAgeG : List Str := ["thing"]
theorem scIsAgeG : FnScope nIsAgeG pIsAgeG (defScope sIsAgeG) := ⟨rfl, rfl, rfl, by decide +kernel, rfl, by decide +kernel, by decide +kernel⟩
theorem ok_IsAgeG {f : Addr} {fd : FuncData} {k : Nat} (F : Fun K "is_age" "is_age" sIsAgeG f fd) (C_is_within : CallOk P w K mg base k "is_within" pIsWithin spWi) (iLAST_DAY : MgInt mg "LAST_DAY" 9999) : FnOk P w K mg base CX0 (k + 1) f fd pIsAgeG (spB1 (Tg.within 0 9999)) := by
  refine F.ok scIsAgeG (fun vs H Q E h => ?_) (fun cdv A outer s H vs Q E hr h => ?_)
  · obtain ⟨p, v, t, rfl, _⟩ := h
    rfl
  · obtain ⟨p, v, t, rfl, hT, q⟩ := h
    refine ⟨_, pss_one (ps_ret (pe_call C_is_within.ok hr (by rfl) C_is_within.g C_is_within.kp C_is_within.b .nil pass0 (pa_cons (pv 0) (pa_cons pe_int (pa_cons (pe_num (by rfl) iLAST_DAY) pa_nil))))), ?_⟩
    exact ⟨_, rfl, p, v, t, 0, 9999, rfl, hT, q⟩
abbrev sNFit : Stmt := topS 24
abbrev nNFit : List Str := ["words", "entry", "rest"]
abbrev pNFit : List Str := ["words", "entry"]
theorem scNFit : FnScope nNFit pNFit (defScope sNFit) := ⟨rfl, rfl, rfl, by decide +kernel, rfl, by decide +kernel, by decide +kernel⟩
def spNFit : Sp := fun vs H Q _ => ∃ (p wd : Addr) (kvs : List (Key × V)) (v : V) (t : Tg) (n : Int), vs = [.ref wd, v] ∧ H wd = some (.dK kvs) ∧ WdOk kvs ∧ TgAt p H v t ∧ isEntT n t = true ∧ ∀ H', Same H H' → Q (.bl (fitT kvs t)) H'
theorem ok_NFit {f : Addr} {fd : FuncData} {k : Nat} {aC : Addr} (F : Fun K "names_fit" "names_fit" sNFit f fd) (m_all : mg "all" = none) (mW : MgInt mg "WORD" 4) (mR : MgInt mg "RESTS" 7) (mO : MgInt mg "OF" 5) (AW : ActWG K mg aC) : FnOk P w K mg base CX0 (k + 1) f fd pNFit spNFit := by
  refine F.ok scNFit (fun vs H Q E h => ?_) (fun cdv A outer s H vs Q E hr h => ?_)
  · obtain ⟨p, wd, kvs, v, t, n, rfl, _⟩ := h
    rfl
  · obtain ⟨p, wd, kvs, v, t, n, rfl, ewd, hwd, hT, hent, q⟩ := h
    have nd := scNFit.nd
    have hu := hu_of hr
    have gC := AW.1
    refine ⟨_, pss_cons (ps_if (pt_cmpR op_eq (pe_ix ix_tup (pv 1) (pe_num (by rfl) mW) (fun _ _ => rfl)) pe_str (nomark _)) (pss_one (ps_ret (pe_callB (cr_all rfl) (by rfl) m_all (by decide +kernel) (pa_cons (pe_lc (own := [("rest", 2)]) (g := gName 2) (by rfl) nd (pi_tup (pe_ix ix_tup (pv 1) (pe_num (by rfl) mR) (fun _ _ => rfl))) (blkOk_by (own := [("rest", 2)]) (N := nNFit) (sc := defScope sNFit) (by decide +kernel)) (fun _ _ _ _ _ => pg_name (i := 2) nd rfl (Or.inl rfl)) (fun _ _ _ _ _ => pts_nil)
          (fun _ _ _ _ _ => show PE _ _ (tOp rEq (tDGet1 (tVar 0) (tVar 2)) (tC (.str "deed"))) from pe_cmpR op_eq (pe_dget1 hu (pv 0) (pv 2) ⟨rfl, rfl, rfl, rfl⟩) pe_str (nomark _))) pa_nil)))) pss_nil)
      (pss_cons (ps_if (pt_cmpR op_eq (pe_ix ix_tup (pv 1) (pe_num (by rfl) mW) (fun _ _ => rfl)) pe_str (nomark _)) (pss_one (ps_ret (pe_cmpR (op_inTS hr.units) (pe_dget1 hu (pv 0) (pe_ix ix_tup (pv 1) (pe_num (by rfl) mO) (fun _ _ => rfl)) ⟨rfl, rfl, rfl, rfl⟩) (show PE _ _ (tC (.ref aC)) from pe_glob (by rfl) gC rfl) (by rfl)))) pss_nil)
      (pss_one (ps_ret (pe_cmpR op_eq (pe_dget1 hu (pv 0) (pe_ix ix_tup (pv 1) (pe_num (by rfl) mO) (fun _ _ => rfl)) ⟨rfl, rfl, rfl, rfl⟩) pe_str (nomark _))))), ?_⟩
    obtain ⟨num, b, c, d, z, ff, r, rfl, hsh⟩ := entT_shape hent
    obtain ⟨a, xs, ts, rfl, ets, ea, hts⟩ := hT.tupOf rfl
    injection ets with ets
    subst ets
    obtain ⟨xz, gz, hz4⟩ := tup_at hts (i := 4) rfl
    obtain ⟨xf, gf, hf5⟩ := tup_at hts (i := 5) rfl
    cases hz4
    refine ⟨_, rfl, a, xs, 4, _, rfl, rfl, SqT.of ea, atI_nat (j := 4) gz, rfl, _, rfl, ?_⟩
    have q1 : ∀ H', Same H H' → Q (.bl (if z = "deed" then (restsT (.tup (.int num :: b :: c :: d :: .str z :: ff :: r))).all (fun r => decide (getW kvs r = .str "deed")) else if z = "undone" then decide (getW kvs ff.toI ∈ ([("paid" : Str), "void", "undone"] : List Str).map V.str) else decide (getW kvs ff.toI = .str "deed"))) H' := q
    rcases hsh with ⟨rfl, g, rs, u, rfl, hrl⟩ | ⟨hnd, hza, o, rfl, rfl⟩
    · rw [show decide (V.str "deed" = V.str "deed") = true from decide_eq_true rfl]
      refine iteT ?_
      simp only [if_true] at q1
      obtain ⟨xr, gr, hr7⟩ := tup_at hts (i := 7) rfl
      obtain ⟨ra, rxs, rts, rfl, erts, era, hrts⟩ := hr7.tupOf rfl
      injection erts with erts
      subst erts
      have hrx : rxs = rs.map V.int := TgAll.int_only hrts
      subst hrx
      have q2 : ∀ H', Same H H' → Q (.bl (rs.all (fun r => decide (getW kvs r = .str "deed")))) H' := by
        have e : restsT (.tup [.int num, b, c, d, .str "deed", ff, g, .tup (rs.map Tg.int), u]) = rs := by
          show (rs.map Tg.int).map Tg.toI = rs
          rw [List.map_map]
          exact List.map_id'' (fun _ => rfl) rs
        rw [e] at q1
        exact q1
      refine ⟨_, rfl, a, xs, 7, _, rfl, rfl, SqT.of ea, atI_nat (j := 7) gr, ra, rfl, ⟨_, SqT.of era⟩, fun M nM => ?_⟩
      refine lc_sameM (walk_tup (xs := rs.map V.int)) rs (fun y => .bl (decide (getW kvs y = .str "deed"))) (by rw [List.length_map]) (by omega) nM (fun H s => SqT.of (s _ _ era)) ?_ ?_
      · rintro i y x H2' H2 hy s2 ⟨rfl, hx⟩ Q1 q1'
        rw [List.getElem?_map, hy] at hx
        injection hx with hx
        subst hx
        exact ⟨rfl, _, rfl, wd, rfl, .inl ⟨_, .inl (s2 _ _ ewd)⟩, _, rfl, _, DGet.k (k := Sum.inl y) (s2 _ _ ewd), getW_scal hwd y _, q1' _ (same_refl _)⟩
      intro H2 s2 eM
      refine ⟨M, rs.map (fun r => decide (getW kvs r = .str "deed")), rfl, SqL.of (by rw [eM, List.map_map]; rfl), ?_⟩
      rw [all_map_id]
      exact q2 _ s2
    · rw [show decide (V.str z = V.str "deed") = false from decide_eq_false fun e => hnd (by injection e)]
      refine iteF ?_
      rw [if_neg hnd] at q1
      cases hf5
      have q2 := q1 H (same_refl _)
      refine ⟨_, rfl, a, xs, 4, _, rfl, rfl, SqT.of ea, atI_nat (j := 4) gz, rfl, _, rfl, ?_⟩
      by_cases hun : z = "undone"
      · rw [show decide (V.str z = V.str "undone") = true from decide_eq_true (by rw [hun])]
        refine iteT ?_
        rw [if_pos hun] at q2
        refine ⟨_, rfl, wd, rfl, .inl ⟨_, .inl ewd⟩, _, rfl, a, xs, 5, _, rfl, rfl, SqT.of ea, atI_nat (j := 5) gf, _, DGet.k (k := Sum.inl o) ewd, aC, [("paid" : Str), "void", "undone"], rfl, .inr (AW.2 _), getW_knd hwd o _, ?_⟩
        simp only [Bool.false_eq_true, if_false]
        exact q2
      · rw [show decide (V.str z = V.str "undone") = false from decide_eq_false fun e => hun (by injection e)]
        refine iteF ?_
        rw [if_neg hun] at q2
        exact ⟨_, rfl, wd, rfl, .inl ⟨_, .inl ewd⟩, _, rfl, a, xs, 5, _, rfl, rfl, SqT.of ea, atI_nat (j := 5) gf, _, DGet.k (k := Sum.inl o) ewd, getW_scal hwd o _, q2⟩
end
end Deed

namespace Deed
open PySem PySem.Spec PyProof.Rows L2 LamX
/-! entries as things; what an entry more is -/
def entT (e : En) : Tg := match e.kd with
  | .deed g t rs ws => .tup [.int e.num, .int e.day, .int e.wri, .int e.hand, .str "deed", .int g, .int t, .tup (rs.map Tg.int), .tup (ws.map Tg.int)]
  | .act x o => .tup [.int e.num, .int e.day, .int e.wri, .int e.hand, .str x, .int o]
theorem EntAt.tg {p : Addr} {H : Hp} {a : Addr} {e : En} (h : EntAt H a e) : TgAt p H (.ref a) (entT e) := by
  unfold EntAt at h
  unfold entT
  cases hkd : e.kd with
  | deed g t rs ws =>
    rw [hkd] at h
    obtain ⟨r, w, h1, h2, h3⟩ := h
    exact .tup h1 (.cons (.int _) (.cons (.int _) (.cons (.int _) (.cons (.int _) (.cons (.str _) (.cons (.int _) (.cons (.int _) (.cons (.tup h2 (TgAll.ints rs)) (.cons (.tup h3 (TgAll.ints ws)) .nil)))))))))
  | act x o =>
    rw [hkd] at h
    exact .tup h (.cons (.int _) (.cons (.int _) (.cons (.int _) (.cons (.int _) (.cons (.str _) (.cons (.int _) .nil))))))
theorem all_int (lo hi : Int) (rs : List Int) : ((rs.map Tg.int).all (Tg.within lo hi) = true) ↔ ∀ r ∈ rs, lo ≤ r ∧ r ≤ hi := by
  rw [List.all_map, List.all_eq_true]
  constructor
  · intro h r hr
    have := h r hr
    simp only [Function.comp_apply, Tg.within, Bool.and_eq_true, decide_eq_true_eq] at this
    exact this
  · intro h r hr
    simp only [Function.comp_apply, Tg.within, Bool.and_eq_true, decide_eq_true_eq]
    exact h r hr
theorem toI_int (rs : List Int) : (rs.map Tg.int).map Tg.toI = rs := by
  rw [List.map_map]
  exact (List.map_congr_left fun _ _ => rfl).trans (List.map_id _)
theorem risT_int {m l : Int} {rs : List Int} : (risT m l (.tup (rs.map Tg.int)) = true) ↔ (rs.length : Int) ≤ m ∧ (∀ r ∈ rs, 0 ≤ r ∧ r ≤ l - 1) ∧ rs.Pairwise (· < ·) := by
  unfold risT
  rw [Bool.and_eq_true, Bool.and_eq_true, all_int, toI_int, risI_iff, decide_eq_true_eq, List.length_map]
/-- an entry as is_entry asks -/
def EntOk (n : Nat) (e : En) : Prop := (0 ≤ e.num ∧ e.num ≤ 30) ∧ (0 ≤ e.day ∧ e.day ≤ 9999) ∧ (0 ≤ e.wri ∧ e.wri ≤ 9999) ∧ (0 ≤ e.hand ∧ e.hand ≤ 3) ∧ match e.kd with
  | .deed g t rs ws => (0 ≤ g ∧ g ≤ (n : Int) - 1) ∧ (0 ≤ t ∧ t ≤ (n : Int) - 1) ∧ g ≠ t ∧ ((rs.length : Int) ≤ 2 ∧ (∀ r ∈ rs, 0 ≤ r ∧ r ≤ e.num - 1) ∧ rs.Pairwise (· < ·)) ∧ ((ws.length : Int) ≤ 3 ∧ (∀ r ∈ ws, 0 ≤ r ∧ r ≤ (n : Int) - 1) ∧ ws.Pairwise (· < ·)) ∧ g ∉ ws ∧ t ∉ ws
  | .act x o => x ∈ [("paid" : Str), "void", "undone"] ∧ (0 ≤ o ∧ o ≤ e.num - 1)
theorem isEntT_iff {n : Nat} {e : En} (hx : ∀ x o, e.kd = .act x o → x ≠ "deed") : (isEntT n (entT e) = true) ↔ EntOk n e := by
  unfold entT EntOk
  cases hk : e.kd with
  | deed g t rs ws =>
    show ((Tg.int e.num).within 0 30 && ((Tg.int e.day).within 0 9999 && ((Tg.int e.wri).within 0 9999 && ((Tg.int e.hand).within 0 3 && deedTailT n e.num [.int g, .int t, .tup (rs.map Tg.int), .tup (ws.map Tg.int)])))) = true ↔ _
    have hw : ∀ x, (hasI x (.tup (ws.map Tg.int))) = decide (x ∈ ws) := fun x => by
      show decide (x ∈ (ws.map Tg.int).map Tg.toI) = _
      rw [toI_int]
    show ((Tg.int e.num).within 0 30 && ((Tg.int e.day).within 0 9999 && ((Tg.int e.wri).within 0 9999 && ((Tg.int e.hand).within 0 3 && ((Tg.int g).within 0 ((n : Int) - 1) && ((Tg.int t).within 0 ((n : Int) - 1) && (!decide (g = t) && (risT 2 e.num (.tup (rs.map Tg.int)) && (risT 3 n (.tup (ws.map Tg.int)) && (!hasI g (.tup (ws.map Tg.int)) && !hasI t (.tup (ws.map Tg.int)))))))))))) = true ↔ _
    simp only [Bool.and_eq_true, Tg.within, decide_eq_true_eq, risT_int, hw, Bool.not_eq_true', decide_eq_false_iff_not, ne_eq]
  | act x o =>
    have hne := hx x o hk
    show ((Tg.int e.num).within 0 30 && ((Tg.int e.day).within 0 9999 && ((Tg.int e.wri).within 0 9999 && ((Tg.int e.hand).within 0 3 && (if x = "deed" then deedTailT n e.num [.int o] else decide (x ∈ [("paid" : Str), "void", "undone"]) && actTailT e.num [.int o]))))) = true ↔ _
    rw [if_neg hne]
    unfold actTailT
    simp only [Bool.and_eq_true, Tg.within, decide_eq_true_eq]
/-- an act may be of what is no less than it -/
def EnWk (n : Nat) (ds as : List Int) (e : En) : Prop := match e.kd with
  | .deed _ _ rs _ => ∀ r ∈ rs, r ∈ ds
  | .act x o => (x = "undone" ∧ o ∈ as) ∨ ((x = "paid" ∨ x = "void") ∧ o ∈ ds)
theorem EnOk.wk {n : Nat} {ds as : List Int} {e : En} (h : EnOk n ds as e) : EnWk n ds as e := by
  unfold EnOk at h
  unfold EnWk
  obtain ⟨_, _, _, d⟩ := h
  cases hk : e.kd with
  | deed g t rs ws =>
    rw [hk] at d
    exact fun r hr => (d.2.2.2.2.2.1 r hr).1
  | act x o =>
    rw [hk] at d
    exact d.1
theorem EnWk.neD {n : Nat} {ds as : List Int} {e : En} (h : EnWk n ds as e) : ∀ x o, e.kd = .act x o → x ≠ "deed" := fun x o hk z => by
  unfold EnWk at h
  rw [hk, z] at h
  rcases h with ⟨h, _⟩ | ⟨h | h, _⟩ <;> exact absurd h (by decide)
theorem EnWk.word {n : Nat} {ds as : List Int} {e : En} (h : EnWk n ds as e) : e.word = "deed" ↔ e.isDeed = true := by
  unfold En.word En.isDeed
  cases hk : e.kd with
  | deed g t rs ws => exact ⟨fun _ => rfl, fun _ => rfl⟩
  | act x o => exact ⟨fun z => absurd z (h.neD x o hk), fun z => nomatch z⟩
/-- as few names -/
theorem EnOk.entOk {n : Nat} {ds as : List Int} {e : En} (h : EnOk n ds as e) (hn : 0 ≤ e.num ∧ e.num ≤ 30) (hd : ∀ d ∈ ds, 0 ≤ d) (ha : ∀ d ∈ as, 0 ≤ d) : EntOk n e := by
  unfold EnOk at h
  unfold EntOk
  obtain ⟨a, b, c, d⟩ := h
  refine ⟨hn, a, b, c, ?_⟩
  cases hk : e.kd with
  | deed g t rs ws =>
    rw [hk] at d
    obtain ⟨d1, d2, d3, d4, d5, d6, d7, d8, d9⟩ := d
    exact ⟨⟨d1.1, by omega⟩, ⟨d2.1, by omega⟩, d3, ⟨by omega, fun r hr => ⟨hd r (d6 r hr).1, by have := (d6 r hr).2; omega⟩, d5⟩, ⟨by omega, fun r hr => ⟨(d9 r hr).1, by have := (d9 r hr).2.1; omega⟩, d8⟩, fun z => (d9 g z).2.2.1 rfl, fun z => (d9 t z).2.2.2 rfl⟩
  | act x o =>
    rw [hk] at d
    refine ⟨?_, ?_, by omega⟩
    · rcases d.1 with ⟨z, _⟩ | ⟨z | z, _⟩ <;> rw [z] <;> decide
    · rcases d.1 with ⟨_, z⟩ | ⟨_, z⟩
      · exact ha o z
      · exact hd o z
theorem EntOk.enOk {n : Nat} {ds as : List Int} {e : En} (h : EntOk n e) (hd : ∀ r ∈ e.rests, r ∈ ds) (ha : e.isDeed = false → (e.word = "undone" ∧ e.of ∈ as) ∨ ((e.word = "paid" ∨ e.word = "void") ∧ e.of ∈ ds)) : EnOk n ds as e := by
  unfold EntOk at h
  unfold EnOk
  obtain ⟨_, a, b, c, d⟩ := h
  refine ⟨a, b, c, ?_⟩
  unfold En.rests at hd
  unfold En.isDeed En.word En.of at ha
  cases hk : e.kd with
  | deed g t rs ws =>
    rw [hk] at d hd
    obtain ⟨d1, d2, d3, ⟨d4, d5, d6⟩, ⟨d7, d8, d9⟩, d10, d11⟩ := d
    exact ⟨⟨d1.1, by omega⟩, ⟨d2.1, by omega⟩, d3, by omega, d6, fun r hr => ⟨hd r hr, by have := (d5 r hr).2; omega⟩, by omega, d9, fun x hx => ⟨(d8 x hx).1, by have := (d8 x hx).2; omega, fun z => d10 (z ▸ hx), fun z => d11 (z ▸ hx)⟩⟩
  | act x o =>
    rw [hk] at d ha
    exact ⟨ha rfl, by omega⟩
end Deed

namespace Deed
open PySem PySem.Spec PyProof.Rows L2 LamX RZ
/-! ### whether names fit -/
abbrev wdk (es : List En) : List (Key × V) := es.map fun e => (Sum.inl e.num, V.str e.word)
theorem valV_none {α : Type} {f : α → Int} {g : α → V} {l : List α} {r : Int} (h : ∀ z ∈ l, f z ≠ r) : valV (l.map fun z => ((Sum.inl (f z) : Key), g z)) (.inl r) = none := by
  induction l with
  | nil => rfl
  | cons y l ih =>
    show Option.map (·.2) (List.find? (fun kv => decide (kv.1 = (Sum.inl r : Key))) ((Sum.inl (f y), g y) :: l.map fun z => ((Sum.inl (f z) : Key), g z))) = _
    rw [List.find?_cons]
    have hne : ¬ (Sum.inl (f y) : Key) = Sum.inl r := fun q => h y List.mem_cons_self (Sum.inl.inj q)
    rw [decide_eq_false hne]
    exact ih fun z hz => h z (List.mem_cons_of_mem _ hz)
structure EsOk (es : List En) : Prop where
  nd : (es.map (·.num)).Nodup
  wd : ∀ e ∈ es, (e.word = "deed" ↔ e.isDeed = true)
  aw : ∀ e ∈ es, e.isDeed = false → e.word ∈ ([("paid" : Str), "void", "undone"] : List Str)
theorem num_one {es : List En} (nd : (es.map (·.num)).Nodup) {u v : En} (hu : u ∈ es) (hv : v ∈ es) (e : u.num = v.num) : u = v := by
  induction es with
  | nil => cases hu
  | cons x l ih =>
    have h2 := List.nodup_cons.mp (show (x.num :: l.map (·.num)).Nodup from nd)
    rcases List.mem_cons.mp hu with h1 | h1
    · rcases List.mem_cons.mp hv with h3 | h3
      · rw [h1, h3]
      · exact absurd (show x.num ∈ l.map (·.num) from List.mem_map.mpr ⟨v, h3, by rw [← e, h1]⟩) h2.1
    · rcases List.mem_cons.mp hv with h3 | h3
      · exact absurd (show x.num ∈ l.map (·.num) from List.mem_map.mpr ⟨u, h1, by rw [e, h3]⟩) h2.1
      · exact ih h2.2 h1 h3
theorem get_deed {es : List En} (h : EsOk es) (r : Int) : decide ((valV (wdk es) (.inl r)).getD .non = V.str "deed") = decide (r ∈ dn es) := by
  by_cases hr : ∃ u ∈ es, u.num = r
  · obtain ⟨u, hu, rfl⟩ := hr
    rw [valV_map (f := fun e : En => e.num) (g := fun e : En => V.str e.word) h.nd hu]
    refine decide_eq_decide.mpr ⟨fun z => ?_, fun z => ?_⟩
    · injection z with z
      exact mem_dn.mpr ⟨u, hu, (h.wd u hu).mp z, rfl⟩
    · obtain ⟨v, hv, hd, e⟩ := mem_dn.mp z
      have := num_one h.nd hv hu e
      subst this
      show V.str v.word = V.str "deed"
      rw [(h.wd v hv).mpr hd]
  · rw [valV_none (f := fun e : En => e.num) (g := fun e : En => V.str e.word) fun z hz e => hr ⟨z, hz, e⟩]
    refine decide_eq_decide.mpr ⟨fun z => (by cases z), fun z => ?_⟩
    obtain ⟨v, hv, _, e⟩ := mem_dn.mp z
    exact absurd ⟨v, hv, e⟩ hr
theorem mem_an' {es : List En} {r : Int} : r ∈ an es ↔ ∃ u ∈ es, u.isDeed = false ∧ u.num = r := by
  unfold an
  rw [List.mem_map]
  constructor
  · rintro ⟨u, hu, e⟩
    obtain ⟨h1, h2⟩ := List.mem_filter.mp hu
    exact ⟨u, h1, by simpa using h2, e⟩
  · rintro ⟨u, hu, hd, e⟩
    exact ⟨u, List.mem_filter.mpr ⟨hu, by simp [hd]⟩, e⟩
theorem get_act {es : List En} (h : EsOk es) (r : Int) : inV ((valV (wdk es) (.inl r)).getD .non) [V.str "paid", V.str "void", V.str "undone"] = decide (r ∈ an es) := by
  by_cases hr : ∃ u ∈ es, u.num = r
  · obtain ⟨u, hu, rfl⟩ := hr
    rw [valV_map (f := fun e : En => e.num) (g := fun e : En => V.str e.word) h.nd hu]
    refine (mem_inS (x := u.word) (ws := ["paid", "void", "undone"])).trans (decide_eq_decide.mpr ⟨fun z => ?_, fun z => ?_⟩)
    · refine mem_an'.mpr ⟨u, hu, ?_, rfl⟩
      cases hd : u.isDeed with
      | false => rfl
      | true =>
        rw [(h.wd u hu).mpr hd] at z
        exact absurd z (by decide +kernel)
    · obtain ⟨v, hv, hd, e⟩ := mem_an'.mp z
      have := num_one h.nd hv hu e
      subst this
      exact h.aw v hv hd
  · rw [valV_none (f := fun e : En => e.num) (g := fun e : En => V.str e.word) fun z hz e => hr ⟨z, hz, e⟩]
    have : ¬ r ∈ an es := fun z => by
      obtain ⟨v, hv, _, e⟩ := mem_an'.mp z
      exact hr ⟨v, hv, e⟩
    rw [decide_eq_false this]
    rfl
end Deed

namespace Deed
open PySem PySem.Spec PyProof.Rows L2 LamX
def fitE (es : List En) (e : En) : Bool := if e.isDeed = true then e.rests.all (fun r => decide (r ∈ dn es)) else if e.word = "undone" then decide (e.of ∈ an es) else decide (e.of ∈ dn es)
theorem BkOk.esOk {n : Nat} {es : List En} (h : BkOk n es) : EsOk es := by
  refine ⟨h.nd, fun e he => (h.ok e he).word, fun e he hd => ?_⟩
  have h4 := (h.ok e he).2.2.2
  unfold En.isDeed at hd
  unfold En.word
  cases hk : e.kd with
  | deed g t rs ws => rw [hk] at hd; cases hd
  | act x o =>
    rw [hk] at h4
    rcases h4.1 with ⟨z, _⟩ | ⟨z | z, _⟩ <;> (show x ∈ _; rw [z]; decide)
theorem wordT_ent (e : En) : wordT (entT e) = e.word := by
  unfold entT En.word
  cases e.kd <;> rfl
theorem restsT_ent {e : En} (h : e.isDeed = true) : restsT (entT e) = e.rests := by
  unfold entT En.rests
  unfold En.isDeed at h
  cases hk : e.kd with
  | deed g t rs ws => exact toI_int rs
  | act x o => rw [hk] at h; cases h
theorem ofT_ent {e : En} (h : e.isDeed = false) : ofT (entT e) = e.of := by
  unfold entT En.of
  unfold En.isDeed at h
  cases hk : e.kd with
  | deed g t rs ws => rw [hk] at h; cases h
  | act x o => rfl
theorem numT_ent (e : En) : numT (entT e) = e.num := by
  unfold entT
  cases e.kd <;> rfl
theorem wdk_ok (es : List En) : WdOk (wdk es) := fun kv hkv => by
  obtain ⟨e, _, rfl⟩ := List.mem_map.mp hkv
  exact ⟨_, rfl⟩
theorem fitT_ent {es : List En} (hs : EsOk es) {e : En} (hw : e.word = "deed" ↔ e.isDeed = true) : fitT (wdk es) (entT e) = fitE es e := by
  unfold fitT fitE
  rw [wordT_ent]
  cases hd : e.isDeed with
  | true =>
    rw [if_pos (hw.mpr hd), if_pos rfl, restsT_ent hd]
    congr 1
    funext r
    exact get_deed hs r
  | false =>
    rw [if_neg (fun z => by rw [hw.mp z] at hd; cases hd), if_neg (show ¬ (false = true) by decide), ofT_ent hd]
    by_cases hu : e.word = "undone"
    · rw [if_pos hu, if_pos hu, ← get_act hs e.of]
      show decide (getW (wdk es) e.of ∈ ([("paid" : Str), "void", "undone"] : List Str).map V.str) = inV (getW (wdk es) e.of) (([("paid" : Str), "void", "undone"] : List Str).map V.str)
      rcases getW_or (wdk_ok es) e.of with z | ⟨x, z⟩ <;> rw [z]
      · exact (decide_eq_false (by simp)).trans (by rfl)
      · rw [mem_inS]
        exact decide_eq_decide.mpr ⟨fun q => by
          obtain ⟨y, hy, e⟩ := List.mem_map.mp q
          injection e with e
          exact e ▸ hy, fun q => List.mem_map.mpr ⟨x, q, rfl⟩⟩
    · rw [if_neg hu, if_neg hu]
      exact get_deed hs e.of
theorem dn_app (es : List En) (e : En) : dn (es ++ [e]) = dn es ++ (if e.isDeed = true then [e.num] else []) := by
  unfold dn
  rw [List.filter_append, List.map_append, List.filter_cons]
  cases e.isDeed <;> rfl
theorem an_app (es : List En) (e : En) : an (es ++ [e]) = an es ++ (if e.isDeed = true then [] else [e.num]) := by
  unfold an
  rw [List.filter_append, List.map_append, List.filter_cons]
  cases e.isDeed <;> rfl
/-- what a good entry more names is there already -/
theorem more_names {n : Nat} {es : List En} {e : En} (h : BkOk n (es ++ [e])) : (∀ r ∈ e.rests, r ∈ dn es) ∧ (e.isDeed = false → (e.word = "undone" ∧ e.of ∈ an es) ∨ ((e.word = "paid" ∨ e.word = "void") ∧ e.of ∈ dn es)) := by
  have h4 := (h.ok e (by simp)).2.2.2
  have ne : ∀ {r : Int}, r < e.num → r ∈ dn (es ++ [e]) → r ∈ dn es := fun {r} hl hr => by
    rw [dn_app] at hr
    rcases List.mem_append.mp hr with h | h
    · exact h
    · cases hd : e.isDeed with
      | true =>
        rw [hd, if_pos rfl] at h
        have := List.mem_singleton.mp h
        omega
      | false =>
        rw [hd, if_neg (by decide)] at h
        cases h
  have na : ∀ {r : Int}, r < e.num → r ∈ an (es ++ [e]) → r ∈ an es := fun {r} hl hr => by
    rw [an_app] at hr
    rcases List.mem_append.mp hr with h | h
    · exact h
    · cases hd : e.isDeed with
      | false =>
        rw [hd, if_neg (by decide)] at h
        have := List.mem_singleton.mp h
        omega
      | true =>
        rw [hd, if_pos rfl] at h
        cases h
  unfold En.rests En.isDeed En.word En.of
  cases hk : e.kd with
  | deed g t rs ws =>
    rw [hk] at h4
    exact ⟨fun r hr => ne (h4.2.2.2.2.2.1 r hr).2 (h4.2.2.2.2.2.1 r hr).1, fun z => nomatch z⟩
  | act x o =>
    rw [hk] at h4
    refine ⟨fun r hr => (nomatch hr), fun _ => ?_⟩
    rcases h4.1 with ⟨z, ho⟩ | ⟨z, ho⟩
    · exact .inl ⟨z, na h4.2 ho⟩
    · exact .inr ⟨z, ne h4.2 ho⟩
theorem BkOk.less {n : Nat} {es : List En} {e : En} (h : BkOk n (es ++ [e])) : EntOk n e ∧ e.num ∉ es.map (·.num) ∧ (e.word = "deed" ↔ e.isDeed = true) ∧ fitE es e = true := by
  have he : e ∈ es ++ [e] := by simp
  have hr := h.rng e he
  have hdn : ∀ d ∈ dn (es ++ [e]), 0 ≤ d := fun d hd => by
    obtain ⟨u, hu, _, rfl⟩ := mem_dn.mp hd
    exact (h.rng u hu).1
  have han : ∀ d ∈ an (es ++ [e]), 0 ≤ d := fun d hd => by
    obtain ⟨u, hu, _, rfl⟩ := mem_an.mp hd
    exact (h.rng u hu).1
  refine ⟨(h.ok e he).entOk hr hdn han, ?_, (h.ok e he).word, ?_⟩
  · have nd := h.nd
    rw [List.map_append, List.map_cons, List.map_nil] at nd
    intro z
    exact (List.nodup_append.mp nd).2.2 _ z _ (by simp) rfl
  · obtain ⟨m1, m2⟩ := more_names h
    unfold fitE
    cases hd : e.isDeed with
    | true =>
      rw [if_pos rfl, List.all_eq_true]
      exact fun r hr => decide_eq_true (m1 r hr)
    | false =>
      rw [if_neg (by decide)]
      rcases m2 hd with ⟨z, ho⟩ | ⟨z, ho⟩
      · rw [if_pos z]
        exact decide_eq_true ho
      · rw [if_neg (fun q => by rcases z with z | z <;> (rw [z] at q; exact absurd q (by decide)))]
        exact decide_eq_true ho
theorem wdk_snoc {es : List En} {e : En} (h : e.num ∉ es.map (·.num)) : putK (wdk es) (.inl e.num) (.str e.word) = wdk (es ++ [e]) := by
  rw [putK_new]
  · rw [show wdk (es ++ [e]) = wdk es ++ [(Sum.inl e.num, V.str e.word)] from List.map_append]
  · intro z
    obtain ⟨kv, hkv, e2⟩ := List.mem_map.mp z
    obtain ⟨u, hu, rfl⟩ := List.mem_map.mp hkv
    exact h (List.mem_map.mpr ⟨u, hu, Sum.inl.inj e2⟩)
end Deed

namespace Deed
open PySem PySem.Spec PyProof.Rows L2 LamX
section
variable {P : Program} {w : World} {K : PySem.W.Frag} {mg : Str → Option Value} {base : Heap} {T : List (Addr × Str)}
def spWithE : Sp := fun vs H Q _ => ∃ (b fk t a : Addr) (n : Nat) (age : Int) (zs : List (Addr × En)) (e : En), vs = [.ref b, .ref a] ∧ BookAt H b fk t n age zs ∧ EntAt H a e ∧ BkOk n (ens zs ++ [e]) ∧ zs.length < 16 ∧ ∀ b' t' H', Same H H' → BookAt H' b' fk t' n age (zs ++ [(a, e)]) → Q (.ref b') H'
def spNamedIn : Sp := fun vs H Q _ => ∃ (a : Addr) (e : En), vs = [.ref a] ∧ EntAt H a e ∧ (e.word = "deed" ↔ e.isDeed = true) ∧ ∀ l H', Same H H' → H' l = some (.tup (e.names.map V.int)) → Q (.ref l) H'
end
end Deed

namespace Deed
open PySem PySem.Spec PyProof.Rows L2 LamX
section
variable {P : Program} {w : World} {K : PySem.W.Frag} {mg : Str → Option Value} {base : Heap} {T : List (Addr × Str)} {fW fA : Addr} {dW dA : FuncData}
def spCkDeed (T : List (Addr × Str)) : Sp := fun vs H Q _ => ∃ (b fk t : Addr) (n : Nat) (age : Int) (zs : List (Addr × En)) (e : En), vs = [.ref b, .int e.num] ∧ BookAt H b fk t n age zs ∧ Tabs T H ∧ e ∈ ens zs ∧ e.isDeed = true ∧ ∀ H', ExtN H H' → Tabs T H' → Q .non H'
end
end Deed

namespace Deed
open PySem PySem.Spec PyProof.Rows L2 LamX
section
variable {P : Program} {w : World} {K : PySem.W.Frag} {mg : Str → Option Value} {base : Heap} {T : List (Addr × Str)} {fCk fAl : Addr} {dCk dAl : FuncData}
abbrev pStOf : List Str := ["book", "deed", "d", "k"]
def spStOf (T : List (Addr × Str)) : Sp := fun vs H Q _ => ∃ (b fk t : Addr) (n : Nat) (age : Int) (zs : List (Addr × En)) (e : En) (d k : Int), vs = [.ref b, .int e.num, .int d, .int k] ∧ BookAt H b fk t n age zs ∧ Tabs T H ∧ e ∈ ens zs ∧ e.isDeed = true ∧ (0 ≤ d ∧ d ≤ 9999) ∧ (0 ≤ k ∧ k ≤ 9999) ∧
  ∀ H', ExtN H H' → Tabs T H' → Q (.str (st (ens zs) d k e)) H'
end
end Deed

namespace Deed
open PySem PySem.Spec PyProof.Rows L2 LamX
/-! ### refusals: promises of defs that may raise; a def that calls what it got and tells what was raised -/
section
variable {P : Program} {w : World} {K : PySem.W.Frag} {mg : Str → Option Value} {base : Heap} {k : Nat} {f : Addr} {fd : FuncData} {ps : List Str} {sp sp' : Sp}
theorem FnOk.toX (F : FnOk P w K mg base L2.CX0 k f fd ps sp) : FnOk P w K mg base (L2.CX P w) k f fd ps sp :=
  ⟨F.len, fun A outer s H args us vs Q E hr he hb hv hs => codeAny_mono (F.run A outer s H args us vs Q E hr he hb hv hs) fun r s' hq => by
    cases r with
    | error e => exact (show False from hq).elim
    | ok fl => cases fl <;> exact hq⟩
def orSp (a b : Sp) : Sp := fun vs H Q E => a vs H Q E ∨ b vs H Q E
theorem FnOk.or {CX : CXT} (F : FnOk P w K mg base CX k f fd ps sp) (G : FnOk P w K mg base CX k f fd ps sp') : FnOk P w K mg base CX k f fd ps (orSp sp sp') :=
  ⟨fun vs H Q E h => h.elim (F.len vs H Q E) (G.len vs H Q E), fun A outer s H args us vs Q E hr he hb hv hs => hs.elim (F.run A outer s H args us vs Q E hr he hb hv) (G.run A outer s H args us vs Q E hr he hb hv)⟩
end
/-- an own class of refusals over ValueError, made with a text -/
structure ExcCl (K : PySem.W.Frag) (mg : Str → Option Value) (x : Str) (C : Addr) : Prop where
  xP : PySem.W.excIn K C [.type "ValueError", .type "Exception", .type "BaseException", .type "object"] "ValueError.__new__" = true
  gP : mg x = some (.ref C)
  kP : PySem.W.keepIn K (.ref C) = true
  bP : PySem.W.subIn K (.ref C) (.type "BaseException") = some true
  tP : PySem.W.typeIn K (.ref C) = some (.type "type")
  eP : PySem.W.exmOne K (.ref C) (.ref C) = some true
/-- a def that may raise -/
structure CallX (P : Program) (w : World) (K : PySem.W.Frag) (mg : Str → Option Value) (base : Heap) (L : Nat) (x : Str) (ps : List Str) (sp : Sp) where
  f : Addr
  fd : FuncData
  g : mg x = some (.ref f)
  kp : PySem.W.keepIn K (.ref f) = true
  b : Binds K fd ps []
  ok : FnOk P w K mg base (L2.CX P w) L f fd ps sp
def CallX.mono {P : Program} {w : World} {K : PySem.W.Frag} {mg : Str → Option Value} {base : Heap} {L L' : Nat} {x : Str} {ps : List Str} {sp : Sp} (c : CallX P w K mg base L x ps sp) (h : L ≤ L') : CallX P w K mg base L' x ps sp := ⟨c.f, c.fd, c.g, c.kp, c.b, c.ok.mono h⟩
def Df.callX {P : Program} {w : World} {K : PySem.W.Frag} {mg : Str → Option Value} {base : Heap} {L : Nat} {x : Str} {st : Stmt} {ps : List Str} {f : Addr} {fd : FuncData} {sp : Sp} (D : Df K mg x st ps f fd) (G : FnOk P w K mg base (L2.CX P w) L f fd ps sp) : CallX P w K mg base L x ps sp := ⟨f, fd, D.g, D.F.kp, D.b, G⟩
/-- the words for what is raised, class by class -/
def chain (K : PySem.W.Frag) (Q : VK) : List (Addr × Str) → XK
  | [] => fun _ _ _ => False
  | (C, z) :: r => fun cls d H => ∃ b, PySem.W.exmOne K cls (.ref C) = some b ∧ (b = true → Q (.str z) H) ∧ (b = false → chain K Q r cls d H)
def TWhy (K : PySem.W.Frag) (l : List (Addr × Str)) (ret : Str) : (XK → Hp → VK → Prop) → Hp → VK → Prop := fun tl H Q => tl (chain K Q l) H (fun _ H' => Q (.str ret) H')
theorem chain_many {K : PySem.W.Frag} {Q : VK} {D : Ends} (hD : D.rt = Q) : ∀ {l : List (Addr × Str)} {cls : Value} {d : Option Addr} {σ : L2.St} {H : Hp}, chain K Q l cls d H → wMany K (fun _ _ _ _ => False) D (l.map fun p => (Value.ref p.1, fun _ _ _ => tRet (tC (.str p.2)))) cls d σ H
  | [], _, _, _, _, h => h
  | (C, z) :: r, cls, d, σ, H, h => by
    obtain ⟨b, e1, e2, e3⟩ := h
    exact ⟨b, e1, fun hb a _ => by
      show D.rt (.str z) H
      rw [hD]
      exact e2 hb, fun hb => chain_many hD (e3 hb)⟩
section
variable {X : Cx}
theorem why_gives {Ng : List Str} {x a q ret : Str} {sg : Scope} {g : Addr} {cdg : Value} {j : Nat} {p1 p2 p3 p5 p6 p8 : Pos} {h0 : ExceptHandler} {hds : List ExceptHandler} {l : List (Addr × Str)} (hst : ∀ f : Addr, (L2.start Ng [V.ref f])[0]? = some (some (V.ref f)))
    (hh : ∀ s H, HdsOk (cxOf C8.CX0 X.prog X.w X.K X.mg X.base Ng x sg g cdg X.A X.stack s H C8.E0).nox (h0 :: hds) (l.map fun p => (Value.ref p.1, fun _ _ _ => tRet (tC (.str p.2))))) :
    GivesTo X Ng x sg g cdg [.Try [.Expr (.Call (.Name a p1) [] [] p2) p3] (h0 :: hds) [] [] p8, .Return (some (.Constant (.str ret) j p5)) p6] a q (TWhy X.K l ret) := by
  intro f c' s H Q tl act hc h
  refine ⟨_, pss_cons (ps_try_many (X := (cxOf C8.CX0 X.prog X.w X.K X.mg X.base Ng x sg g cdg X.A X.stack s H C8.E0).nox) (Wout := fun _ _ _ _ => False) (l := l.map fun p => (Value.ref p.1, fun _ _ _ => tRet (tC (.str p.2))))
      (tb := fun W D σ H => ∃ Ech : XK, (∀ cls d σ' H', Ech cls d H' → W cls d σ' H') ∧ σ[0]? = some (some (.ref f)) ∧ H c' = some (CodeO c' q) ∧ tl Ech H (fun _ H' => D.nx σ H'))
      rfl rfl LamX.takes0 (fun W pn xe tk _ => ?_) (hh s H)) (pss_one (ps_ret pe_str)), ?_⟩
  · refine ⟨fun pins s' σ H' D I h' => ?_⟩
    obtain ⟨Ech, hW, h1, h2, h3⟩ := h'
    have hp := act W pn xe Ech p1 p2 tk hW
    have hq := pss_one (ps_expr (pos := p3) hp)
    exact hq.run pins s' σ H' D I ⟨h1, h2, h3⟩
  · exact ⟨chain X.K Q l, fun cls d σ' H' hc => chain_many rfl hc, hst f, hc, h⟩
end
mutual
theorem TgAt.ext {p : Addr} {H H' : Hp} (k : ExtN H H') : ∀ (t : Tg) (v : V), TgAt p H v t → TgAt p H' v t
  | .non, _, h => by cases h; exact .non
  | .bl _, _, h => by cases h; exact .bl _
  | .int _, _, h => by cases h; exact .int _
  | .str _, _, h => by cases h; exact .str _
  | .lst, _, h => by
    cases h with
    | lst n e => exact .lst n (k _ _ e fun _ z => by cases z)
  | .tup ts, _, h => by
    cases h with
    | tup e ha => exact .tup (k _ _ e fun _ z => by cases z) (TgAll.ext k ts _ ha)
  | .dct, _, h => by
    cases h with
    | dct n e => exact .dct n (k _ _ e fun _ z => by cases z)
theorem TgAll.ext {p : Addr} {H H' : Hp} (k : ExtN H H') : ∀ (ts : List Tg) (vs : List V), TgAll p H vs ts → TgAll p H' vs ts
  | [], _, h => by cases h; exact .nil
  | t :: ts, _, h => by
    cases h with
    | cons h1 h2 => exact .cons (TgAt.ext k t _ h1) (TgAll.ext k ts _ h2)
end
end Deed

namespace TX
open PySem PySem.Spec PyProof.Rows L2 TL
/-! ### numbers written and read -/
abbrev intT (i : Int) : Str := PySem.Str.ofString (toString i)
def intL : Int → List Nat
  | .ofNat n => numL n
  | .negSucc n => 45 :: numL (n + 1)
theorem tl_int : ∀ i : Int, tl (intT i) = intL i
  | .ofNat n => tl_num n
  | .negSucc n => by
    show (PySem.Str.ofString ("-" ++ Nat.repr (n + 1))).cps.toList = 45 :: numL (n + 1)
    rw [PyProof.Rows.signs_ofString, String.toList_append, List.map_append, Nat.toList_repr]
    rfl
def sgn (c : Nat) : Prop := c = 45 ∨ (48 ≤ c ∧ c ≤ 57)
theorem intL_sgn : ∀ (i : Int) (c : Nat), c ∈ intL i → sgn c
  | .ofNat n, c, h => .inr (numL_digits n c h)
  | .negSucc n, c, h => by
    rcases List.mem_cons.mp h with rfl | h
    · exact .inl rfl
    · exact .inr (numL_digits (n + 1) c h)
theorem intL_ne : ∀ i : Int, intL i ≠ []
  | .ofNat n => numL_ne n
  | .negSucc n => List.cons_ne_nil _ _
theorem intL_dash : ∀ i : Int, intL i ≠ [45]
  | .ofNat n => fun h => by
    have := numL_digits n 45 (by show 45 ∈ intL (.ofNat n); rw [h]; exact List.mem_singleton.mpr rfl)
    omega
  | .negSucc n => fun h => by
    injection h with _ h
    exact numL_ne _ h
theorem intL_free {i : Int} {s : Nat} (h : s ≠ 45) (h2 : s < 48 ∨ 57 < s) : s ∉ intL i := fun hm => by
  rcases intL_sgn i s hm with h3 | h3 <;> omega
theorem intL_len : ∀ {i : Int} {k : Nat}, 0 < k → i.natAbs < 10 ^ k → (intL i).length ≤ k + 1
  | .ofNat n, k, hk, h => Nat.le_succ_of_le (numL_len hk h)
  | .negSucc n, k, hk, h => Nat.succ_le_succ (numL_len hk h)
theorem reads : ∀ {i : Int}, i.natAbs < 10 ^ 30 → PySem.intText? (intT i) = some i
  | .ofNat n, h => int_num (Nat.le_trans (numL_len (by decide) h) (by decide))
  | .negSucc n, h => by
    have hl : (numL (n + 1)).length ≤ 30 := numL_len (by decide) h
    have e := PySem.intText_neg (x := intT (.negSucc n)) (cs := numL (n + 1)) (tl_int _) (numL_digits _) (numL_ne _) (by
      rw [len_tl, tl_int]
      show (numL (n + 1)).length + 1 ≤ 4300
      omega)
    rw [numL_val] at e
    exact e
/-! ### texts of numbers, told by their signs -/
def figL (l : List Nat) : List Nat := if l[0]? = some 45 then l.drop 1 else l
def numOk (l : List Nat) : Bool := (decide (1 ≤ (figL l).length) && decide ((figL l).length ≤ 40)) && ((figL l).all fun c => decide (48 ≤ c) && decide (c ≤ 57)) && (decide ((figL l)[0]? ≠ some 48) || decide (l = [48]))
theorem starts1 (x : Str) (c : Nat) : Txt.startswith x ⟨#[c]⟩ = decide ((tl x)[0]? = some c) := by
  have h := PySem.StrLaws.subAt_one x c 0
  rw [Bool.eq_iff_iff, decide_eq_true_eq]
  refine Iff.trans ?_ h
  show ((decide (0 + (⟨#[c]⟩ : Str).length ≤ x.length) && Builtin.Str.subAt x ⟨#[c]⟩ 0) = true) ↔ _
  rw [Bool.and_eq_true, decide_eq_true_eq]
theorem tl_cut1 (x : Str) : tl (cutS x (some 1) none) = (tl x).drop 1 := by
  show ((x.cps.toList.drop (HT.sIx x.length 0 (some 1))).take (HT.sIx x.length x.length none - HT.sIx x.length 0 (some 1))) = x.cps.toList.drop 1
  have e : HT.sIx x.length x.length none = x.length := rfl
  have e1 : HT.sIx x.length 0 (some 1) = min 1 x.length := by
    simp [HT.sIx]
  rw [e, e1]
  have hl : x.cps.toList.length = x.length := by rw [len_tl]
  rcases Nat.lt_or_ge x.length 1 with h | h
  · rw [List.eq_nil_of_length_eq_zero (l := x.cps.toList) (by omega)]
    simp
  · rw [Nat.min_eq_left h, List.take_of_length_le]
    rw [List.length_drop]
    omega
theorem figL_num (n : Nat) : figL (numL n) = numL n := by
  unfold figL
  rw [if_neg]
  intro h
  have := numL_digits n 45 (List.mem_of_getElem? h)
  omega
/-- no digits more than asked for -/
theorem numL_first : ∀ n : Nat, (numL n)[0]? = some 48 → n = 0 := by
  intro n
  induction n using Nat.strongRecOn with
  | _ n ih =>
    intro h
    by_cases hn : n < 10
    · rw [numL_lt hn] at h
      injection h with h
      omega
    · rw [numL_step (by omega), List.getElem?_append_left (List.length_pos_iff.mpr (numL_ne _))] at h
      have := ih (n / 10) (by omega) h
      omega
theorem numOk_int : ∀ {i : Int}, i.natAbs < 10 ^ 30 → numOk (intL i) = true
  | .ofNat n, h => by
    have hl : (numL n).length ≤ 30 := numL_len (by decide) h
    have h0 := List.length_pos_iff.mpr (numL_ne n)
    unfold numOk
    rw [show intL (.ofNat n) = numL n from rfl, figL_num, decide_eq_true (by omega), decide_eq_true (show (numL n).length ≤ 40 by omega)]
    have ha : ((numL n).all fun c => decide (48 ≤ c) && decide (c ≤ 57)) = true := List.all_eq_true.mpr fun c hc => by
      have := numL_digits n c hc
      rw [decide_eq_true this.1, decide_eq_true this.2]
      rfl
    rw [ha]
    by_cases h1 : (numL n)[0]? = some 48
    · rw [numL_first n h1]
      decide
    · rw [decide_eq_true h1]
      rfl
  | .negSucc n, h => by
    have hl : (numL (n + 1)).length ≤ 30 := numL_len (by decide) h
    have h0 := List.length_pos_iff.mpr (numL_ne (n + 1))
    have hf : figL (intL (.negSucc n)) = numL (n + 1) := rfl
    unfold numOk
    rw [hf, decide_eq_true (by omega), decide_eq_true (show (numL (n + 1)).length ≤ 40 by omega)]
    have ha : ((numL (n + 1)).all fun c => decide (48 ≤ c) && decide (c ≤ 57)) = true := List.all_eq_true.mpr fun c hc => by
      have := numL_digits (n + 1) c hc
      rw [decide_eq_true this.1, decide_eq_true this.2]
      rfl
    rw [ha, decide_eq_true (p := (numL (n + 1))[0]? ≠ some 48) (fun h1 => absurd (numL_first _ h1) (by omega))]
    rfl
end TX

namespace TX
open PySem PySem.Spec PyProof.Rows L2 TL
/-! ### numbers of whatever length, told by their signs -/
def digsOk (l : List Nat) : Bool := l.all fun c => decide (48 ≤ c) && decide (c ≤ 57)
def numA (l : List Nat) : Bool := (decide (figL l ≠ []) && digsOk (figL l)) && (decide ((figL l)[0]? ≠ some 48) || decide (l = [48]))
theorem numOk_A (l : List Nat) : numOk l = (numA l && decide ((figL l).length ≤ 40)) := by
  unfold numOk numA digsOk
  have e : decide (figL l ≠ []) = decide (1 ≤ (figL l).length) := by
    rw [Bool.eq_iff_iff, decide_eq_true_eq, decide_eq_true_eq]
    exact ⟨fun h => List.length_pos_iff.mpr h, fun h => List.length_pos_iff.mp h⟩
  rw [e]
  cases decide (1 ≤ (figL l).length) <;> cases decide ((figL l).length ≤ 40) <;> cases ((figL l).all fun c => decide (48 ≤ c) && decide (c ≤ 57)) <;> simp
def valL (l : List Nat) : Nat := l.foldl (fun acc c => acc * 10 + (c - 48)) 0
theorem valL_snoc (l : List Nat) (c : Nat) : valL (l ++ [c]) = valL l * 10 + (c - 48) := by
  unfold valL
  rw [List.foldl_append]
  rfl
theorem digs_iff {l : List Nat} : digsOk l = true ↔ ∀ c ∈ l, 48 ≤ c ∧ c ≤ 57 := by
  unfold digsOk
  rw [List.all_eq_true]
  constructor
  · intro h c hc
    have := h c hc
    simpa using this
  · intro h c hc
    have := h c hc
    simpa using this
/-- canonical figures are their value's -/
theorem numL_valL : ∀ (n : Nat) (l : List Nat), l.length = n → l ≠ [] → (∀ c ∈ l, 48 ≤ c ∧ c ≤ 57) → (l[0]? ≠ some 48 ∨ l = [48]) → numL (valL l) = l ∧ (l[0]? ≠ some 48 → 0 < valL l) := by
  intro n
  induction n with
  | zero => exact fun l hl hn => absurd (List.eq_nil_of_length_eq_zero hl) hn
  | succ n ih =>
    intro l hl hn hd hz
    obtain ⟨r, c, rfl⟩ : ∃ r c, l = r ++ [c] := ⟨l.dropLast, l.getLast hn, (List.dropLast_concat_getLast hn).symm⟩
    have hc := hd c (List.mem_append_right _ (List.mem_singleton.mpr rfl))
    by_cases hr : r = []
    · subst hr
      have e : valL ([] ++ [c]) = c - 48 := by
        show 0 * 10 + (c - 48) = c - 48
        omega
      rw [e, numL_lt (by omega)]
      refine ⟨?_, fun h => ?_⟩
      · rw [show 48 + (c - 48) = c by omega]
        rfl
      · have : c ≠ 48 := fun z => h (by rw [z]; rfl)
        omega
    · have hl' : r.length = n := by
        rw [List.length_append] at hl
        exact Nat.succ.inj hl
      have h0 : (r ++ [c])[0]? = r[0]? := List.getElem?_append_left (List.length_pos_iff.mpr hr)
      have hz' : r[0]? ≠ some 48 := by
        rcases hz with h | h
        · rw [h0] at h
          exact h
        · exfalso
          have := congrArg List.length h
          rw [List.length_append] at this
          exact hr (by simpa using this)
      obtain ⟨i1, i2⟩ := ih r hl' hr (fun x hx => hd x (List.mem_append_left _ hx)) (.inl hz')
      have hp := i2 hz'
      rw [valL_snoc]
      refine ⟨?_, fun _ => by omega⟩
      have hv : 10 ≤ valL r * 10 + (c - 48) := by omega
      rw [numL_step hv, show (valL r * 10 + (c - 48)) / 10 = valL r by omega, i1, show 48 + (valL r * 10 + (c - 48)) % 10 = c by omega]
theorem num_intL {l : List Nat} (h : numA l = true) : ∃ i : Int, l = intL i := by
  unfold numA at h
  rw [Bool.and_eq_true, Bool.and_eq_true, Bool.or_eq_true, decide_eq_true_eq, decide_eq_true_eq, decide_eq_true_eq, digs_iff] at h
  obtain ⟨⟨h1, h2⟩, h3⟩ := h
  by_cases hm : l[0]? = some 45
  · have ef : figL l = l.drop 1 := by unfold figL; rw [if_pos hm]
    obtain ⟨r, rfl⟩ : ∃ r, l = 45 :: r := by
      cases l with
      | nil => cases hm
      | cons a r =>
        injection hm with hm
        exact ⟨r, by rw [hm]⟩
    rw [ef] at h1 h2 h3
    have e1 : (45 :: r).drop 1 = r := rfl
    rw [e1] at h1 h2 h3
    have h4 : r[0]? ≠ some 48 := by
      rcases h3 with h | h
      · exact h
      · cases h
    obtain ⟨i1, i2⟩ := numL_valL _ r rfl h1 h2 (.inl h4)
    have hp := i2 h4
    refine ⟨.negSucc (valL r - 1), ?_⟩
    show 45 :: r = 45 :: numL (valL r - 1 + 1)
    rw [show valL r - 1 + 1 = valL r by omega, i1]
  · have ef : figL l = l := by unfold figL; rw [if_neg hm]
    rw [ef] at h1 h2 h3
    exact ⟨.ofNat (valL l), (numL_valL _ l rfl h1 h2 h3).1.symm⟩
theorem numA_int : ∀ i : Int, numA (intL i) = true
  | .ofNat n => by
    unfold numA
    rw [show intL (.ofNat n) = numL n from rfl, figL_num, decide_eq_true (numL_ne n), digs_iff.mpr (numL_digits n)]
    by_cases h1 : (numL n)[0]? = some 48
    · rw [numL_first n h1]
      decide
    · rw [decide_eq_true h1]
      rfl
  | .negSucc n => by
    have hf : figL (intL (.negSucc n)) = numL (n + 1) := rfl
    unfold numA
    rw [hf, decide_eq_true (numL_ne _), digs_iff.mpr (numL_digits _), decide_eq_true (p := (numL (n + 1))[0]? ≠ some 48) (fun h1 => absurd (numL_first _ h1) (by omega))]
    rfl
theorem num_iff {x : Str} : numA (tl x) = true ↔ ∃ i : Int, x = intT i := by
  constructor
  · intro h
    obtain ⟨i, e⟩ := num_intL h
    exact ⟨i, ext_tl (by rw [e, tl_int])⟩
  · rintro ⟨i, rfl⟩
    rw [tl_int]
    exact numA_int i
theorem reads_any : ∀ {i : Int}, (intT i).length ≤ 4300 → PySem.intText? (intT i) = some i
  | .ofNat n, h => int_num (by rw [len_tl, tl_int] at h; exact h)
  | .negSucc n, h => by
    have e := PySem.intText_neg (x := intT (.negSucc n)) (cs := numL (n + 1)) (tl_int _) (numL_digits _) (numL_ne _) h
    rw [numL_val] at e
    exact e
theorem intL_inj {i j : Int} (h : intL i = intL j) : i = j := by
  cases i with
  | ofNat n => cases j with
    | ofNat m => rw [numL_inj h]
    | negSucc m =>
      exfalso
      have := numL_digits n 45 (by show 45 ∈ intL (.ofNat n); rw [h]; exact List.mem_cons_self)
      omega
  | negSucc n => cases j with
    | ofNat m =>
      exfalso
      have := numL_digits m 45 (by show 45 ∈ intL (.ofNat m); rw [← h]; exact List.mem_cons_self)
      omega
    | negSucc m =>
      injection h with _ h
      have := numL_inj h
      rw [show n = m by omega]
theorem intT_inj {i j : Int} (h : intT i = intT j) : i = j := intL_inj (by rw [← tl_int, h, tl_int])
/-- in at most forty figures -/
def fit40 (i : Int) : Prop := (figL (intL i)).length ≤ 40
theorem numOk_iff {x : Str} : numOk (tl x) = true ↔ ∃ i : Int, x = intT i ∧ fit40 i := by
  rw [numOk_A, Bool.and_eq_true, decide_eq_true_eq]
  constructor
  · rintro ⟨h1, h2⟩
    obtain ⟨i, rfl⟩ := num_iff.mp h1
    rw [tl_int] at h2
    exact ⟨i, rfl, h2⟩
  · rintro ⟨i, rfl, h⟩
    rw [tl_int]
    exact ⟨numA_int i, h⟩
theorem all_ints {ws : List Str} (h : ∀ w ∈ ws, ∃ i : Int, w = intT i) : ∃ ns : List Int, ws = ns.map intT := by
  induction ws with
  | nil => exact ⟨[], rfl⟩
  | cons w r ih =>
    obtain ⟨ns, e⟩ := ih fun z hz => h z (List.mem_cons_of_mem _ hz)
    obtain ⟨i, rfl⟩ := h w List.mem_cons_self
    exact ⟨i :: ns, by rw [e]; rfl⟩
theorem map_intT_inj : ∀ {l m : List Int}, l.map intT = m.map intT → l = m
  | [], [], _ => rfl
  | [], _ :: _, h => by cases h
  | _ :: _, [], h => by cases h
  | a :: l, b :: m, h => by
    rw [List.map_cons, List.map_cons] at h
    injection h with h1 h2
    rw [intT_inj h1, map_intT_inj h2]
theorem fit40_small {i : Int} (h : i.natAbs < 10 ^ 30) : fit40 i := by
  have := numOk_int h
  rw [numOk_A, Bool.and_eq_true, decide_eq_true_eq] at this
  exact this.2
end TX

namespace Deed
open PySem PySem.Spec PyProof.Rows L2 LamX TL TX
theorem lt1 (a b : Nat) : decide ([a] < [b]) = decide (a < b) := by
  rw [Bool.eq_iff_iff, decide_eq_true_eq, decide_eq_true_eq, List.cons_lt_cons_iff]
  simp
theorem strE (x : Str) (l : List Nat) : decide (V.str x = V.str ⟨l.toArray⟩) = decide (tl x = l) := by
  rw [Bool.eq_iff_iff, decide_eq_true_eq, decide_eq_true_eq]
  constructor
  · intro h
    injection h with h
    rw [h]
  · intro h
    rw [← h, mk_tl]
section
variable {P : Program} {w : World} {K : PySem.W.Frag} {mg : Str → Option Value} {base : Heap} {T : List (Addr × Str)}
/-! ### texts of numbers -/
abbrev sIsNumT : Stmt := topS 35
abbrev nIsNumT : List Str := ["text", "figures", "sign"]
abbrev pIsNumT : List Str := ["text"]
theorem scIsNumT : FnScope nIsNumT pIsNumT (defScope sIsNumT) := ⟨rfl, rfl, rfl, by decide +kernel, rfl, by decide +kernel, by decide +kernel⟩
def spIsNumT : Sp := fun vs H Q _ => ∃ x : Str, vs = [.str x] ∧ x.length ≤ 999 ∧ ∀ H', Same H H' → Q (.bl (numOk (tl x))) H'
theorem ok_IsNumT {f : Addr} {fd : FuncData} {k : Nat} (F : Fun K "is_number_text" "is_number_text" sIsNumT f fd) (m_len : mg "len" = none) (m_all : mg "all" = none) (iMOST_FIGURES : MgInt mg "MOST_FIGURES" 40) : FnOk P w K mg base CX0 (k + 1) f fd pIsNumT spIsNumT := by
  refine F.ok scIsNumT (fun vs H Q E h => ?_) (fun cdv A outer s H vs Q E hr h => ?_)
  · obtain ⟨x, rfl, _⟩ := h
    rfl
  · obtain ⟨x, rfl, hl, q⟩ := h
    have nd := scIsNumT.nd
    refine ⟨_, C8.pss_cut (ps_set (i := 1) nd rfl (.inl rfl) (pe_ifExp (pt_val (pe_bm PySem.F.plainAttrs_str PySem.F.slot_str_startswith PySem.F.type_str_startswith mt_startswith (pv 0) (pa_cons pe_str pa_nil))) (pe_slice sl_str (pv 0) (po_some pe_int) po_none) (pv 0)))
      (pss_cons (ps_if (pt_not (pt_chain op_le op_le pe_int (pe_callB call_len_str (by rfl) m_len (by decide +kernel) (pa_cons (pv 1) pa_nil)) (pe_num (by rfl) iMOST_FIGURES))) (pss_one (ps_ret pe_bl)) pss_nil)
      (pss_cons (ps_if (pt_not (pt_val (pe_callB (cr_all rfl) (by rfl) m_all (by decide +kernel) (pa_cons (pe_lc (own := [("sign", 2)]) (g := gName 2) (by rfl) nd (pi_str (pv 1)) (blkOk_by (own := [("sign", 2)]) (N := nIsNumT) (sc := defScope sIsNumT) (by decide +kernel)) (fun _ _ _ _ _ => (pg_name (i := 2) nd rfl (.inl rfl))) (fun _ _ _ _ _ => pts_nil)
          (fun _ _ _ _ _ => (pe_chain op_le_str op_le_str pe_str (pv 2) pe_str))) pa_nil)))) (pss_one (ps_ret pe_bl)) pss_nil)
      (pss_one (ps_ret (pe_or (pe_cmpR op_ne (pe_ix ix_str (pv 1) pe_int (fun _ _ => rfl)) pe_str (nomark _)) (pe_one (pe_cmpR op_eq (pv 0) pe_str (nomark _)))))))), ?_⟩
    refine ⟨fun σ' H' => ∃ y : Str, σ' = [some (.str x), some (.str y), none] ∧ H = H' ∧ tl y = figL (tl x) ∧ y.length ≤ 999, ?_, ?_⟩
    · refine ⟨_, rfl, rfl, x, _, rfl, rfl, _, rfl, ?_⟩
      rw [show ("-" : Str) = ⟨#[45]⟩ by decide +kernel, starts1]
      refine ite2 (fun c => ?_) (fun c => ?_)
      · refine ⟨_, rfl, _, rfl, ?_⟩
        dsimp only [tNoPart]
        refine ⟨x, rfl, Nat.le_trans hl (by show 999 ≤ sizeLine; decide), _, rfl, rfl, ?_, Nat.le_trans (cutS_length _ _ _) hl⟩
        rw [tl_cut1]
        unfold figL
        rw [if_pos (of_decide_eq_true c)]
      · refine ⟨_, rfl, _, rfl, rfl, ?_, hl⟩
        unfold figL
        rw [if_neg (of_decide_eq_false (Bool.eq_false_iff.mpr c))]
    rintro _ _ ⟨y, rfl, rfl, hy, hyl⟩
    have eyl : y.length = (figL (tl x)).length := by rw [len_tl, hy]
    refine ⟨_, rfl, y, rfl, Nat.le_trans hyl (by show 999 ≤ sizeLine; decide), ?_⟩
    unfold numOk at q
    by_cases h1 : 1 ≤ y.length
    · refine ⟨_, _, rfl, rfl, _, rfl, ?_⟩
      rw [decide_eq_true (show (1 : Int) ≤ (y.length : Int) by omega), if_pos rfl]
      refine ⟨_, _, rfl, rfl, _, rfl, ?_⟩
      by_cases h2 : y.length ≤ 40
      · rw [decide_eq_true (show (y.length : Int) ≤ 40 by omega)]
        refine iteF ?_
        rw [decide_eq_true (show 1 ≤ (figL (tl x)).length by omega), decide_eq_true (show (figL (tl x)).length ≤ 40 by omega)] at q
        refine ⟨_, rfl, y, rfl, fun M nM => ?_⟩
        refine lc_sameM (walk_str (z := y)) (tl y) (fun c => .bl (decide (48 ≤ c) && decide (c ≤ 57))) (by rw [Array.length_toList]) (by rw [← len_tl]; omega) nM (fun _ _ => True.intro) ?_ ?_
        · rintro i c v H3 H4 hc s3 ⟨rfl, c', hc', rfl⟩ Q1 q1
          rw [Array.getElem?_toList] at hc
          rw [hc] at hc'
          injection hc' with hc'
          subst hc'
          refine ⟨rfl, _, rfl, _, _, rfl, rfl, _, rfl, ?_⟩
          have q2 := q1 _ (same_refl _)
          rw [show (("0" : Str).cps.toList) = [48] by decide +kernel]
          show if (!decide ([c] < [48])) = true then _ else _
          rw [lt1]
          by_cases g1 : 48 ≤ c
          · rw [decide_eq_false (show ¬ c < 48 by omega)]
            rw [decide_eq_true g1] at q2
            refine iteT ?_
            refine ⟨_, _, rfl, rfl, ?_⟩
            show Q1 (.bl (!decide ((("9" : Str).cps.toList) < [c]))) _
            rw [show (("9" : Str).cps.toList) = [57] by decide +kernel, lt1]
            by_cases g2 : c ≤ 57
            · rw [decide_eq_false (show ¬ 57 < c by omega)]
              rw [decide_eq_true g2] at q2
              exact q2
            · rw [decide_eq_true (show 57 < c by omega)]
              rw [decide_eq_false g2] at q2
              exact q2
          · rw [decide_eq_true (show c < 48 by omega)]
            rw [decide_eq_false g1] at q2
            exact iteF q2
        intro H2 s2 eM
        refine ⟨M, (tl y).map (fun c => decide (48 ≤ c) && decide (c ≤ 57)), rfl, SqL.of (by rw [eM, List.map_map]; rfl), _, rfl, ?_⟩
        rw [show ((tl y).map fun c => decide (48 ≤ c) && decide (c ≤ 57)).all id = (figL (tl x)).all fun c => decide (48 ≤ c) && decide (c ≤ 57) from by rw [hy, List.all_map]; rfl]
        cases ha : (figL (tl x)).all fun c => decide (48 ≤ c) && decide (c ≤ 57) with
        | false =>
          rw [ha] at q
          refine iteT ?_
          exact q _ s2
        | true =>
          rw [ha] at q
          refine iteF ?_
          obtain ⟨c0, hc0⟩ : ∃ c0, (tl y)[0]? = some c0 := by
            have : 0 < (tl y).length := by rw [← len_tl]; omega
            exact ⟨_, List.getElem?_eq_getElem this⟩
          refine ⟨_, rfl, y, 0, c0, rfl, rfl, Nat.le_trans hyl (by show 999 ≤ sizeLine; decide), (atI_nat (j := 0) hc0), rfl, _, rfl, ?_⟩
          rw [← hy, hc0] at q
          rw [show ("0" : Str) = ⟨#[48]⟩ by decide +kernel]
          have e0 : decide (V.str ⟨#[c0]⟩ = V.str ⟨#[48]⟩) = decide (c0 = 48) := by
            rw [strE ⟨#[c0]⟩ [48], Bool.eq_iff_iff, decide_eq_true_eq, decide_eq_true_eq]
            show [c0] = [48] ↔ _
            simp
          rw [e0]
          by_cases g : c0 = 48
          · rw [decide_eq_true g]
            refine iteF ?_
            refine ⟨_, rfl, rfl, ?_⟩
            rw [strE x [48]]
            rw [decide_eq_false (show ¬ (some c0 ≠ some 48) by simp [g])] at q
            have := q _ s2
            simpa using this
          · rw [decide_eq_false g]
            refine iteT ?_
            rw [decide_eq_true (show some c0 ≠ some 48 by simp [g])] at q
            have := q _ s2
            simpa using this
      · rw [decide_eq_false (show ¬ (y.length : Int) ≤ 40 by omega)]
        refine iteT ?_
        rw [decide_eq_false (show ¬ (figL (tl x)).length ≤ 40 by omega), Bool.and_false, Bool.false_and, Bool.false_and] at q
        exact q _ (same_refl _)
    · refine ⟨_, _, rfl, rfl, _, rfl, ?_⟩
      rw [decide_eq_false (show ¬ (1 : Int) ≤ (y.length : Int) by omega)]
      refine iteF ?_
      refine ⟨_, rfl, ?_⟩
      refine iteT ?_
      rw [decide_eq_false (show ¬ 1 ≤ (figL (tl x)).length by omega), Bool.false_and, Bool.false_and, Bool.false_and] at q
      exact q _ (same_refl _)
end
end Deed

namespace Deed
open PySem PySem.Spec PyProof.Rows L2 LamX TL TX
/-! ### lists of numbers, written and read -/
abbrev com : Str := ("," : Str)
abbrev dash : Str := ("-" : Str)
theorem tl_com : tl com = [44] := by decide +kernel
theorem tl_dash : tl dash = [45] := by decide +kernel
theorem tl_spc : tl (" " : Str) = [32] := by decide +kernel
theorem tl_nl : tl ("\n" : Str) = [10] := by decide +kernel
theorem tl_col : tl (":" : Str) = [58] := by decide +kernel
theorem k_com : com.cps.all (· < 256) = true := by decide +kernel
theorem k_spc : (" " : Str).cps.all (· < 256) = true := by decide +kernel
theorem k_nl : ("\n" : Str).cps.all (· < 256) = true := by decide +kernel
def rowT (ns : List Int) : Str := if ns = [] then dash else Txt.join com (ns.map intT)
theorem split_row {ns : List Int} (h : ns ≠ []) : Txt.split (Txt.join com (ns.map intT)) com = ns.map intT :=
  split_join tl_com k_com (fun e => h (List.map_eq_nil_iff.mp e)) fun p hp => by
    obtain ⟨i, _, rfl⟩ := List.mem_map.mp hp
    rw [tl_int]
    exact intL_free (by decide) (by decide)
theorem joinL_len (s : Nat) (m : Nat) : ∀ parts : List (List Nat), (∀ p ∈ parts, p.length ≤ m) → (joinL [s] parts).length ≤ parts.length * (m + 1)
  | [], _ => Nat.zero_le _
  | [p], h => by
    have := h p List.mem_cons_self
    show p.length ≤ 1 * (m + 1)
    omega
  | p :: q :: r, h => by
    have h1 := h p List.mem_cons_self
    have h2 := joinL_len s m (q :: r) fun z hz => h z (List.mem_cons_of_mem _ hz)
    show (p ++ ([s] ++ joinL [s] (q :: r))).length ≤ (r.length + 1 + 1) * (m + 1)
    rw [List.length_append, List.length_append]
    show p.length + (1 + (joinL [s] (q :: r)).length) ≤ _
    have e : (r.length + 1 + 1) * (m + 1) = (r.length + 1) * (m + 1) + (m + 1) := by rw [Nat.succ_mul]
    have h3 : (joinL [s] (q :: r)).length ≤ (r.length + 1) * (m + 1) := h2
    omega
theorem join_len {y : Str} {s : Nat} (ey : tl y = [s]) {m : Nat} {parts : List Str} (h : ∀ p ∈ parts, p.length ≤ m) : (Txt.join y parts).length ≤ parts.length * (m + 1) := by
  rw [len_tl, join_eq, tl_join, ey]
  have := joinL_len s m (parts.map tl) fun p hp => by
    obtain ⟨z, hz, rfl⟩ := List.mem_map.mp hp
    rw [← len_tl]
    exact h z hz
  rw [List.length_map] at this
  exact this
theorem numT_len {i : Int} {k : Nat} (hk : 0 < k) (h : i.natAbs < 10 ^ k) : (intT i).length ≤ k + 1 := by
  rw [len_tl, tl_int]
  exact intL_len hk h
def small (i : Int) : Prop := i.natAbs < 10 ^ 6
theorem small.len {i : Int} (h : small i) : (intT i).length ≤ 7 := numT_len (by decide) h
theorem small.big {i : Int} (h : small i) : i.natAbs < 10 ^ 30 := Nat.lt_of_lt_of_le h (by decide)
theorem small.log {i : Int} (h : small i) : i.natAbs.log2 < 1920 := by
  refine Nat.lt_of_le_of_lt (Nat.log2_le_self i.natAbs |> fun _ => ?_) (show 30 < 1920 by decide)
  by_cases h0 : i.natAbs = 0
  · rw [h0]; decide
  · have := (Nat.log2_lt h0 (k := 30)).mpr (Nat.lt_of_lt_of_le h (by decide))
    omega
theorem small.reads {i : Int} (h : small i) : PySem.intText? (intT i) = some i := TX.reads h.big
theorem small.ok {i : Int} (h : small i) : numOk (tl (intT i)) = true := by
  rw [tl_int]
  exact numOk_int h.big
theorem row_dash {ns : List Int} (h : ns ≠ []) : Txt.join com (ns.map intT) ≠ dash := fun e => by
  have h1 := split_row h
  have h2 : Txt.split (Txt.join com [dash]) com = [dash] := split_join tl_com k_com (List.cons_ne_nil _ _) fun p hp => by
    rw [List.mem_singleton.mp hp, tl_dash]
    decide
  rw [show Txt.join com [dash] = dash from by rw [join_eq]; rfl] at h2
  rw [e, h2] at h1
  cases ns with
  | nil => exact h rfl
  | cons i r =>
    injection h1 with h1 _
    refine intL_dash i ?_
    rw [← tl_int, ← h1, tl_dash]
theorem row_len {ns : List Int} (hl : ns.length ≤ 99) (hs : ∀ i ∈ ns, small i) : (rowT ns).length ≤ 999 := by
  unfold rowT
  split
  · exact Nat.le_trans (show dash.length ≤ 1 by decide +kernel) (by decide)
  · have := join_len tl_com (m := 7) (parts := ns.map intT) fun p hp => by
      obtain ⟨i, hi, rfl⟩ := List.mem_map.mp hp
      exact (hs i hi).len
    rw [List.length_map] at this
    omega
section
variable {P : Program} {w : World} {K : PySem.W.Frag} {mg : Str → Option Value} {base : Heap} {T : List (Addr × Str)}
abbrev sAreNumT : Stmt := topS 36
abbrev nAreNumT : List Str := ["texts", "text"]
abbrev pAreNumT : List Str := ["texts"]
theorem scAreNumT : FnScope nAreNumT pAreNumT (defScope sAreNumT) := ⟨rfl, rfl, rfl, by decide +kernel, rfl, by decide +kernel, by decide +kernel⟩
def spAreNumT : Sp := fun vs H Q _ => ∃ (p : Addr) (xs : List Str), vs = [.ref p] ∧ H p = some (.lst (xs.map V.str)) ∧ xs.length ≤ 999 ∧ (∀ x ∈ xs, x.length ≤ 999) ∧ ∀ H', Same H H' → Q (.bl (xs.all fun x => numOk (tl x))) H'
theorem ok_AreNumT {f : Addr} {fd : FuncData} {k : Nat} (F : Fun K "are_number_texts" "are_number_texts" sAreNumT f fd) (C_is_number_text : CallOk P w K mg base k "is_number_text" pIsNumT spIsNumT) (m_all : mg "all" = none) : FnOk P w K mg base CX0 (k + 1) f fd pAreNumT spAreNumT := by
  refine F.ok scAreNumT (fun vs H Q E h => ?_) (fun cdv A outer s H vs Q E hr h => ?_)
  · obtain ⟨p, xs, rfl, _⟩ := h
    rfl
  · obtain ⟨p, xs, rfl, hp, hl, hx, q⟩ := h
    have nd := scAreNumT.nd
    refine ⟨_, pss_one (ps_ret (pe_callB (cr_all rfl) (by rfl) m_all (by decide +kernel) (pa_cons (pe_lc (own := [("text", 1)]) (g := gName 1) (by rfl) nd (pi_list (pv 0)) (blkOk_by (own := [("text", 1)]) (N := nAreNumT) (sc := defScope sAreNumT) (by decide +kernel)) (fun _ _ _ _ _ => (pg_name (i := 1) nd rfl (.inl rfl))) (fun _ _ _ _ _ => pts_nil)
          (fun _ _ _ _ _ => (pe_call C_is_number_text.ok hr (by rfl) C_is_number_text.g C_is_number_text.kp C_is_number_text.b .nil pass0 (pa_cons (pv 1) pa_nil)))) pa_nil))), ?_⟩
    refine ⟨_, rfl, _, rfl, ⟨_, SqL.of hp⟩, fun M1 nM1 => ?_⟩
    refine lc_sameM (walk_list (xs := xs.map V.str)) xs (fun y => .bl (numOk (tl y))) (by rw [List.length_map]) (by omega) nM1 (fun H s => SqL.of (s _ _ hp)) ?_ ?_
    · rintro i y x H3 H4 hy s3 ⟨rfl, hx1⟩ Q1 q1
      rw [List.getElem?_map, hy] at hx1
      injection hx1 with hx1
      subst hx1
      exact ⟨rfl, _, rfl, y, rfl, hx y (List.mem_of_getElem? hy), fun H' s' => q1 _ s'⟩
    intro H2 s2 eM
    refine ⟨M1, xs.map fun x => numOk (tl x), rfl, SqL.of (by rw [eM, List.map_map]; rfl), ?_⟩
    rw [List.all_map]
    exact q _ s2
abbrev sIsListT : Stmt := topS 37
abbrev nIsListT : List Str := ["text"]
abbrev pIsListT : List Str := ["text"]
theorem scIsListT : FnScope nIsListT pIsListT (defScope sIsListT) := ⟨rfl, rfl, rfl, by decide +kernel, rfl, by decide +kernel, by decide +kernel⟩
def spIsListT : Sp := fun vs H Q _ => ∃ ns : List Int, vs = [.str (rowT ns)] ∧ ns.length ≤ 99 ∧ (∀ i ∈ ns, small i) ∧ ∀ H', Same H H' → Q (.bl true) H'
theorem ok_IsListT {f : Addr} {fd : FuncData} {k : Nat} (F : Fun K "is_list_text" "is_list_text" sIsListT f fd) (C_are_number_texts : CallOk P w K mg base k "are_number_texts" pAreNumT spAreNumT) : FnOk P w K mg base CX0 (k + 1) f fd pIsListT spIsListT := by
  refine F.ok scIsListT (fun vs H Q E h => ?_) (fun cdv A outer s H vs Q E hr h => ?_)
  · obtain ⟨ns, rfl, _⟩ := h
    rfl
  · obtain ⟨ns, rfl, hl, hs, q⟩ := h
    have nd := scIsListT.nd
    refine ⟨_, pss_one (ps_ret (pe_or (pe_cmpR op_eq (pv 0) pe_str (nomark _)) (pe_one (pe_call C_are_number_texts.ok hr (by rfl) C_are_number_texts.g C_are_number_texts.kp C_are_number_texts.b .nil pass0 (pa_cons (pe_bm PySem.F.plainAttrs_str PySem.F.slot_str_split PySem.F.type_str_split mt_split (pv 0) (pa_cons pe_str pa_nil)) pa_nil))))), ?_⟩
    refine ⟨_, rfl, rfl, _, rfl, ?_⟩
    have hsz : (rowT ns).length + 2 ≤ sizeLine := by
      have := row_len hl hs
      rw [sizeLine_eq]
      omega
    by_cases h0 : ns = []
    · rw [decide_eq_true (show V.str (rowT ns) = V.str dash by unfold rowT; rw [if_pos h0])]
      exact iteT (q H (same_refl _))
    · have e0 : rowT ns = Txt.join com (ns.map intT) := by unfold rowT; rw [if_neg h0]
      rw [decide_eq_false (show ¬ V.str (rowT ns) = V.str dash from fun z => by
        injection z with z
        exact row_dash h0 (e0.symm.trans z))]
      refine iteF ?_
      refine ⟨_, rfl, rfl, rowT ns, _, rfl, rfl, by decide +kernel, hsz, fun p np => ?_⟩
      have es : Txt.split (rowT ns) com = ns.map intT := by rw [e0]; exact split_row h0
      rw [es]
      refine ⟨p, ns.map intT, rfl, upd_same, by rw [List.length_map]; omega, fun x hx => ?_, fun H' s' => ?_⟩
      · obtain ⟨i, hi, rfl⟩ := List.mem_map.mp hx
        exact Nat.le_trans (hs i hi).len (by decide)
      · rw [show (ns.map intT).all (fun x => numOk (tl x)) = true from by
          rw [List.all_map, List.all_eq_true]
          exact fun i hi => (hs i hi).ok]
        exact q H' ((same_new np _).trans s')
abbrev sListRd : Stmt := topS 38
abbrev nListRd : List Str := ["text", "number"]
abbrev pListRd : List Str := ["text"]
theorem scListRd : FnScope nListRd pListRd (defScope sListRd) := ⟨rfl, rfl, rfl, by decide +kernel, rfl, by decide +kernel, by decide +kernel⟩
def spListRd : Sp := fun vs H Q _ => ∃ ns : List Int, vs = [.str (rowT ns)] ∧ ns.length ≤ 99 ∧ (∀ i ∈ ns, small i) ∧ ∀ t H', Same H H' → H' t = some (.tup (ns.map V.int)) → Q (.ref t) H'
theorem ok_ListRd {f : Addr} {fd : FuncData} {k : Nat} (F : Fun K "list_read" "list_read" sListRd f fd) (m_int : mg "int" = none) (m_tuple : mg "tuple" = none) : FnOk P w K mg base CX0 (k + 1) f fd pListRd spListRd := by
  refine F.ok scListRd (fun vs H Q E h => ?_) (fun cdv A outer s H vs Q E hr h => ?_)
  · obtain ⟨ns, rfl, _⟩ := h
    rfl
  · obtain ⟨ns, rfl, hl, hs, q⟩ := h
    have nd := scListRd.nd
    refine ⟨_, pss_cons (ps_if (pt_cmpR op_eq (pv 0) pe_str (nomark _)) (pss_one (ps_ret (pe_tup pa_nil))) pss_nil)
      (pss_one (ps_ret (pe_callTy call_tuple_of (by rfl) m_tuple (by decide +kernel) (pa_cons (pe_lc (own := [("number", 1)]) (g := gName 1) (by rfl) nd (pi_list (pe_bm PySem.F.plainAttrs_str PySem.F.slot_str_split PySem.F.type_str_split mt_split (pv 0) (pa_cons pe_str pa_nil))) (blkOk_by (own := [("number", 1)]) (N := nListRd) (sc := defScope sListRd) (by decide +kernel)) (fun _ _ _ _ _ => (pg_name (i := 1) nd rfl (.inl rfl))) (fun _ _ _ _ _ => pts_nil)
          (fun _ _ _ _ _ => (pe_callTy call_int_str (by rfl) m_int (by decide +kernel) (pa_cons (pv 1) pa_nil)))) pa_nil)))), ?_⟩
    have hsz : (rowT ns).length + 2 ≤ sizeLine := by
      have := row_len hl hs
      rw [sizeLine_eq]
      omega
    refine ⟨_, rfl, rfl, _, rfl, ?_⟩
    by_cases h0 : ns = []
    · rw [decide_eq_true (show V.str (rowT ns) = V.str dash by unfold rowT; rw [if_pos h0])]
      refine iteT ⟨Nat.zero_le _, fun t1 nt1 => ?_⟩
      subst h0
      exact q t1 _ (same_new nt1 _) upd_same
    · have e0 : rowT ns = Txt.join com (ns.map intT) := by unfold rowT; rw [if_neg h0]
      rw [decide_eq_false (show ¬ V.str (rowT ns) = V.str dash from fun z => by
        injection z with z
        exact row_dash h0 (e0.symm.trans z))]
      refine iteF ?_
      refine ⟨_, rfl, rfl, rowT ns, _, rfl, rfl, by decide +kernel, hsz, fun p np => ?_⟩
      have es : Txt.split (rowT ns) com = ns.map intT := by rw [e0]; exact split_row h0
      rw [es]
      have s1 := same_new np (.lst ((ns.map intT).map V.str))
      have e1 : (upd H p (.lst ((ns.map intT).map V.str))) p = some (.lst ((ns.map intT).map V.str)) := upd_same
      generalize (upd H p (.lst ((ns.map intT).map V.str))) = H1 at s1 e1
      refine ⟨p, rfl, ⟨_, SqL.of e1⟩, fun M2 nM2 => ?_⟩
      refine lc_sameM (walk_list (xs := (ns.map intT).map V.str)) ns V.int (by rw [List.length_map, List.length_map]) (by omega) nM2 (fun H s => SqL.of (s _ _ e1)) ?_ ?_
      · rintro i y x H3 H4 hy s3 ⟨rfl, hx1⟩ Q1 q1
        rw [List.getElem?_map, List.getElem?_map, hy] at hx1
        injection hx1 with hx1
        subst hx1
        have hsy := hs y (List.mem_of_getElem? hy)
        exact ⟨rfl, _, rfl, intT y, y, rfl, hsy.reads, Nat.le_trans hsy.len (by decide), q1 _ (same_refl _)⟩
      intro H2 s2 eM
      refine ⟨M2, _, rfl, .inl ⟨SqL.of eM, fun t3 nt3 => ?_⟩⟩
      exact q t3 _ (s1.trans (s2.trans (same_new nt3 _))) upd_same
end
end Deed

namespace Deed
open PySem PySem.Spec PyProof.Rows L2 LamX TL TX
/-! ### persons, written and read -/
def dV : Option Int → V
  | none => .non
  | some i => .int i
def perT (b : Int) : Option Int → Str
  | none => ⟨(intL b ++ [58, 45]).toArray⟩
  | some i => ⟨(intL b ++ 58 :: intL i).toArray⟩
theorem ext_str {a b : Str} (h : tl a = tl b) : a = b := by rw [← mk_tl a, ← mk_tl b, h]
theorem tl_empty : tl PySem.Str.empty = [] := by decide +kernel
theorem tl_cd : tl (":-" : Str) = [58, 45] := by decide +kernel
theorem ecast {Q : V → Hp → Prop} {H : Hp} {a b : Str} (q : Q (.str a) H) (e : a = b) : Q (.str b) H := e ▸ q
section
variable {P : Program} {w : World} {K : PySem.W.Frag} {mg : Str → Option Value} {base : Heap} {T : List (Addr × Str)}
abbrev sPerT : Stmt := topS 32
abbrev nPerT : List Str := ["person", "born", "died"]
abbrev pPerT : List Str := ["person"]
theorem scPerT : FnScope nPerT pPerT (defScope sPerT) := ⟨rfl, rfl, rfl, by decide +kernel, rfl, by decide +kernel, by decide +kernel⟩
def spPerT : Sp := fun vs H Q _ => ∃ (a : Addr) (b : Int) (d : Option Int), vs = [.ref a] ∧ H a = some (.tup [.int b, dV d]) ∧ small b ∧ (∀ i, d = some i → small i) ∧ Q (.str (perT b d)) H
theorem ok_PerT {f : Addr} {fd : FuncData} {k : Nat} (F : Fun K "person_text" "person_text" sPerT f fd) : FnOk P w K mg base CX0 (k + 1) f fd pPerT spPerT := by
  refine F.ok scPerT (fun vs H Q E h => ?_) (fun cdv A outer s H vs Q E hr h => ?_)
  · obtain ⟨a, b, d, rfl, _⟩ := h
    rfl
  · obtain ⟨a, b, d, rfl, ha, hb, hd, q⟩ := h
    have nd := scPerT.nd
    refine ⟨_, pss_cons (ps_asg (pv 0) (pg_tup (by rfl) (pgs_cons (pg_name (i := 1) nd rfl (.inl rfl)) (pgs_cons (pg_name (i := 2) nd rfl (.inl rfl)) pgs_nil))))
      (pss_one (ps_ret (pe_ifExp (pt_cmpR op_isN (pv 2) pe_non (nomark _)) (pe_joined (.cons (pe_fmt (pv 1)) (.cons pe_str .nil))) (pe_joined (.cons (pe_fmt (pv 1)) (.cons pe_str (.cons (pe_fmt (pv 2)) .nil))))))), ?_⟩
    refine ⟨_, rfl, _, _, rfl, SqT.of ha, rfl, _, _, rfl, _, _, rfl, rfl, ?_⟩
    have lb : (PySem.Str.ofString (toString b)).length ≤ 7 := hb.len
    have l0 : PySem.Str.empty.length = 0 := by decide +kernel
    have l1 : (":-" : Str).length = 2 := by decide +kernel
    have l2 : (":" : Str).length = 1 := by decide +kernel
    refine ⟨_, rfl, rfl, _, rfl, ?_⟩
    cases d with
    | none =>
      refine iteT ?_
      refine ⟨_, rfl, .inr ⟨b, rfl, hb.log, _, rfl, ?_, _, rfl, ?_, ?_⟩⟩
      · simp only [strLen_append]
        rw [l0, sizeLine_eq]
        omega
      · simp only [strLen_append]
        rw [l0, l1, sizeLine_eq]
        omega
      · refine ecast q ?_
        refine ext_str ?_
        rw [tl_append, tl_append, tl_empty, List.nil_append, tl_cd]
        show intL b ++ [58, 45] = tl (intT b) ++ [58, 45]
        rw [tl_int]
    | some i =>
      refine iteF ?_
      have hi := hd i rfl
      have li : (PySem.Str.ofString (toString i)).length ≤ 7 := hi.len
      refine ⟨_, rfl, .inr ⟨b, rfl, hb.log, _, rfl, ?_, _, rfl, ?_, _, rfl, .inr ⟨i, rfl, hi.log, _, rfl, ?_, ?_⟩⟩⟩
      · simp only [strLen_append]
        rw [l0, sizeLine_eq]
        omega
      · simp only [strLen_append]
        rw [l0, l2, sizeLine_eq]
        omega
      · simp only [strLen_append]
        rw [l0, l2, sizeLine_eq]
        omega
      · refine ecast q ?_
        refine ext_str ?_
        rw [tl_append, tl_append, tl_append, tl_empty, List.nil_append, tl_col]
        show intL b ++ 58 :: intL i = (tl (intT b) ++ [58]) ++ tl (intT i)
        rw [tl_int, tl_int, List.append_assoc]
        rfl
def restT : Option Int → Str
  | none => dash
  | some i => intT i
theorem per_parts (b : Int) (d : Option Int) : Txt.partition (perT b d) (":" : Str) = (intT b, (":" : Str), restT d) := by
  have h : perT b d = intT b ++ (":" : Str) ++ restT d := by
    refine ext_str ?_
    rw [tl_append, tl_append, tl_col, tl_int]
    cases d with
    | none =>
      show intL b ++ [58, 45] = (intL b ++ [58]) ++ tl dash
      rw [tl_dash, List.append_assoc]
      rfl
    | some i =>
      show intL b ++ 58 :: intL i = (intL b ++ [58]) ++ tl (intT i)
      rw [tl_int, List.append_assoc]
      rfl
  rw [h]
  exact partition_app tl_col (by rw [tl_int]; exact intL_free (by decide) (by decide))
theorem per_len {b : Int} {d : Option Int} (hb : small b) (hd : ∀ i, d = some i → small i) : (perT b d).length ≤ 20 := by
  have h1 := hb.len
  rw [len_tl, tl_int] at h1
  rw [len_tl]
  cases d with
  | none =>
    show (intL b ++ [58, 45]).length ≤ 20
    rw [List.length_append]
    show _ + 2 ≤ 20
    omega
  | some i =>
    have h2 := (hd i rfl).len
    rw [len_tl, tl_int] at h2
    show (intL b ++ 58 :: intL i).length ≤ 20
    rw [List.length_append, List.length_cons]
    omega
abbrev sPerRd : Stmt := topS 39
abbrev nPerRd : List Str := ["text", "born", "colon", "died"]
abbrev pPerRd : List Str := ["text"]
theorem scPerRd : FnScope nPerRd pPerRd (defScope sPerRd) := ⟨rfl, rfl, rfl, by decide +kernel, rfl, by decide +kernel, by decide +kernel⟩
def spPerRd : Sp := fun vs H Q _ => ∃ (b : Int) (d : Option Int), vs = [.str (perT b d)] ∧ small b ∧ (∀ i, d = some i → small i) ∧ ∀ t H', Same H H' → H' t = some (.tup [.int b, dV d]) → Q (.ref t) H'
theorem ok_PerRd {f : Addr} {fd : FuncData} {k : Nat} (F : Fun K "person_read" "person_read" sPerRd f fd) (C_is_number_text : CallOk P w K mg base k "is_number_text" pIsNumT spIsNumT) (m_int : mg "int" = none) : FnOk P w K mg base CX0 (k + 1) f fd pPerRd spPerRd := by
  refine F.ok scPerRd (fun vs H Q E h => ?_) (fun cdv A outer s H vs Q E hr h => ?_)
  · obtain ⟨b, d, rfl, _⟩ := h
    rfl
  · obtain ⟨b, d, rfl, hb, hd, q⟩ := h
    have nd := scPerRd.nd
    refine ⟨_, pss_cons (ps_asg (pe_bm PySem.F.plainAttrs_str PySem.F.slot_str_partition PySem.F.type_str_partition mt_partition (pv 0) (pa_cons pe_str pa_nil)) (pg_tup (by rfl) (pgs_cons (pg_name (i := 1) nd rfl (.inl rfl)) (pgs_cons (pg_name (i := 2) nd rfl (.inl rfl)) (pgs_cons (pg_name (i := 3) nd rfl (.inl rfl)) pgs_nil)))))
      (pss_cons (ps_if (pt_not (pt_val (pe_call C_is_number_text.ok hr (by rfl) C_is_number_text.g C_is_number_text.kp C_is_number_text.b .nil pass0 (pa_cons (pv 1) pa_nil)))) (pss_one (ps_ret pe_non)) pss_nil)
      (pss_cons (ps_if (pt_cmpR op_eq (pv 3) pe_str (nomark _)) (pss_one (ps_ret (pe_tup (pa_cons (pe_callTy call_int_str (by rfl) m_int (by decide +kernel) (pa_cons (pv 1) pa_nil)) (pa_cons pe_non pa_nil))))) pss_nil)
      (pss_one (ps_ret (pe_ifExp (pt_val (pe_call C_is_number_text.ok hr (by rfl) C_is_number_text.g C_is_number_text.kp C_is_number_text.b .nil pass0 (pa_cons (pv 3) pa_nil))) (pe_tup (pa_cons (pe_callTy call_int_str (by rfl) m_int (by decide +kernel) (pa_cons (pv 1) pa_nil)) (pa_cons (pe_callTy call_int_str (by rfl) m_int (by decide +kernel) (pa_cons (pv 3) pa_nil)) pa_nil))) pe_non))))), ?_⟩
    refine ⟨_, rfl, rfl, perT b d, _, rfl, rfl, by decide +kernel, ?_, fun t1 nt1 => ?_⟩
    · have := per_len hb hd
      rw [sizeLine_eq]
      omega
    rw [per_parts]
    have s1 := same_new nt1 (.tup [.str (intT b), .str (":" : Str), .str (restT d)])
    have e1 : (upd H t1 (.tup [.str (intT b), .str (":" : Str), .str (restT d)])) t1 = some (.tup [.str (intT b), .str (":" : Str), .str (restT d)]) := upd_same
    generalize (upd H t1 (.tup [.str (intT b), .str (":" : Str), .str (restT d)])) = H1 at s1 e1
    refine ⟨t1, _, rfl, SqT.of e1, rfl, _, _, rfl, _, _, rfl, _, _, rfl, rfl, ?_⟩
    refine ⟨_, rfl, intT b, rfl, Nat.le_trans hb.len (by decide), fun H2 s2 => ⟨_, rfl, ?_⟩⟩
    rw [hb.ok]
    refine iteF ?_
    refine ⟨_, rfl, rfl, _, rfl, ?_⟩
    cases d with
    | none =>
      rw [decide_eq_true (show V.str (restT none) = V.str ("-" : Str) from rfl)]
      refine iteT ?_
      refine ⟨_, rfl, intT b, b, rfl, hb.reads, Nat.le_trans hb.len (by decide), (by show 2 ≤ sizeLine; decide), fun t3 nt3 => ?_⟩
      exact q t3 _ (s1.trans (s2.trans (same_new nt3 _))) upd_same
    | some i =>
      have hi := hd i rfl
      rw [decide_eq_false (show ¬ V.str (restT (some i)) = V.str ("-" : Str) from fun z => by
        injection z with z
        refine intL_dash i ?_
        rw [← tl_int]
        show tl (restT (some i)) = [45]
        rw [z]
        exact tl_dash)]
      refine iteF ?_
      refine ⟨_, rfl, intT i, rfl, Nat.le_trans hi.len (by decide), fun H3 s3 => ⟨_, rfl, ?_⟩⟩
      rw [hi.ok]
      refine iteT ?_
      refine ⟨_, rfl, intT b, b, rfl, hb.reads, Nat.le_trans hb.len (by decide), _, rfl, intT i, i, rfl, hi.reads, Nat.le_trans hi.len (by decide), (by show 2 ≤ sizeLine; decide), fun t3 nt3 => ?_⟩
      exact q t3 _ (s1.trans (s2.trans (s3.trans (same_new nt3 _)))) upd_same
end
end Deed

namespace Deed
open PySem PySem.Spec PyProof.Rows L2 LamX TL TX
/-! ### parts of entries, entries and books as texts -/
inductive Pt where
  | int (i : Int)
  | str (x : Str)
  | row (ns : List Int)
def Pt.txt : Pt → Str
  | .int i => intT i
  | .str x => x
  | .row ns => rowT ns
def Pt.at_ (H : Hp) : V → Pt → Prop
  | v, .int i => v = .int i ∧ small i
  | v, .str x => v = .str x ∧ x.length ≤ 20
  | v, .row ns => ∃ a, v = .ref a ∧ H a = some (.tup (ns.map V.int)) ∧ ns.length ≤ 99 ∧ ∀ i ∈ ns, small i
theorem Pt.at_.kp {H H' : Hp} {v : V} {p : Pt} (h : p.at_ H v) (k : KpT H H') : p.at_ H' v := by
  cases p with
  | int i => exact h
  | str x => exact h
  | row ns =>
    obtain ⟨a, h1, h2, h3⟩ := h
    exact ⟨a, h1, k _ _ h2, h3⟩
theorem Pt.at_.len {H : Hp} {v : V} {p : Pt} (h : p.at_ H v) : p.txt.length ≤ 999 := by
  cases p with
  | int i => exact Nat.le_trans h.2.len (by decide)
  | str x => exact Nat.le_trans h.2 (by decide)
  | row ns =>
    obtain ⟨a, _, _, h3, h4⟩ := h
    exact row_len h3 h4
theorem sum_len {m : Nat} : ∀ {ys : List Str}, (∀ y ∈ ys, y.length ≤ m) → (ys.map (·.length)).sum ≤ ys.length * m
  | [], _ => Nat.zero_le _
  | y :: r, h => by
    have h1 := h y List.mem_cons_self
    have h2 := sum_len (ys := r) fun z hz => h z (List.mem_cons_of_mem _ hz)
    rw [List.map_cons, List.sum_cons, List.length_cons, Nat.succ_mul]
    omega
section
variable {P : Program} {w : World} {K : PySem.W.Frag} {mg : Str → Option Value} {base : Heap} {T : List (Addr × Str)}
abbrev sPartT : Stmt := topS 33
abbrev nPartT : List Str := ["part", "number"]
abbrev pPartT : List Str := ["part"]
theorem scPartT : FnScope nPartT pPartT (defScope sPartT) := ⟨rfl, rfl, rfl, by decide +kernel, rfl, by decide +kernel, by decide +kernel⟩
def spPartT : Sp := fun vs H Q _ => ∃ (v : V) (p : Pt), vs = [v] ∧ p.at_ H v ∧ ∀ H', Same H H' → Q (.str p.txt) H'
theorem ok_PartT {f : Addr} {fd : FuncData} {k : Nat} (F : Fun K "part_text" "part_text" sPartT f fd) (m_isinstance : mg "isinstance" = none) (m_tuple : mg "tuple" = none) (m_str : mg "str" = none) : FnOk P w K mg base CX0 (k + 1) f fd pPartT spPartT := by
  refine F.ok scPartT (fun vs H Q E h => ?_) (fun cdv A outer s H vs Q E hr h => ?_)
  · obtain ⟨v, p, rfl, _⟩ := h
    rfl
  · obtain ⟨v, p, rfl, hp, q⟩ := h
    have nd := scPartT.nd
    refine ⟨_, pss_cons (ps_if (pt_val (pe_callB call_isi (by rfl) m_isinstance (by decide +kernel) (pa_cons (pv 0) (pa_cons (pe_bltn (v := .ty "tuple") (by rfl) m_tuple (by decide +kernel) rfl) pa_nil)))) (pss_one (ps_ret (pe_ifExp (pt_truth (pv 0) (fun _ => rfl)) (pe_bm PySem.F.plainAttrs_str PySem.F.slot_str_join PySem.F.type_str_join mt_join pe_str (pa_cons (pe_lc (own := [("number", 1)]) (g := gName 1) (by rfl) nd (pi_tup (pv 0)) (blkOk_by (own := [("number", 1)]) (N := nPartT) (sc := defScope sPartT) (by decide +kernel)) (fun _ _ _ _ _ => (pg_name (i := 1) nd rfl (.inl rfl))) (fun _ _ _ _ _ => pts_nil)
          (fun _ _ _ _ _ => (pe_callTy call_str_int (by rfl) m_str (by decide +kernel) (pa_cons (pv 1) pa_nil)))) pa_nil)) pe_str))) pss_nil)
      (pss_one (ps_ret (pe_callTy (CallR.or call_str_int SkE.call_str_str) (by rfl) m_str (by decide +kernel) (pa_cons (pv 0) pa_nil)))), ?_⟩
    cases p with
    | int i =>
      obtain ⟨rfl, hi⟩ := hp
      refine ⟨_, rfl, _, _, .type "int", .type "tuple", false, rfl, .ty "tuple", .base (.int i), kit_ty (by decide +kernel), _, rfl, ?_⟩
      refine iteF ?_
      exact ⟨_, rfl, .inl ⟨i, rfl, hi.log, q H (same_refl _)⟩⟩
    | str x =>
      obtain ⟨rfl, hx⟩ := hp
      refine ⟨_, rfl, _, _, .type "str", .type "tuple", false, rfl, .ty "tuple", .base (.str x), kit_ty (by decide +kernel), _, rfl, ?_⟩
      refine iteF ?_
      exact ⟨_, rfl, .inr ⟨x, rfl, q H (same_refl _)⟩⟩
    | row ns =>
      obtain ⟨a, rfl, ha, hl, hs⟩ := hp
      refine ⟨_, rfl, _, _, .type "tuple", .type "tuple", true, rfl, .ty "tuple", .base (.tup ha), kit_ty (by decide +kernel), _, rfl, ?_⟩
      refine iteT ?_
      refine ⟨_, rfl, !(ns.map V.int).isEmpty, ?_, ?_⟩
      · exact .inr (.inl ⟨_, SqT.of ha, rfl⟩)
      by_cases h0 : ns = []
      · subst h0
        refine iteF ?_
        exact q H (same_refl _)
      · have hne : (!(ns.map V.int).isEmpty) = true := by
          cases ns with
          | nil => exact absurd rfl h0
          | cons i r => rfl
        rw [hne]
        refine iteT ?_
        refine ⟨rfl, _, rfl, _, rfl, ⟨_, SqT.of ha⟩, fun M nM => ?_⟩
        refine lc_sameM (walk_tup (xs := ns.map V.int)) ns (fun i => .str (intT i)) (by rw [List.length_map]) (by omega) nM (fun H s => SqT.of (s _ _ ha)) ?_ ?_
        · rintro i y x H3 H4 hy s3 ⟨rfl, hx1⟩ Q1 q1
          rw [List.getElem?_map, hy] at hx1
          injection hx1 with hx1
          subst hx1
          exact ⟨rfl, _, rfl, y, rfl, (hs y (List.mem_of_getElem? hy)).log, q1 _ (same_refl _)⟩
        intro H2 s2 eM
        refine ⟨com, M, ns.map intT, rfl, rfl, .inl (SqL.of (by rw [eM, List.map_map]; rfl)), ?_, ?_⟩
        · have := sum_len (m := 7) (ys := ns.map intT) fun y hy => by
            obtain ⟨i, hi, rfl⟩ := List.mem_map.mp hy
            exact (hs i hi).len
          have l1 : com.length = 1 := by decide +kernel
          rw [List.length_map] at this ⊢
          rw [l1]
          omega
        · have e0 : rowT ns = Txt.join com (ns.map intT) := by unfold rowT; rw [if_neg h0]
          have := q H2 s2
          show Q (.str (Txt.join com (ns.map intT))) H2
          rw [← e0]
          exact this
end
end Deed

namespace Deed
open PySem PySem.Spec PyProof.Rows L2 LamX TL TX
def ptsE (e : En) : List Pt := match e.kd with
  | .deed g t rs ws => [.int e.num, .int e.day, .int e.wri, .int e.hand, .str "deed", .int g, .int t, .row rs, .row ws]
  | .act x o => [.int e.num, .int e.day, .int e.wri, .int e.hand, .str x, .int o]
def lineT (e : En) : Str := Txt.join (" " : Str) ((ptsE e).map Pt.txt)
def headT (ps : List (Int × Option Int)) : Str := Txt.join (" " : Str) (("folk" : Str) :: ps.map fun q => perT q.1 q.2)
def ageTx (age : Int) : Str := ⟨(tl ("age " : Str) ++ intL age).toArray⟩
def bookT (ps : List (Int × Option Int)) (age : Int) (es : List En) : Str := Txt.join ("\n" : Str) (headT ps :: ageTx age :: es.map lineT)
theorem small_of {i : Int} (h0 : -999999 ≤ i) (h1 : i ≤ 999999) : small i := by
  unfold small
  have : i.natAbs < 1000000 := by omega
  exact this
/-- an entry's parts -/
theorem EntAt.pts {H : Hp} {a : Addr} {n : Nat} {es : List En} {e : En} (h : EntAt H a e) (hb : BkOk n es) (he : e ∈ es) (hn : n ≤ 6) : ∃ zs : List (V × Pt), H a = some (.tup (zs.map (·.1))) ∧ zs.map (·.2) = ptsE e ∧ zs.length ≤ 9 ∧ ∀ z ∈ zs, z.2.at_ H z.1 := by
  have hr := hb.rng e he
  obtain ⟨⟨a1, a2⟩, ⟨b1, b2⟩, ⟨c1, c2⟩, hk⟩ := hb.ok e he
  have in_dn : ∀ x ∈ dn es, small x := fun x hx => by
    obtain ⟨e', h1, h2⟩ := mem_dn.mp hx
    have := hb.rng e' h1
    rw [h2.2] at this
    exact small_of (by omega) (by omega)
  have in_an : ∀ x ∈ an es, small x := fun x hx => by
    obtain ⟨e', h1, h2⟩ := mem_an.mp hx
    have := hb.rng e' h1
    rw [h2.2] at this
    exact small_of (by omega) (by omega)
  unfold EntAt at h
  unfold ptsE
  cases hd : e.kd with
  | deed g t rs ws =>
    rw [hd] at h hk
    obtain ⟨r, w, h1, h2, h3⟩ := h
    obtain ⟨⟨g1, g2⟩, ⟨t1, t2⟩, _, r1, _, r2, w1, _, w2⟩ := hk
    refine ⟨[(.int e.num, .int e.num), (.int e.day, .int e.day), (.int e.wri, .int e.wri), (.int e.hand, .int e.hand), (.str "deed", .str "deed"), (.int g, .int g), (.int t, .int t), (.ref r, .row rs), (.ref w, .row ws)], h1, rfl, Nat.le_refl _, fun z hz => ?_⟩
    simp only [List.mem_cons, List.not_mem_nil, or_false] at hz
    rcases hz with rfl | rfl | rfl | rfl | rfl | rfl | rfl | rfl | rfl
    · exact ⟨rfl, small_of (by omega) (by omega)⟩
    · exact ⟨rfl, small_of (by omega) (by omega)⟩
    · exact ⟨rfl, small_of (by omega) (by omega)⟩
    · exact ⟨rfl, small_of (by omega) (by omega)⟩
    · exact ⟨rfl, by decide +kernel⟩
    · exact ⟨rfl, small_of (by omega) (by omega)⟩
    · exact ⟨rfl, small_of (by omega) (by omega)⟩
    · exact ⟨r, rfl, h2, by omega, fun i hi => in_dn i (r2 i hi).1⟩
    · exact ⟨w, rfl, h3, by omega, fun i hi => by
        have := w2 i hi
        exact small_of (by omega) (by omega)⟩
  | act x o =>
    rw [hd] at h hk
    obtain ⟨hx, _⟩ := hk
    refine ⟨[(.int e.num, .int e.num), (.int e.day, .int e.day), (.int e.wri, .int e.wri), (.int e.hand, .int e.hand), (.str x, .str x), (.int o, .int o)], h, rfl, by show 6 ≤ 9; decide, fun z hz => ?_⟩
    simp only [List.mem_cons, List.not_mem_nil, or_false] at hz
    rcases hz with rfl | rfl | rfl | rfl | rfl | rfl
    · exact ⟨rfl, small_of (by omega) (by omega)⟩
    · exact ⟨rfl, small_of (by omega) (by omega)⟩
    · exact ⟨rfl, small_of (by omega) (by omega)⟩
    · exact ⟨rfl, small_of (by omega) (by omega)⟩
    · refine ⟨rfl, ?_⟩
      rcases hx with ⟨rfl, _⟩ | ⟨rfl | rfl, _⟩ <;> decide +kernel
    · refine ⟨rfl, ?_⟩
      rcases hx with ⟨_, ho⟩ | ⟨_, ho⟩
      · exact in_an o ho
      · exact in_dn o ho
def PerZ (H : Hp) (z : Addr × Int × Option Int) : Prop := H z.1 = some (.tup [.int z.2.1, dV z.2.2]) ∧ small z.2.1 ∧ ∀ i, z.2.2 = some i → small i
structure FolkZ (H : Hp) (fk : Addr) (pz : List (Addr × Int × Option Int)) : Prop where
  at_ : H fk = some (.tup (pz.map fun z => V.ref z.1))
  len : pz.length ≤ 6
  per : ∀ z ∈ pz, PerZ H z
theorem FolkZ.kp {H H' : Hp} {fk : Addr} {pz : List (Addr × Int × Option Int)} (h : FolkZ H fk pz) (k : KpT H H') : FolkZ H' fk pz := ⟨k _ _ h.at_, h.len, fun z hz => ⟨k _ _ (h.per z hz).1, (h.per z hz).2⟩⟩
theorem pers_z {H : Hp} : ∀ xs : List V, (∀ x ∈ xs, PersonAt H x) → ∃ pz : List (Addr × Int × Option Int), xs = pz.map (fun z => V.ref z.1) ∧ ∀ z ∈ pz, PerZ H z
  | [], _ => ⟨[], rfl, fun _ h => nomatch h⟩
  | x :: r, h => by
    obtain ⟨pz, e, hp⟩ := pers_z r fun y hy => h y (List.mem_cons_of_mem _ hy)
    obtain ⟨a, b, d, rfl, h1, h2, h3, h4⟩ := h x List.mem_cons_self
    have hb : small b := small_of (by omega) (by omega)
    rcases h4 with rfl | ⟨i, rfl, h5, h6⟩
    · refine ⟨(a, b, none) :: pz, by rw [e]; rfl, fun z hz => ?_⟩
      rcases List.mem_cons.mp hz with rfl | hz
      · exact ⟨h1, hb, fun i z => nomatch z⟩
      · exact hp z hz
    · refine ⟨(a, b, some i) :: pz, by rw [e]; rfl, fun z hz => ?_⟩
      rcases List.mem_cons.mp hz with rfl | hz
      · refine ⟨h1, hb, fun j z => ?_⟩
        injection z with z
        subst z
        exact small_of (by omega) (by omega)
      · exact hp z hz
theorem FolkAt.z {H : Hp} {fk : Addr} {n : Nat} (h : FolkAt H fk n) (hn : n ≤ 6) : ∃ pz, FolkZ H fk pz := by
  obtain ⟨xs, ef, hl, hx⟩ := h
  obtain ⟨pz, e, hp⟩ := pers_z xs hx
  exact ⟨pz, by rw [← e]; exact ef, by rw [← hl, e, List.length_map] at hn; exact hn, hp⟩
theorem line_len {H : Hp} {zs : List (V × Pt)} {e : En} (h : zs.map (·.2) = ptsE e) (hl : zs.length ≤ 9) (hz : ∀ z ∈ zs, z.2.at_ H z.1) : (lineT e).length ≤ 9000 := by
  unfold lineT
  rw [← h, List.map_map]
  have := join_len tl_spc (m := 999) (parts := zs.map (Pt.txt ∘ fun z => z.2)) fun p hp => by
    obtain ⟨z, hm, rfl⟩ := List.mem_map.mp hp
    exact (hz z hm).len
  rw [List.length_map] at this
  omega
theorem head_len {H : Hp} {fk : Addr} {pz : List (Addr × Int × Option Int)} (h : FolkZ H fk pz) : (headT (pz.map (·.2))).length ≤ 147 := by
  unfold headT
  have := join_len tl_spc (m := 20) (parts := ("folk" : Str) :: (pz.map (·.2)).map fun q => perT q.1 q.2) fun p hp => by
    rcases List.mem_cons.mp hp with rfl | hp
    · decide +kernel
    · rw [List.map_map] at hp
      obtain ⟨z, hm, rfl⟩ := List.mem_map.mp hp
      exact per_len (h.per z hm).2.1 (h.per z hm).2.2
  rw [List.length_cons, List.length_map, List.length_map] at this
  have := h.len
  omega
theorem age_len {age : Int} (h : small age) : (ageTx age).length ≤ 11 := by
  have h1 := h.len
  rw [len_tl, tl_int] at h1
  have h2 : (tl ("age " : Str)).length = 4 := by decide +kernel
  rw [len_tl]
  show (tl ("age " : Str) ++ intL age).length ≤ 11
  rw [List.length_append, h2]
  omega
end Deed

namespace Deed
open PySem PySem.Spec PyProof.Rows L2 LamX TL TX
section
variable {P : Program} {w : World} {K : PySem.W.Frag} {mg : Str → Option Value} {base : Heap} {T : List (Addr × Str)}
abbrev sBookTx : Stmt := topS 34
abbrev nBookTx : List Str := ["book", "folk", "age", "entries", "lines", "entry", "person", "part"]
abbrev pBookTx : List Str := ["book"]
theorem scBookTx : FnScope nBookTx pBookTx (defScope sBookTx) := ⟨rfl, rfl, rfl, by decide +kernel, rfl, by decide +kernel, by decide +kernel⟩
def spBookTx (T : List (Addr × Str)) : Sp := fun vs H Q _ => ∃ (b fk t : Addr) (n : Nat) (age : Int) (zs : List (Addr × En)) (pz : List (Addr × Int × Option Int)), vs = [.ref b] ∧ BookAt H b fk t n age zs ∧ FolkZ H fk pz ∧ Tabs T H ∧
  ∀ (zs' : List (Addr × En)) H', ExtN H H' → Tabs T H' → zs'.Perm zs → zs'.Pairwise (fun u v => u.2.num < v.2.num) → Q (.str (bookT (pz.map (·.2)) age (ens zs'))) H'
theorem ok_BookTx {f : Addr} {fd : FuncData} {k : Nat} (F : Fun K "book_text" "book_text" sBookTx f fd) (C_person_text : CallOk P w K mg base k "person_text" pPerT spPerT) (C_entries_rising : CallOk P w K mg base k "entries_rising" ["book"] (spRising T)) (C_part_text : CallOk P w K mg base k "part_text" pPartT spPartT) : FnOk P w K mg base CX0 (k + 1) f fd pBookTx (spBookTx T) := by
  refine F.ok scBookTx (fun vs H Q E h => ?_) (fun cdv A outer s H vs Q E hr h => ?_)
  · obtain ⟨b, fk, t, n, age, zs, pz, rfl, _⟩ := h
    rfl
  · obtain ⟨b, fk, t, n, age, zs, pz, rfl, hB, hF, hT, q⟩ := h
    have nd := scBookTx.nd
    refine ⟨_, pss_cons (ps_asg (pv 0) (pg_tup (by rfl) (pgs_cons (pg_name (i := 1) nd rfl (.inl rfl)) (pgs_cons (pg_name (i := 2) nd rfl (.inl rfl)) (pgs_cons (pg_name (i := 3) nd rfl (.inl rfl)) pgs_nil)))))
      (pss_cons (ps_set (i := 4) nd rfl (.inl rfl) (pe_lst (pa_cons (pe_bm PySem.F.plainAttrs_str PySem.F.slot_str_join PySem.F.type_str_join mt_join pe_str (pa_cons (pe_op op_cat (pe_lst (pa_cons pe_str pa_nil)) (pe_lc (own := [("person", 6)]) (g := gName 6) (by rfl) nd (pi_tup (pv 1)) (blkOk_by (own := [("person", 6)]) (N := nBookTx) (sc := defScope sBookTx) (by decide +kernel)) (fun _ _ _ _ _ => (pg_name (i := 6) nd rfl (.inl rfl))) (fun _ _ _ _ _ => pts_nil)
          (fun _ _ _ _ _ => (pe_call C_person_text.ok hr (by rfl) C_person_text.g C_person_text.kp C_person_text.b .nil pass0 (pa_cons (pv 6) pa_nil))))) pa_nil)) (pa_cons (pe_joined (.cons pe_str (.cons (pe_fmt (pv 2)) .nil))) pa_nil))))
      (pss_cons (ps_for PassesOwn.never rfl (pi_list (pe_call C_entries_rising.ok hr (by rfl) C_entries_rising.g C_entries_rising.kp C_entries_rising.b .nil pass0 (pa_cons (pv 0) pa_nil))) (pg_name (i := 5) nd rfl (.inl rfl))
        (pss_one (ps_expr (pe_bm PySem.F.plainAttrs_list PySem.F.slot_list_append PySem.F.type_list_append mt_append (pv 4) (pa_cons (pe_bm PySem.F.plainAttrs_str PySem.F.slot_str_join PySem.F.type_str_join mt_join pe_str (pa_cons (pe_lc (own := [("part", 7)]) (g := gName 7) (by rfl) nd (pi_tup (pv 5)) (blkOk_by (own := [("part", 7)]) (N := nBookTx) (sc := defScope sBookTx) (by decide +kernel)) (fun _ _ _ _ _ => (pg_name (i := 7) nd rfl (.inl rfl))) (fun _ _ _ _ _ => pts_nil)
          (fun _ _ _ _ _ => (pe_call C_part_text.ok hr (by rfl) C_part_text.g C_part_text.kp C_part_text.b .nil pass0 (pa_cons (pv 7) pa_nil)))) pa_nil)) pa_nil)))))
      (pss_one (ps_ret (pe_bm PySem.F.plainAttrs_str PySem.F.slot_str_join PySem.F.type_str_join mt_join pe_str (pa_cons (pv 4) pa_nil)))))), ?_⟩
    have hage : small age := small_of (by have := hB.age0; omega) (by have := hB.age1; omega)
    have l4 : ("folk" : Str).length = 4 := by decide +kernel
    have lsp : (" " : Str).length = 1 := by decide +kernel
    have lnl : ("\n" : Str).length = 1 := by decide +kernel
    refine ⟨_, rfl, b, _, rfl, SqT.of hB.at_, rfl, _, _, rfl, _, _, rfl, _, _, rfl, rfl, ?_⟩
    refine ⟨rfl, (by show 1 ≤ sizeLine; decide), fun l1 nl1 => ?_⟩
    have s1 := same_new nl1 (.lst [.str ("folk" : Str)])
    have e1 : (upd H l1 (.lst [.str ("folk" : Str)])) l1 = some (.lst [.str ("folk" : Str)]) := upd_same
    generalize (upd H l1 (.lst [.str ("folk" : Str)])) = H1 at s1 e1
    have hF1 := hF.kp (Same.tup s1)
    refine ⟨_, rfl, _, rfl, ⟨_, SqT.of hF1.at_⟩, fun M2 nM2 => ?_⟩
    refine lc_sameM (walk_tup (xs := pz.map fun z => V.ref z.1)) pz (fun z => .str (perT z.2.1 z.2.2)) (by rw [List.length_map]) (by have := hF.len; omega) nM2 (fun H s => SqT.of (s _ _ hF1.at_)) ?_ ?_
    · rintro i y x H3 H4 hy s3 ⟨rfl, hx1⟩ Q1 q1
      rw [List.getElem?_map, hy] at hx1
      injection hx1 with hx1
      subst hx1
      have hp := hF1.per y (List.mem_of_getElem? hy)
      exact ⟨rfl, _, rfl, y.1, y.2.1, y.2.2, rfl, s3 _ _ hp.1, hp.2.1, hp.2.2, q1 _ (same_refl _)⟩
    intro H2 s2 eM
    have eqp : ([V.str ("folk" : Str)] ++ pz.map fun z => V.str (perT z.2.1 z.2.2)) = (("folk" : Str) :: (pz.map (·.2)).map fun q => perT q.1 q.2).map V.str := by
      rw [List.map_cons, List.map_map, List.map_map]
      rfl
    refine ⟨l1, M2, _, _, rfl, rfl, s2 _ _ e1, eM, ?_, fun q3 nq3 => ?_⟩
    · rw [List.length_map, sizeLine_eq]
      have := hF.len
      show 1 + pz.length ≤ _
      omega
    rw [eqp]
    have s3 := same_new nq3 (.lst ((("folk" : Str) :: (pz.map (·.2)).map fun q => perT q.1 q.2).map V.str))
    have e3 : (upd H2 q3 (.lst ((("folk" : Str) :: (pz.map (·.2)).map fun q => perT q.1 q.2).map V.str))) q3 = some (.lst ((("folk" : Str) :: (pz.map (·.2)).map fun q => perT q.1 q.2).map V.str)) := upd_same
    generalize (upd H2 q3 (.lst ((("folk" : Str) :: (pz.map (·.2)).map fun q => perT q.1 q.2).map V.str))) = H3 at s3 e3
    refine ⟨(" " : Str), q3, _, rfl, rfl, .inl (SqL.of e3), ?_, ?_⟩
    · have := sum_len (m := 20) (ys := ("folk" : Str) :: (pz.map (·.2)).map fun q => perT q.1 q.2) fun y hy => by
        rcases List.mem_cons.mp hy with rfl | hy
        · rw [l4]; decide
        · rw [List.map_map] at hy
          obtain ⟨z, hm, rfl⟩ := List.mem_map.mp hy
          exact per_len (hF.per z hm).2.1 (hF.per z hm).2.2
      have h6 := hF.len
      rw [lsp]
      rw [List.length_cons, List.length_map, List.length_map] at this ⊢
      omega
    have lag := hage.len
    have lage : ("age " : Str).length = 4 := by decide +kernel
    have l0 : PySem.Str.empty.length = 0 := by decide +kernel
    refine ⟨_, rfl, ?_, _, rfl, .inr ⟨age, rfl, hage.log, _, rfl, ?_, ?_⟩⟩
    · simp only [strLen_append]
      rw [l0, lage, sizeLine_eq]
      omega
    · simp only [strLen_append]
      rw [l0, lage, sizeLine_eq]
      have : (PySem.Str.ofString (toString age)).length ≤ 7 := lag
      omega
    rw [show PySem.Str.empty ++ ("age " : Str) ++ PySem.Str.ofString (toString age) = ageTx age from by
      refine ext_str ?_
      rw [tl_append, tl_append, tl_empty, List.nil_append]
      show tl ("age " : Str) ++ tl (intT age) = tl ("age " : Str) ++ intL age
      rw [tl_int]]
    refine ⟨(by show 2 ≤ sizeLine; decide), fun l5 nl5 => ?_⟩
    have s5 := same_new nl5 (.lst [.str (headT (pz.map (·.2))), .str (ageTx age)])
    have e5 : (upd H3 l5 (.lst [.str (headT (pz.map (·.2))), .str (ageTx age)])) l5 = some (.lst [.str (headT (pz.map (·.2))), .str (ageTx age)]) := upd_same
    show _
    have s05 := s1.trans (s2.trans (s3.trans s5))
    generalize hH5 : (upd H3 l5 (.lst [.str (headT (pz.map (·.2))), .str (ageTx age)])) = H5 at s5 e5 s05
    refine ⟨_, rfl, b, fk, t, n, age, zs, rfl, by rw [← hH5] at s05; exact hB.kp (Same.tup s05), by rw [← hH5] at s05; exact hT.ext s05, fun p zs' H6 e6 T6 fr el pm so => ?_⟩
    have e6' : ExtN H5 H6 := hH5 ▸ e6
    have fr' : Fresh H5 p := hH5 ▸ fr
    clear e6 fr
    have hB6 := (hB.kp (Same.tup s05)).kp (ExtN.tup e6')
    have e56 := e6' _ _ e5 fun ps z => by cases z
    have npl : p ≠ l5 := fun z => by
      obtain ⟨ps, h⟩ := fr' _ (z ▸ e5)
      cases h
    have hlen : zs'.length ≤ 16 := by rw [pm.length_eq]; exact hB.len
    have hok' : BkOk n (ens zs') := hB.ok.perm (pm.map _)
    refine ⟨p, rfl, ⟨_, SqL.of el⟩, ?_⟩
    refine for_list (xs := refs zs') (fun i σ H' => ∃ y5, σ = [some (.ref b), some (.ref fk), some (.int age), some (.ref t), some (.ref l5), y5, none, none] ∧ XP l5 H6 H' ∧ Tabs T H' ∧ H' l5 = some (.lst ((headT (pz.map (·.2)) :: ageTx age :: ((ens zs').take i).map lineT).map V.str))) ⟨_, rfl, XP.refl _ _, T6, e56⟩ (fun i σ H' _ h => ?_) ?_ ?_
    · obtain ⟨_, _, x, _, _⟩ := h
      exact SqL.of (x _ _ npl el fun ps z => by cases z)
    · rintro i v σ H7 hv ⟨y5, rfl, x7, T7, e7⟩
      have k7 : KpT H6 H7 := fun c xs e => x7 _ _ (fun z => by rw [z, e56] at e; cases e) e fun ps z => by cases z
      obtain ⟨z, hz, rfl⟩ : ∃ z, zs'[i]? = some z ∧ v = .ref z.1 := by
        rw [show refs zs' = zs'.map fun z => V.ref z.1 from rfl, List.getElem?_map] at hv
        cases hzi : zs'[i]? with
        | none => rw [hzi] at hv; cases hv
        | some z =>
          rw [hzi] at hv
          injection hv with hv
          exact ⟨z, rfl, hv.symm⟩
      have mz := List.mem_of_getElem? hz
      have hi : i < zs'.length := (List.getElem?_eq_some_iff.mp hz).1
      have me : z.2 ∈ ens zs' := List.mem_map_of_mem (f := (·.2)) mz
      obtain ⟨ps, ep, hm, hl9, hat⟩ := ((hB6.ent z (pm.mem_iff.mp mz)).kp k7).pts hok' me hB.n6
      refine ⟨_, rfl, .inl ⟨rfl, _, SqL.of e7⟩, rfl, _, rfl, _, rfl, ⟨_, SqT.of ep⟩, fun M8 nM8 => ?_⟩
      refine lc_sameM (walk_tup (xs := ps.map (·.1))) ps (fun z => .str z.2.txt) (by rw [List.length_map]) (by omega) nM8 (fun H s => SqT.of (s _ _ ep)) ?_ ?_
      · rintro i y x H3 H4 hy s3 ⟨rfl, hx1⟩ Q1 q1
        rw [List.getElem?_map, hy] at hx1
        injection hx1 with hx1
        subst hx1
        exact ⟨rfl, _, rfl, y.1, y.2, rfl, (hat y (List.mem_of_getElem? hy)).kp (Same.tup s3), fun H' s' => q1 _ s'⟩
      intro H8 s8 eM8
      have eqq : (ps.map fun z => V.str z.2.txt) = ((ptsE z.2).map Pt.txt).map V.str := by
        rw [← hm, List.map_map, List.map_map]
        rfl
      rw [eqq] at eM8
      have e8 := s8 _ _ e7
      refine ⟨(" " : Str), M8, _, rfl, rfl, .inl (SqL.of eM8), ?_, l5, _, _, rfl, rfl, e8, small1000 ?_, ?_⟩
      · have := sum_len (m := 999) (ys := (ptsE z.2).map Pt.txt) fun y hy => by
          rw [← hm, List.map_map] at hy
          obtain ⟨u, hu, rfl⟩ := List.mem_map.mp hy
          exact (hat u hu).len
        have h9 : (ptsE z.2).length ≤ 9 := by rw [← hm, List.length_map]; exact hl9
        rw [lsp]
        rw [List.length_map] at this ⊢
        omega
      · rw [List.length_map, List.length_cons, List.length_cons, List.length_map, List.length_take]
        have : (ens zs').length = zs'.length := List.length_map _
        omega
      · have hlin : ((headT (pz.map (·.2)) :: ageTx age :: ((ens zs').take i).map lineT).map V.str) ++ [V.str (Txt.join (" " : Str) ((ptsE z.2).map Pt.txt))] = (headT (pz.map (·.2)) :: ageTx age :: ((ens zs').take (i + 1)).map lineT).map V.str := by
          have hzi : (ens zs')[i]? = some z.2 := by
            show (zs'.map (·.2))[i]? = _
            rw [List.getElem?_map, hz]
            rfl
          rw [List.take_add_one, hzi]
          simp [lineT]
        rw [hlin]
        refine ⟨_, rfl, ?_, Tabs.put (T7.ext s8) e8 _, upd_same⟩
        intro c o n1 h t
        rw [upd_ne n1]
        exact s8 _ _ (x7 c o n1 h t)
    rintro σ H7 ⟨y5, rfl, x7, T7, e7⟩
    have e7' : H7 l5 = some (.lst ((headT (pz.map (·.2)) :: ageTx age :: (ens zs').map lineT).map V.str)) := by
      rw [e7, show (refs zs').length = (ens zs').length from by rw [List.length_map, List.length_map], List.take_length]
    refine ⟨rfl, _, rfl, ("\n" : Str), l5, _, rfl, rfl, .inl (SqL.of e7'), ?_, ?_⟩
    · have := sum_len (m := 9000) (ys := headT (pz.map (·.2)) :: ageTx age :: (ens zs').map lineT) fun y hy => by
        rcases List.mem_cons.mp hy with rfl | hy
        · exact Nat.le_trans (head_len hF) (by decide)
        rcases List.mem_cons.mp hy with rfl | hy
        · exact Nat.le_trans (age_len hage) (by decide)
        obtain ⟨e, he, rfl⟩ := List.mem_map.mp hy
        obtain ⟨z, hz, rfl⟩ := List.mem_map.mp he
        obtain ⟨ps, ep, hm, hl9, hat⟩ := (hB6.ent z (pm.mem_iff.mp hz)).pts hok' he hB.n6
        exact line_len hm hl9 hat
      rw [lnl]
      rw [List.length_cons, List.length_cons, List.length_map, List.length_map] at this ⊢
      omega
    · exact q zs' H7 (XP.toN ((ExtN.of s05).trans e6') (none_back (s1.trans (s2.trans s3)) nl5) x7) T7 pm so
end
end Deed

namespace Deed
open PySem PySem.Spec PyProof.Rows L2 LamX
theorem eqv_ent_self (e : En) : PyData.eqv (entD e) (entD e) = true := by
  unfold entD
  cases e.kd <;> simp [PyData.eqv, PyData.eqvAll, eqvAll_ints]
end Deed

namespace Deed
open PySem PySem.Spec PyProof.Rows L2 LamX
/-! ### books as data -/
def perD (q : Int × Option Int) : PyData := .tuple [.int q.1, match q.2 with | none => .none | some i => .int i]
def bkD (ps : List (Int × Option Int)) (age : Int) (es : List En) : PyData := .tuple [.tuple (ps.map perD), .int age, .tuple (es.map entD)]
theorem PersonAt.dp {K : PySem.W.Frag} {H : Hp} {x : V} (h : PersonAt H x) : ∃ q, Dp K H x (perD q) := by
  obtain ⟨a, b, d, rfl, h1, _, _, h2⟩ := h
  rcases h2 with rfl | ⟨i, rfl, _⟩
  · exact ⟨(b, none), .tup (SqT.of h1) (.cons (.int _) (.cons .non .nil))⟩
  · exact ⟨(b, some i), .tup (SqT.of h1) (.cons (.int _) (.cons (.int _) .nil))⟩
theorem dp_folk {K : PySem.W.Frag} {H : Hp} : ∀ xs : List V, (∀ x ∈ xs, PersonAt H x) → ∃ ps : List (Int × Option Int), DpAll K H xs (ps.map perD)
  | [], _ => ⟨[], .nil⟩
  | x :: r, h => by
    obtain ⟨q, hq⟩ := (h x List.mem_cons_self).dp (K := K)
    obtain ⟨ps, hp⟩ := dp_folk (K := K) r fun y hy => h y (List.mem_cons_of_mem _ hy)
    exact ⟨q :: ps, .cons hq hp⟩
theorem BookAt.dp {K : PySem.W.Frag} {H : Hp} {b b' fk t t' : Addr} {n : Nat} {age : Int} {zs zs' : List (Addr × En)} (h : BookAt H b fk t n age zs) (h' : BookAt H b' fk t' n age zs') : ∃ ps, Dp K H (.ref b) (bkD ps age (ens zs)) ∧ Dp K H (.ref b') (bkD ps age (ens zs')) := by
  obtain ⟨xs, ef, _, hx⟩ := h.folk
  obtain ⟨ps, hp⟩ := dp_folk (K := K) xs hx
  exact ⟨ps, .tup (SqT.of h.at_) (.cons (.tup (SqT.of ef) hp) (.cons (.int _) (.cons (.tup (SqT.of h.ents) (dp_ents zs h.ent)) .nil))), .tup (SqT.of h'.at_) (.cons (.tup (SqT.of ef) hp) (.cons (.int _) (.cons (.tup (SqT.of h'.ents) (dp_ents zs' h'.ent)) .nil)))⟩
theorem depth_per (q : Int × Option Int) : (perD q).depth ≤ 3 := by
  unfold perD
  obtain ⟨b, o⟩ := q
  cases o <;> simp [PyData.depth, PyData.depthAll]
theorem depth_pers : ∀ ps : List (Int × Option Int), PyData.depthAll (ps.map perD) ≤ 4
  | [] => by simp [PyData.depthAll]
  | q :: r => by
    have h1 := depth_per q
    have h2 := depth_pers r
    simp only [List.map_cons, PyData.depthAll]
    omega
theorem lay_pers : ∀ ps : List (Int × Option Int), PyData.canLayAll0 (ps.map perD) = true
  | [] => by simp [PyData.canLayAll0]
  | q :: r => by
    obtain ⟨b, o⟩ := q
    have h := lay_pers r
    cases o <;> simp [perD, PyData.canLayAll0, PyData.canLay0, h]
theorem shaped_bk {n : Nat} {ds as : List Int} (ps : List (Int × Option Int)) (age : Int) (es : List En) (h : ∀ e ∈ es, EnOk n ds as e) : SeqAt.shaped (bkD ps age es) = true := by
  have h1 := depth_ents es
  have h0 := depth_pers ps
  have h2 : PyData.depth (bkD ps age es) ≤ 64 := by
    unfold bkD
    simp only [PyData.depth, PyData.depthAll]
    omega
  show (PyData.canLay0 (bkD ps age es) && decide (PyData.depth (bkD ps age es) ≤ 64)) = true
  rw [Bool.and_eq_true]
  refine ⟨?_, decide_eq_true h2⟩
  have h3 := lay_ents es h
  have h4 := lay_pers ps
  simp [bkD, PyData.canLay0, PyData.canLayAll0, h3, h4]
theorem eqv_pers : ∀ ps : List (Int × Option Int), PyData.eqvAll (ps.map perD) (ps.map perD) = true
  | [] => by simp [PyData.eqvAll]
  | q :: r => by
    obtain ⟨b, o⟩ := q
    have h := eqv_pers r
    cases o <;> simp [perD, PyData.eqvAll, PyData.eqv, h]
theorem eqv_entsA : ∀ es : List En, PyData.eqvAll (es.map entD) (es.map entD) = true
  | [] => by simp [PyData.eqvAll]
  | e :: r => by
    have h := eqv_entsA r
    simp [PyData.eqvAll, eqv_ent_self e, h]
theorem eqv_bk (ps : List (Int × Option Int)) (age : Int) (es : List En) : PyData.eqv (bkD ps age es) (bkD ps age es) = true := by
  simp [bkD, PyData.eqv, PyData.eqvAll, eqv_pers, eqv_entsA]
end Deed

namespace Deed
open PySem PySem.Spec PyProof.Rows L2 LamX TL TX
def tailP (e : En) : List Str := match e.kd with
  | .deed g t rs ws => [intT g, intT t, rowT rs, rowT ws]
  | .act _ o => [intT o]
def TailAt (H : Hp) (o : Addr) (e : En) : Prop := match e.kd with
  | .deed g t rs ws => ∃ r u, H o = some (.tup [.int g, .int t, .ref r, .ref u]) ∧ H r = some (.tup (rs.map V.int)) ∧ H u = some (.tup (ws.map V.int))
  | .act _ i => H o = some (.tup [.int i])
def TailOk (e : En) : Prop := match e.kd with
  | .deed g t rs ws => small g ∧ small t ∧ (rs.length ≤ 99 ∧ ∀ i ∈ rs, small i) ∧ (ws.length ≤ 99 ∧ ∀ i ∈ ws, small i)
  | .act x o => small o ∧ (x = "paid" ∨ x = "void" ∨ x = "undone")
def wordsE (e : En) : List Str := [intT e.num, intT e.day, intT e.wri, intT e.hand, e.word] ++ tailP e
theorem words_pts (e : En) : wordsE e = (ptsE e).map Pt.txt := by
  unfold wordsE tailP ptsE En.word
  cases e.kd <;> rfl
def EntS (e : En) : Prop := small e.num ∧ small e.day ∧ small e.wri ∧ small e.hand ∧ TailOk e
end Deed

namespace Deed
open PySem PySem.Spec PyProof.Rows L2 LamX TL TX
section
variable {J : It} {n : Nat} {G : Hp → Prop} {Y : Nat → Hp → V → Hp → Prop} {g : TG} {te : TE} {vs : List Nat} {σ : L2.St} {H1 : Hp} {D : Addr} {Qd : Hp → Prop} {α : Type}
/-- new objects of whatever kind -/
theorem lc_newG (w : Walk J n G Y) (ys : List α) (O : α → Addr → Hp → Prop) (hO : ∀ y t H H' xs, H D = some (.lst xs) → (∀ a o, a ≠ D → H a = some o → H' a = some o) → O y t H → O y t H') (hn : ys.length = n) (hlen : ys.length ≤ 1000) (nD : H1 D = none) (hG : ∀ H, Same H1 H → G H)
    (hs : ∀ i y x H H', ys[i]? = some y → Same H1 H → (∃ xs, H D = some (.lst xs)) → Y i H x H' → ∀ (Q1 : V → Hp → Prop), (∀ t H4, Same H H4 → O y t H4 → Q1 (.ref t) H4) →
      g x (wipe σ vs) H' fun σ2 H2 => wipe σ2 vs = wipe σ vs ∧ te σ2 H2 Q1)
    (hd : ∀ H (zs : List (Addr × α)), Same H1 H → H D = some (.lst (zs.map fun z => .ref z.1)) → zs.map (·.2) = ys → (∀ z ∈ zs, O z.2 z.1 H) → Qd H) : LcGoal J g tYes te vs σ H1 D Qd := by
  refine lc_gen w ys (fun _ => true) (fun H => Same H1 H ∧ ∃ xs, H D = some (.lst xs)) Same (fun H y u => ∃ t, u = .ref t ∧ O y t H) hn hlen ⟨same_new nD _, _, upd_same⟩ (fun H h => hG H h.1) (fun H H' h1 h2 => ⟨⟨h1.1.trans h2, h1.2.imp fun xs e => h2 _ _ e⟩, fun xs e => h2 _ _ e⟩) (fun H xs l h1 _ => ⟨same_put nD h1.1 _, _, upd_same⟩) (fun H H' y u h1 h2 e => ?_) (fun H xs l y u h1 h2 e => ?_) (fun i y x H H' hy h1 hY Q1 Q0 q1 q0 => ?_) (fun H zs h1 e ez hz => ?_)
  · obtain ⟨t, e1, e2⟩ := e
    obtain ⟨xs, hx⟩ := h1.2
    exact ⟨t, e1, hO y t H H' xs hx (fun a o _ h => h2 a o h) e2⟩
  · obtain ⟨t, e1, e2⟩ := e
    exact ⟨t, e1, hO y t H _ xs h2 (fun a o n h => by rw [upd_ne n]; exact h) e2⟩
  · exact hs i y x H H' hy h1.1 h1.2 hY Q1 (fun t H4 s4 e4 => q1 rfl _ H4 s4 ⟨t, rfl, e4⟩)
  · have key : ∀ zs : List (V × α), (∀ z ∈ zs, ∃ t, z.1 = .ref t ∧ O z.2 t H) → ∃ ws : List (Addr × α), zs.map (·.1) = ws.map (fun z => V.ref z.1) ∧ ws.map (·.2) = zs.map (·.2) ∧ ∀ z ∈ ws, O z.2 z.1 H := by
      intro zs
      induction zs with
      | nil => exact fun _ => ⟨[], rfl, rfl, fun _ h => nomatch h⟩
      | cons z r ih =>
        intro h
        obtain ⟨ws, a1, a2, a3⟩ := ih fun x hx => h x (List.mem_cons_of_mem _ hx)
        obtain ⟨t, e1, e2⟩ := h z List.mem_cons_self
        refine ⟨(t, z.2) :: ws, ?_, ?_, fun x hx => ?_⟩
        · rw [List.map_cons, List.map_cons, a1, e1]
        · rw [List.map_cons, List.map_cons, a2]
        · rcases List.mem_cons.mp hx with h | h
          · rw [h]
            exact e2
          · exact a3 x h
    obtain ⟨ws, a1, a2, a3⟩ := key zs hz
    exact hd H ws h1.1 (by rw [e, a1]) (by rw [a2, ez, List.filter_eq_self.mpr fun _ _ => rfl]) a3
end
/-! ### the rows of a book's text -/
theorem joinL_free {s c : Nat} (hc : c ≠ s) : ∀ parts : List (List Nat), (∀ p ∈ parts, c ∉ p) → c ∉ joinL [s] parts
  | [], _ => List.not_mem_nil
  | [p], h => h p List.mem_cons_self
  | p :: q :: r, h => by
    show c ∉ p ++ ([s] ++ joinL [s] (q :: r))
    rw [List.mem_append, List.mem_append, List.mem_singleton]
    have h2 := joinL_free hc (q :: r) fun z hz => h z (List.mem_cons_of_mem _ hz)
    have h1 := h p List.mem_cons_self
    exact fun z => z.elim h1 fun z => z.elim hc h2
theorem join_free {y : Str} {s c : Nat} (ey : tl y = [s]) (hc : c ≠ s) {parts : List Str} (h : ∀ p ∈ parts, c ∉ tl p) : c ∉ tl (Txt.join y parts) := by
  rw [join_eq, tl_join, ey]
  refine joinL_free hc _ fun p hp => ?_
  obtain ⟨z, hz, rfl⟩ := List.mem_map.mp hp
  exact h z hz
/-- neither a blank nor a new line -/
def Bl (c : Nat) : Prop := c = 32 ∨ c = 10
theorem Bl.int {c : Nat} (h : Bl c) (i : Int) : c ∉ tl (intT i) := by
  rw [tl_int]
  rcases h with rfl | rfl <;> exact intL_free (by decide) (by decide)
theorem Bl.row {c : Nat} (h : Bl c) (ns : List Int) : c ∉ tl (rowT ns) := by
  unfold rowT
  split
  · rw [tl_dash]
    rcases h with rfl | rfl <;> decide
  · refine join_free tl_com (by rcases h with rfl | rfl <;> decide) fun p hp => ?_
    obtain ⟨i, _, rfl⟩ := List.mem_map.mp hp
    exact h.int i
def WordOk (e : En) : Prop := e.word = ("deed" : Str) ∨ e.word = ("paid" : Str) ∨ e.word = ("void" : Str) ∨ e.word = ("undone" : Str)
theorem Bl.words {c : Nat} (h : Bl c) {e : En} (hw : WordOk e) : ∀ p ∈ wordsE e, c ∉ tl p := by
  intro p hp
  unfold wordsE at hp
  rw [List.mem_append] at hp
  rcases hp with hp | hp
  · simp only [List.mem_cons, List.not_mem_nil, or_false] at hp
    rcases hp with rfl | rfl | rfl | rfl | rfl
    · exact h.int _
    · exact h.int _
    · exact h.int _
    · exact h.int _
    · rcases hw with z | z | z | z <;> rw [z] <;> rcases h with rfl | rfl <;> decide +kernel
  · unfold tailP at hp
    split at hp
    · simp only [List.mem_cons, List.not_mem_nil, or_false] at hp
      rcases hp with rfl | rfl | rfl | rfl
      · exact h.int _
      · exact h.int _
      · exact h.row _
      · exact h.row _
    · rw [List.mem_singleton.mp hp]
      exact h.int _
theorem Bl.per {c : Nat} (h : Bl c) (b : Int) (d : Option Int) : c ∉ tl (perT b d) := by
  have hb := h.int b
  rw [tl_int] at hb
  cases d with
  | none =>
    show c ∉ intL b ++ [58, 45]
    rw [List.mem_append]
    refine fun z => z.elim hb ?_
    rcases h with rfl | rfl <;> decide
  | some i =>
    have hi := h.int i
    rw [tl_int] at hi
    show c ∉ intL b ++ 58 :: intL i
    rw [List.mem_append, List.mem_cons]
    exact fun z => z.elim hb fun z => z.elim (by rcases h with rfl | rfl <;> decide) hi
def rowsT (ps : List (Int × Option Int)) (age : Int) (es : List En) : List (List Str) := (("folk" : Str) :: ps.map fun q => perT q.1 q.2) :: [("age" : Str), intT age] :: es.map wordsE
theorem age_join (age : Int) : ageTx age = Txt.join (" " : Str) [("age" : Str), intT age] := by
  refine ext_str ?_
  rw [join_eq, tl_join, tl_spc]
  show tl ("age " : Str) ++ intL age = tl ("age" : Str) ++ ([32] ++ tl (intT age))
  rw [tl_int, ← List.append_assoc]
  congr 1
theorem book_rows (ps : List (Int × Option Int)) (age : Int) (es : List En) : bookT ps age es = Txt.join ("\n" : Str) ((rowsT ps age es).map fun r => Txt.join (" " : Str) r) := by
  unfold bookT rowsT headT lineT
  rw [age_join, List.map_cons, List.map_cons, List.map_map]
  congr 3
  exact List.map_congr_left fun e _ => by rw [← words_pts]; rfl
theorem rows_free {ps : List (Int × Option Int)} {age : Int} {es : List En} (hw : ∀ e ∈ es, WordOk e) {c : Nat} (h : Bl c) : ∀ r ∈ rowsT ps age es, ∀ p ∈ r, c ∉ tl p := by
  intro r hr p hp
  unfold rowsT at hr
  rcases List.mem_cons.mp hr with rfl | hr
  · rcases List.mem_cons.mp hp with rfl | hp
    · rcases h with rfl | rfl <;> decide +kernel
    · obtain ⟨q, _, rfl⟩ := List.mem_map.mp hp
      exact h.per _ _
  rcases List.mem_cons.mp hr with rfl | hr
  · rcases List.mem_cons.mp hp with rfl | hp
    · rcases h with rfl | rfl <;> decide +kernel
    · rw [List.mem_singleton.mp hp]
      exact h.int _
  · obtain ⟨e, he, rfl⟩ := List.mem_map.mp hr
    exact h.words (hw e he) p hp
theorem split_book {ps : List (Int × Option Int)} {age : Int} {es : List En} (hw : ∀ e ∈ es, WordOk e) : Txt.split (bookT ps age es) ("\n" : Str) = (rowsT ps age es).map fun r => Txt.join (" " : Str) r := by
  rw [book_rows]
  refine split_join tl_nl k_nl (by unfold rowsT; simp) fun p hp => ?_
  obtain ⟨r, hr, rfl⟩ := List.mem_map.mp hp
  exact join_free tl_spc (by decide) (rows_free hw (.inr rfl) r hr)
theorem split_rowW {ps : List (Int × Option Int)} {age : Int} {es : List En} (hw : ∀ e ∈ es, WordOk e) {r : List Str} (hr : r ∈ rowsT ps age es) : Txt.split (Txt.join (" " : Str) r) (" " : Str) = r := by
  refine split_join tl_spc k_spc (fun z => ?_) (rows_free hw (.inl rfl) r hr)
  subst z
  unfold rowsT at hr
  rcases List.mem_cons.mp hr with z | hr
  · cases z
  rcases List.mem_cons.mp hr with z | hr
  · cases z
  · obtain ⟨e, _, z⟩ := List.mem_map.mp hr
    unfold wordsE at z
    cases z
end Deed

namespace Deed
open PySem PySem.Spec PyProof.Rows L2 LamX TL TX
theorem up_pair : ∀ {l m : List (Addr × En)}, l.Pairwise (fun u v => u.2.num < v.2.num) → m.Pairwise (fun u v => u.2.num < v.2.num) → l.Perm m → l = m
  | [], m, _, _, p => (List.nil_perm.mp p).symm
  | a :: l, [], _, _, p => absurd p.length_eq (by simp)
  | a :: l, b :: m, h1, h2, p => by
    rw [List.pairwise_cons] at h1 h2
    have e : a = b := by
      rcases List.mem_cons.mp (p.mem_iff.mp (List.mem_cons_self (a := a) (l := l))) with h | h
      · exact h
      · rcases List.mem_cons.mp (p.mem_iff.mpr (List.mem_cons_self (a := b) (l := m))) with g | g
        · exact g.symm
        · have := h1.1 _ g
          have := h2.1 _ h
          omega
    subst e
    rw [up_pair h1.2 h2.2 ((List.perm_cons a).mp p)]
theorem entS_of {n : Nat} {es : List En} (hb : BkOk n es) (hn : n ≤ 6) : ∀ e ∈ es, EntS e ∧ WordOk e := fun e he => by
  have hr := hb.rng e he
  obtain ⟨⟨a1, a2⟩, ⟨b1, b2⟩, ⟨c1, c2⟩, hk⟩ := hb.ok e he
  have in_dn : ∀ x ∈ dn es, small x := fun x hx => by
    obtain ⟨e', h1, h2⟩ := mem_dn.mp hx
    have := hb.rng e' h1
    rw [h2.2] at this
    exact small_of (by omega) (by omega)
  have in_an : ∀ x ∈ an es, small x := fun x hx => by
    obtain ⟨e', h1, h2⟩ := mem_an.mp hx
    have := hb.rng e' h1
    rw [h2.2] at this
    exact small_of (by omega) (by omega)
  unfold EntS TailOk WordOk En.word
  cases hd : e.kd with
  | deed g t rs ws =>
    rw [hd] at hk
    obtain ⟨⟨g1, g2⟩, ⟨t1, t2⟩, _, r1, _, r2, w1, _, w2⟩ := hk
    refine ⟨⟨small_of (by omega) (by omega), small_of (by omega) (by omega), small_of (by omega) (by omega), small_of (by omega) (by omega), small_of (by omega) (by omega), small_of (by omega) (by omega), ⟨by omega, fun i hi => in_dn i (r2 i hi).1⟩, ⟨by omega, fun i hi => ?_⟩⟩, .inl rfl⟩
    have := w2 i hi
    exact small_of (by omega) (by omega)
  | act x o =>
    rw [hd] at hk
    obtain ⟨hx, _⟩ := hk
    refine ⟨⟨small_of (by omega) (by omega), small_of (by omega) (by omega), small_of (by omega) (by omega), small_of (by omega) (by omega), ?_, ?_⟩, ?_⟩
    · rcases hx with ⟨_, ho⟩ | ⟨_, ho⟩
      · exact in_an o ho
      · exact in_dn o ho
    · rcases hx with ⟨h, _⟩ | ⟨h | h, _⟩
      · exact .inr (.inr h)
      · exact .inl h
      · exact .inr (.inl h)
    · rcases hx with ⟨h, _⟩ | ⟨h | h, _⟩
      · exact .inr (.inr (.inr h))
      · exact .inr (.inl h)
      · exact .inr (.inr (.inl h))
end Deed

namespace Deed
open PySem PySem.Spec PyProof.Rows L2 LamX
section
variable {P : Program} {w : World} {K : PySem.W.Frag} {mg : Str → Option Value} {base : Heap}
abbrev sIsBk : Stmt := topS 25
abbrev nIsBk : List Str := ["thing", "folk", "age", "entries", "words", "entry"]
abbrev pIsBk : List Str := ["thing"]
theorem scIsBk : FnScope nIsBk pIsBk (defScope sIsBk) := ⟨rfl, rfl, rfl, by decide +kernel, rfl, by decide +kernel, by decide +kernel⟩
theorem ent_nw {p : Addr} {H : Hp} {n : Int} {v : V} {t : Tg} (hT : TgAt p H v t) (h : isEntT n t = true) : ∃ a xs, v = .ref a ∧ H a = some (.tup xs) ∧ xs[0]? = some (.int (numT t)) ∧ xs[4]? = some (.str (wordT t)) := by
  obtain ⟨num, b, c, d, z, ff, r, rfl, _⟩ := entT_shape h
  obtain ⟨a, xs, ts, rfl, ets, ea, hts⟩ := hT.tupOf rfl
  injection ets with ets
  subst ets
  obtain ⟨x0, g0, h0⟩ := tup_at hts (i := 0) rfl
  obtain ⟨x4, g4, h4⟩ := tup_at hts (i := 4) rfl
  cases h0
  cases h4
  exact ⟨a, xs, rfl, ea, g0, g4⟩
theorem wdT_more {ts : List Tg} {i : Nat} {t : Tg} (h : ts[i]? = some t) : wdT (ts.take (i + 1)) = putK (wdT (ts.take i)) (.inl (numT t)) (.str (wordT t)) := by
  unfold wdT
  rw [take_more h, List.foldl_append]
  rfl
theorem ok_IsBk {f : Addr} {fd : FuncData} {k : Nat} (F : Fun K "is_book" "is_book" sIsBk f fd) (C_is_folk : CallOk P w K mg base k "is_folk" pIsFolkG (spB1 isFolkT)) (C_is_age : CallOk P w K mg base k "is_age" pIsAgeG (spB1 (Tg.within 0 9999))) (C_is_entry : CallOk P w K mg base k "is_entry" pIsEntG spEntG) (C_names_fit : CallOk P w K mg base k "names_fit" pNFit spNFit) (m_isinstance : mg "isinstance" = none) (m_tuple : mg "tuple" = none) (m_len : mg "len" = none) (m_all : mg "all" = none) (mNu : MgInt mg "NUMBER" 0) (mWd : MgInt mg "WORD" 4) (mE : MgInt mg "MOST_ENTRIES" 16) : FnOk P w K mg base CX0 (k + 1) f fd pIsBk (spB1 isBookT) := by
  refine F.ok scIsBk (fun vs H Q E h => ?_) (fun cdv A outer s H vs Q E hr h => ?_)
  · obtain ⟨p, v, t, rfl, _⟩ := h
    rfl
  · obtain ⟨p, v, t, rfl, hT, q⟩ := h
    have nd := scIsBk.nd
    have hu := hu_of hr
    refine ⟨_, pss_cons (ps_if (PW.pt (pw_or (pt_not (pt_val (pe_callB call_isi (by rfl) m_isinstance (by decide +kernel) (pa_cons (pv 0) (pa_cons (pe_bltn (v := .ty "tuple") (by rfl) m_tuple (by decide +kernel) rfl) pa_nil))))) (pw_or1 (pt_cmpR op_ne (pe_callB call_len_seq (by rfl) m_len (by decide +kernel) (pa_cons (pv 0) pa_nil)) pe_int (nomark _))))) (pss_one (ps_ret pe_bl)) pss_nil)
      (pss_cons (ps_asg (pv 0) (pg_tup (by rfl) (pgs_cons (pg_name (i := 1) nd rfl (.inr rfl)) (pgs_cons (pg_name (i := 2) nd rfl (.inl rfl)) (pgs_cons (pg_name (i := 3) nd rfl (.inl rfl)) pgs_nil)))))
      (pss_cons (ps_if (PW.pt (pw_or (pt_not (pt_val (pe_call C_is_folk.ok hr (by rfl) C_is_folk.g C_is_folk.kp C_is_folk.b .nil pass0 (pa_cons (pv 1) pa_nil)))) (pw_or1 (pt_not (pt_val (pe_call C_is_age.ok hr (by rfl) C_is_age.g C_is_age.kp C_is_age.b .nil pass0 (pa_cons (pv 2) pa_nil))))))) (pss_one (ps_ret pe_bl)) pss_nil)
      (pss_cons (ps_if (PW.pt (pw_or (pt_not (pt_val (pe_callB call_isi (by rfl) m_isinstance (by decide +kernel) (pa_cons (pv 3) (pa_cons (pe_bltn (v := .ty "tuple") (by rfl) m_tuple (by decide +kernel) rfl) pa_nil))))) (pw_or1 (pt_cmpR op_gt (pe_callB call_len_seq (by rfl) m_len (by decide +kernel) (pa_cons (pv 3) pa_nil)) (pe_num (by rfl) mE) (nomark _))))) (pss_one (ps_ret pe_bl)) pss_nil)
      (pss_cons (ps_if (pt_not (pt_val (pe_callB (cr_all rfl) (by rfl) m_all (by decide +kernel) (pa_cons (pe_lc (own := [("entry", 5)]) (g := gName 5) (by rfl) nd (pi_tup (pv 3)) (blkOk_by (own := [("entry", 5)]) (N := nIsBk) (sc := defScope sIsBk) (by decide +kernel)) (fun _ _ _ _ _ => pg_name (i := 5) nd rfl (Or.inl rfl)) (fun _ _ _ _ _ => pts_nil)
          (fun _ _ _ _ _ => pe_call C_is_entry.ok hr (by rfl) C_is_entry.g C_is_entry.kp C_is_entry.b .nil pass0 (pa_cons (pv 1) (pa_cons (pv 5) pa_nil)))) pa_nil)))) (pss_one (ps_ret pe_bl)) pss_nil)
      (pss_cons (ps_set (i := 4) nd rfl (.inr rfl) (pe_dc (own := [("entry", 5)]) (g := gName 5) (by rfl) nd (pi_tup (pv 3)) (blkOk_by (own := [("entry", 5)]) (N := nIsBk) (sc := defScope sIsBk) (by decide +kernel)) (fun _ _ _ _ _ => pg_name (i := 5) nd rfl (Or.inl rfl)) (fun _ _ _ _ _ => pts_nil)
          (fun _ _ _ _ _ => show PE _ _ (tOp (rIxT K) (tVar 5) (tC (.int 0))) from pe_ix ix_tup (pv 5) (pe_num (by rfl) mNu) (fun _ _ => rfl)) (fun _ _ _ _ _ => show PE _ _ (tOp (rIxT K) (tVar 5) (tC (.int 4))) from pe_ix ix_tup (pv 5) (pe_num (by rfl) mWd) (fun _ _ => rfl))))
      (pss_one (ps_ret (pe_and (pe_cmpR op_eq (pe_callB call_lenD (by rfl) m_len PySem.boot_len (pa_cons (pv 4) pa_nil)) (pe_callB call_len_seq (by rfl) m_len PySem.boot_len (pa_cons (pv 3) pa_nil)) (nomark _)) (pe_one (pe_callB (cr_all rfl) (by rfl) m_all (by decide +kernel) (pa_cons (pe_lc (own := [("entry", 5)]) (g := gName 5) (by rfl) nd (pi_tup (pv 3)) (blkOk_by (own := [("entry", 5)]) (N := nIsBk) (sc := defScope sIsBk) (by decide +kernel)) (fun _ _ _ _ _ => pg_name (i := 5) nd rfl (Or.inl rfl)) (fun _ _ _ _ _ => pts_nil)
          (fun _ _ _ _ _ => pe_call C_names_fit.ok hr (by rfl) C_names_fit.g C_names_fit.kp C_names_fit.b .nil pass0 (pa_cons (pv 4) (pa_cons (pv 5) pa_nil)))) pa_nil))))))))))), ?_⟩
    refine ⟨_, rfl, _, _, _, _, t.isT, rfl, .ty "tuple", hT.ty, kit_ty t.kT, _, rfl, ?_⟩
    cases hc : t.isT with
    | false =>
      refine iteT ?_
      have h := q _ (same_refl _)
      have e : isBookT t = false := by cases t <;> first | rfl | cases hc
      rw [e] at h
      exact h
    | true =>
    refine iteF ?_
    obtain ⟨a, xs, ts, rfl, rfl, ea, hts⟩ := hT.tupOf hc
    have hlen := hts.length
    refine ⟨_, rfl, a, _, rfl, .inr (SqT.of ea), rfl, _, rfl, ?_⟩
    by_cases h3 : ts.length = 3
    rotate_left
    · rw [show decide (V.int (xs.length : Nat) = V.int 3) = false from decide_eq_false fun z => h3 (by injection z with z; omega)]
      refine iteT ?_
      have h := q _ (same_refl _)
      have e : isBookT (.tup ts) = false := by
        match ts, h3 with
        | [], _ => rfl
        | [_], _ => rfl
        | [_, _], _ => rfl
        | [_, _, _], h3 => exact absurd rfl h3
        | _ :: _ :: e3 :: _ :: _, _ => cases e3 <;> rfl
      rw [e] at h
      exact h
    rw [show decide (V.int (xs.length : Nat) = V.int 3) = true from decide_eq_true (by rw [hlen, h3]; rfl)]
    refine iteF ?_
    obtain ⟨tf, tg, te, rfl⟩ : ∃ x y u, ts = [x, y, u] := by
      match ts, h3 with
      | [x, y, u], _ => exact ⟨x, y, u, rfl⟩
    match xs, hts with
    | [xf, xg, xe], .cons hf (.cons hg (.cons he .nil)) =>
    refine ⟨_, rfl, a, _, rfl, SqT.of ea, rfl, _, _, rfl, _, _, rfl, _, _, rfl, rfl, ?_⟩
    refine ⟨_, rfl, p, xf, tf, rfl, hf, fun H1 s1 => ⟨_, rfl, ?_⟩⟩
    have bad1 : ∀ H', Same H H' → isFolkT tf = false → Q (.bl false) H' := fun H' s' hb => by
      have h := q _ s'
      have e : isBookT (.tup [tf, tg, te]) = false := by
        cases te with
        | tup es =>
          show (isFolkT tf && _) = false
          rw [hb]
          rfl
        | _ => rfl
      rw [e] at h
      exact h
    cases c1 : isFolkT tf with
    | false => exact iteT (bad1 _ s1 c1)
    | true =>
    refine iteF ?_
    refine ⟨_, rfl, p, xg, tg, rfl, TgAt.same s1 _ _ hg, fun H2 s2 => ⟨_, rfl, ?_⟩⟩
    have s02 := s1.trans s2
    cases c2 : tg.within 0 9999 with
    | false =>
      refine iteT ?_
      have h := q _ s02
      have e : isBookT (.tup [tf, tg, te]) = false := by
        cases te with
        | tup es =>
          show (isFolkT tf && (tg.within 0 9999 && _)) = false
          rw [c1, c2]
          rfl
        | _ => rfl
      rw [e] at h
      exact h
    | true =>
    refine iteF ?_
    have he2 := TgAt.same s02 _ _ he
    refine ⟨_, rfl, _, _, _, _, te.isT, rfl, .ty "tuple", he2.ty, kit_ty te.kT, _, rfl, ?_⟩
    cases hc2 : te.isT with
    | false =>
      refine iteT ?_
      have h := q _ s02
      have e : isBookT (.tup [tf, tg, te]) = false := by cases te <;> first | rfl | cases hc2
      rw [e] at h
      exact h
    | true =>
    refine iteF ?_
    obtain ⟨t2, ys, es, rfl, rfl, et, hes⟩ := he.tupOf hc2
    have q1 : ∀ H', Same H H' → Q (.bl (isFolkT tf && (tg.within 0 9999 && (decide (es.length ≤ 16) && (es.all (isEntT (lenT tf)) && (decide ((wdT es).length = es.length) && es.all (fitT (wdT es)))))))) H' := q
    rw [c1, c2, Bool.true_and, Bool.true_and] at q1
    have hlen2 := hes.length
    refine ⟨_, rfl, t2, _, rfl, .inr (SqT.of (s02 _ _ et)), _, _, rfl, rfl, _, rfl, ?_⟩
    by_cases h16 : es.length ≤ 16
    rotate_left
    · rw [decide_eq_true (show ((ys.length : Nat) : Int) > 16 by omega)]
      refine iteT ?_
      rw [decide_eq_false h16] at q1
      exact q1 _ s02
    rw [decide_eq_false (show ¬ ((ys.length : Nat) : Int) > 16 by omega)]
    refine iteF ?_
    rw [decide_eq_true h16, Bool.true_and] at q1
    have et2 := s02 _ _ et
    refine ⟨_, rfl, t2, rfl, ⟨_, SqT.of et2⟩, fun M nM => ?_⟩
    refine lc_sameM (walk_tup (xs := ys)) es (fun y => .bl (isEntT (lenT tf) y)) hlen2.symm (by omega) nM (fun H s => SqT.of (s _ _ et2)) ?_ ?_
    · rintro i y x H3' H3 hy s3 ⟨rfl, hx⟩ Q1 q1'
      refine ⟨rfl, _, rfl, _, rfl, p, xf, x, tf, y, rfl, TgAt.same (s02.trans s3) _ _ hf, TgAt.same (s02.trans s3) _ _ (hes.at hx hy), fun H4 s4 => ?_⟩
      rw [c1, Bool.true_and]
      exact q1' _ s4
    intro H3 s3 eM
    have s03 := s02.trans s3
    refine ⟨M, es.map (isEntT (lenT tf)), rfl, SqL.of (by rw [eM, List.map_map]; rfl), ?_⟩
    rw [all_map_id]
    refine ⟨_, rfl, ?_⟩
    cases c3 : es.all (isEntT (lenT tf)) with
    | false =>
      refine iteT ?_
      rw [c3, Bool.false_and] at q1
      exact q1 _ s03
    | true =>
    refine iteF ?_
    rw [c3, Bool.true_and] at q1
    have hall := List.all_eq_true.mp c3
    have et3 := s03 _ _ et
    refine ⟨_, rfl, t2, rfl, ⟨_, SqT.of et3⟩, fun W nW => ?_⟩
    refine dc_tup (K := K) (a := t2) (xs := ys) (fun i H' => H' W = some (.dK (wdT (es.take i))) ∧ Same H3 H') ⟨upd_same, same_new nW _⟩ (fun i H' _ h => SqT.of (h.2 _ _ et3)) ?_ ?_
    · rintro i x H' hx ⟨eW, sm⟩
      obtain ⟨y, hy, hxy⟩ := hes.get hx
      obtain ⟨ya, yxs, rfl, eya, g0, g4⟩ := ent_nw (TgAt.same (s03.trans sm) _ _ hxy) (hall y (List.mem_of_getElem? hy))
      have hwl := wdT_len (es.take i) []
      have htl : (es.take i).length ≤ 16 := by rw [List.length_take]; omega
      refine ⟨rfl, ?_⟩
      unfold tYes
      dsimp only
      rw [if_pos rfl]
      refine ⟨_, rfl, ya, yxs, 0, _, rfl, rfl, SqT.of eya, atI_nat (j := 0) g0, _, rfl, ya, yxs, 4, _, rfl, rfl, SqT.of eya, atI_nat (j := 4) g4, _, Sum.inl (numT y), rfl, eW, small1000 (by unfold wdT; simp at hwl; omega), ?_, same_put nW sm _⟩
      rw [upd_same, wdT_more hy]
    rintro H4 ⟨eW, s4⟩
    rw [hlen2, List.take_length] at eW
    have s04 := s03.trans s4
    have et4 := s04 _ _ et
    refine ⟨_, rfl, W, _, rfl, eW, _, rfl, t2, _, rfl, .inr (SqT.of et4), rfl, _, rfl, ?_⟩
    rw [show decide (V.int ((wdT es).length : Int) = V.int ((ys.length : Nat) : Int)) = decide ((wdT es).length = es.length) by
      by_cases e : (wdT es).length = es.length
      · rw [decide_eq_true e, decide_eq_true (by rw [e, hlen2])]
      · rw [decide_eq_false e, decide_eq_false fun z => e (by injection z with z; omega)]]
    cases c4 : decide ((wdT es).length = es.length) with
    | false =>
      refine iteF ?_
      rw [c4, Bool.false_and] at q1
      exact q1 _ s04
    | true =>
    refine iteT ?_
    rw [c4, Bool.true_and] at q1
    refine ⟨_, rfl, t2, rfl, ⟨_, SqT.of et4⟩, fun M2 nM2 => ?_⟩
    refine lc_sameM (walk_tup (xs := ys)) es (fun y => .bl (fitT (wdT es) y)) hlen2.symm (by omega) nM2 (fun H s => SqT.of (s _ _ et4)) ?_ ?_
    · rintro i y x H5' H5 hy s5 ⟨rfl, hx⟩ Q1 q1'
      exact ⟨rfl, _, rfl, _, rfl, p, W, wdT es, x, y, lenT tf, rfl, s5 _ _ eW, wdT_ok es [] (fun _ h => nomatch h), TgAt.same (s04.trans s5) _ _ (hes.at hx hy), hall y (List.mem_of_getElem? hy), fun H6 s6 => q1' _ s6⟩
    intro H5 s5 eM2
    refine ⟨M2, es.map (fitT (wdT es)), rfl, SqL.of (by rw [eM2, List.map_map]; rfl), ?_⟩
    rw [all_map_id]
    exact q1 _ (s04.trans s5)
end
end Deed

namespace Deed
open PySem PySem.Spec PyProof.Rows L2 LamX TL TX
/-! ### a book is a book -/
theorem fitE_mem {n : Nat} {es : List En} (h : BkOk n es) {e : En} (he : e ∈ es) : fitE es e = true := by
  obtain ⟨_, _, _, hk⟩ := h.ok e he
  unfold fitE En.isDeed En.rests En.word En.of
  cases hd : e.kd with
  | deed g t rs ws =>
    rw [hd] at hk
    show rs.all (fun r => decide (r ∈ dn es)) = true
    exact List.all_eq_true.mpr fun r hr => decide_eq_true (hk.2.2.2.2.2.1 r hr).1
  | act x o =>
    rw [hd] at hk
    rcases hk.1 with ⟨rfl, ho⟩ | ⟨hx, ho⟩
    · show (if ("undone" : Str) = "undone" then decide (o ∈ an es) else decide (o ∈ dn es)) = true
      rw [if_pos rfl]
      exact decide_eq_true ho
    · show (if x = "undone" then decide (o ∈ an es) else decide (o ∈ dn es)) = true
      rw [if_neg (fun q => by rcases hx with z | z <;> (rw [z] at q; exact absurd q (by decide)))]
      exact decide_eq_true ho
theorem wdT_all : ∀ (es pre : List En), ((pre ++ es).map (·.num)).Nodup → (es.map entT).foldl (fun kvs t => putK kvs (.inl (numT t)) (.str (wordT t))) (wdk pre) = wdk (pre ++ es)
  | [], pre, _ => by rw [List.append_nil]; rfl
  | e :: r, pre, h => by
    have hn : e.num ∉ pre.map (·.num) := fun z => by
      rw [List.map_append, List.map_cons] at h
      exact (List.nodup_append.mp h).2.2 _ z _ List.mem_cons_self rfl
    have e1 : pre ++ e :: r = (pre ++ [e]) ++ r := by simp
    rw [List.map_cons, List.foldl_cons, numT_ent, wordT_ent, wdk_snoc hn, wdT_all r (pre ++ [e]) (by rw [← e1]; exact h), ← e1]
theorem entOk_mem {n : Nat} {es : List En} (h : BkOk n es) {e : En} (he : e ∈ es) : EntOk n e :=
  (h.ok e he).entOk (h.rng e he) (fun d hd => by
    obtain ⟨u, hu, _, rfl⟩ := mem_dn.mp hd
    exact (h.rng u hu).1) (fun d hd => by
    obtain ⟨u, hu, _, rfl⟩ := mem_an.mp hd
    exact (h.rng u hu).1)
theorem tgAll_ents {p : Addr} {H : Hp} : ∀ zs : List (Addr × En), (∀ z ∈ zs, EntAt H z.1 z.2) → TgAll p H (refs zs) ((ens zs).map entT)
  | [], _ => .nil
  | z :: r, h => .cons (h z List.mem_cons_self).tg (tgAll_ents r fun y hy => h y (List.mem_cons_of_mem _ hy))
theorem book_tg {p : Addr} {H : Hp} {b fk t : Addr} {n : Nat} {age : Int} {zs : List (Addr × En)} (h : BookAt H b fk t n age zs) : ∃ tb, TgAt p H (.ref b) tb ∧ isBookT tb = true := by
  obtain ⟨ts, hts, htl, _, hfo⟩ := folk_tg (p := p) h.folk (by have := h.n6; omega)
  refine ⟨.tup [.tup ts, .int age, .tup ((ens zs).map entT)], .tup h.at_ (.cons hts (.cons (.int _) (.cons (.tup h.ents (tgAll_ents zs h.ent)) .nil))), ?_⟩
  have h1 : isFolkT (.tup ts) = true := by
    show ((decide (1 ≤ ts.length) && decide (ts.length ≤ 6)) && ts.all isPersonT) = true
    rw [hfo, htl, decide_eq_true (by have := h.n2; omega), decide_eq_true h.n6]
    rfl
  have h2 : (Tg.int age).within 0 9999 = true := by
    show (decide (0 ≤ age) && decide (age ≤ 9999)) = true
    rw [decide_eq_true h.age0, decide_eq_true h.age1]
    rfl
  have h3 : lenT (.tup ts) = n := by
    show ((ts.length : Nat) : Int) = n
    rw [htl]
  have hl : (ens zs).length = zs.length := List.length_map _
  have h4 : wdT ((ens zs).map entT) = wdk (ens zs) := wdT_all (ens zs) [] h.ok.nd
  have h5 : ((ens zs).map entT).all (isEntT n) = true := by
    rw [List.all_map]
    refine List.all_eq_true.mpr fun e he => ?_
    refine (isEntT_iff fun x o hk z => ?_).mpr (entOk_mem h.ok he)
    have h6 := (h.ok.ok e he).word
    unfold En.word En.isDeed at h6
    rw [hk] at h6
    exact absurd (h6.mp z) (by simp)
  have h7 : ((ens zs).map entT).all (fitT (wdk (ens zs))) = true := by
    rw [List.all_map]
    refine List.all_eq_true.mpr fun e he => ?_
    show fitT (wdk (ens zs)) (entT e) = true
    rw [fitT_ent h.ok.esOk (h.ok.ok e he).word]
    exact fitE_mem h.ok he
  show (isFolkT (.tup ts) && ((Tg.int age).within 0 9999 && (decide (((ens zs).map entT).length ≤ 16) && (((ens zs).map entT).all (isEntT (lenT (.tup ts))) && (decide ((wdT ((ens zs).map entT)).length = ((ens zs).map entT).length) && ((ens zs).map entT).all (fitT (wdT ((ens zs).map entT)))))))) = true
  rw [h1, h2, h3, h4, h5, h7, List.length_map, hl, decide_eq_true h.len]
  have h8 : (wdk (ens zs)).length = zs.length := by
    rw [← hl]
    exact List.length_map _
  rw [h8, decide_eq_true rfl]
  rfl
end Deed

namespace Deed
open PySem PySem.Spec PyProof.Rows L2 LamX TL TX
def WdA (v : V) (x : Str) : Prop := (∃ i, v = .int i ∧ small i ∧ x = intT i) ∨ (v = .str x ∧ x.length ≤ 999)
theorem WdA.len {v : V} {x : Str} (h : WdA v x) : x.length ≤ 999 := by
  rcases h with ⟨i, _, hi, rfl⟩ | ⟨_, h⟩
  · exact Nat.le_trans hi.len (by decide)
  · exact h
section
variable {P : Program} {w : World} {K : PySem.W.Frag} {mg : Str → Option Value} {base : Heap} {T : List (Addr × Str)}
abbrev sLWords : Stmt := topS 50
abbrev nLWords : List Str := ["_law_things", "_law_thing_here"]
abbrev pLWords : List Str := ["_law_things"]
theorem scLWords : FnScope nLWords pLWords (defScope sLWords) := ⟨rfl, rfl, rfl, by decide +kernel, rfl, by decide +kernel, by decide +kernel⟩
def spLWords : Sp := fun vs H Q _ => ∃ (a : Addr) (zs : List (V × Str)), vs = [.ref a] ∧ H a = some (.tup (zs.map (·.1))) ∧ zs.length ≤ 9 ∧ (∀ z ∈ zs, WdA z.1 z.2) ∧ ∀ H', Same H H' → Q (.str (Txt.join (" " : Str) (zs.map (·.2)))) H'
theorem ok_LWords {f : Addr} {fd : FuncData} {k : Nat} (F : Fun K "_law_words" "_law_words" sLWords f fd) (m_str : mg "str" = none) : FnOk P w K mg base CX0 (k + 1) f fd pLWords spLWords := by
  refine F.ok scLWords (fun vs H Q E h => ?_) (fun cdv A outer s H vs Q E hr h => ?_)
  · obtain ⟨a, zs, rfl, _⟩ := h
    rfl
  · obtain ⟨a, zs, rfl, ha, hl, hz, q⟩ := h
    have nd := scLWords.nd
    refine ⟨_, pss_one (ps_ret (pe_bm PySem.F.plainAttrs_str PySem.F.slot_str_join PySem.F.type_str_join mt_join pe_str (pa_cons (pe_lc (own := [("_law_thing_here", 1)]) (g := gName 1) (by rfl) nd (pi_tup (pv 0)) (blkOk_by (own := [("_law_thing_here", 1)]) (N := nLWords) (sc := defScope sLWords) (by decide +kernel)) (fun _ _ _ _ _ => (pg_name (i := 1) nd rfl (.inl rfl))) (fun _ _ _ _ _ => pts_nil)
          (fun _ _ _ _ _ => (pe_callTy (CallR.or call_str_int SkE.call_str_str) (by rfl) m_str (by decide +kernel) (pa_cons (pv 1) pa_nil)))) pa_nil))), ?_⟩
    refine ⟨rfl, _, rfl, _, rfl, ⟨_, SqT.of ha⟩, fun M1 nM1 => ?_⟩
    refine lc_sameM (walk_tup (xs := zs.map (·.1))) zs (fun z => .str z.2) (by rw [List.length_map]) (by omega) nM1 (fun H s => SqT.of (s _ _ ha)) ?_ ?_
    · rintro i y x H3 H4 hy s3 ⟨rfl, hx1⟩ Q1 q1
      rw [List.getElem?_map, hy] at hx1
      injection hx1 with hx1
      subst hx1
      refine ⟨rfl, _, rfl, ?_⟩
      rcases hz y (List.mem_of_getElem? hy) with ⟨i, e1, hi, e2⟩ | ⟨e1, _⟩
      · exact .inl ⟨i, congrArg (fun v => [v]) e1, hi.log, by have := q1 _ (same_refl _); rw [e2] at this; exact this⟩
      · exact .inr ⟨y.2, congrArg (fun v => [v]) e1, q1 _ (same_refl _)⟩
    intro H2 s2 eM
    refine ⟨(" " : Str), M1, zs.map (·.2), rfl, rfl, .inl (SqL.of (by rw [eM, List.map_map]; rfl)), ?_, q H2 s2⟩
    have := sum_len (m := 999) (ys := zs.map (·.2)) fun y hy => by
      obtain ⟨z, hm, rfl⟩ := List.mem_map.mp hy
      exact (hz z hm).len
    have lsp : (" " : Str).length = 1 := by decide +kernel
    rw [lsp]
    rw [List.length_map] at this ⊢
    omega
abbrev sLRow : Stmt := topS 51
abbrev nLRow : List Str := ["_law_numbers", "_law_number_here"]
abbrev pLRow : List Str := ["_law_numbers"]
theorem scLRow : FnScope nLRow pLRow (defScope sLRow) := ⟨rfl, rfl, rfl, by decide +kernel, rfl, by decide +kernel, by decide +kernel⟩
def spLRow : Sp := fun vs H Q _ => ∃ (a : Addr) (ns : List Int), vs = [.ref a] ∧ H a = some (.tup (ns.map V.int)) ∧ ns.length ≤ 99 ∧ (∀ i ∈ ns, small i) ∧ ∀ H', Same H H' → Q (.str (rowT ns)) H'
theorem ok_LRow {f : Addr} {fd : FuncData} {k : Nat} (F : Fun K "_law_row" "_law_row" sLRow f fd) (m_str : mg "str" = none) : FnOk P w K mg base CX0 (k + 1) f fd pLRow spLRow := by
  refine F.ok scLRow (fun vs H Q E h => ?_) (fun cdv A outer s H vs Q E hr h => ?_)
  · obtain ⟨a, ns, rfl, _⟩ := h
    rfl
  · obtain ⟨a, ns, rfl, ha, hl, hs, q⟩ := h
    have nd := scLRow.nd
    refine ⟨_, pss_one (ps_ret (pe_ifExp (pt_cmpR (op_neD hr.units) (pv 0) (pe_tup pa_nil) (nomark _)) (pe_bm PySem.F.plainAttrs_str PySem.F.slot_str_join PySem.F.type_str_join mt_join pe_str (pa_cons (pe_lc (own := [("_law_number_here", 1)]) (g := gName 1) (by rfl) nd (pi_tup (pv 0)) (blkOk_by (own := [("_law_number_here", 1)]) (N := nLRow) (sc := defScope sLRow) (by decide +kernel)) (fun _ _ _ _ _ => (pg_name (i := 1) nd rfl (.inl rfl))) (fun _ _ _ _ _ => pts_nil)
          (fun _ _ _ _ _ => (pe_callTy call_str_int (by rfl) m_str (by decide +kernel) (pa_cons (pv 1) pa_nil)))) pa_nil)) pe_str)), ?_⟩
    refine ⟨_, rfl, Nat.zero_le _, fun t1 nt1 => ?_⟩
    have s1 := same_new nt1 (.tup [])
    have e1 : (upd H t1 (.tup [])) t1 = some (.tup []) := upd_same
    generalize (upd H t1 (.tup [])) = H1 at s1 e1
    have ha1 := s1 _ _ ha
    have hsh : SeqAt.shaped (.tuple (ns.map PyData.int)) = true := by
      unfold SeqAt.shaped
      rw [Bool.and_eq_true]
      refine ⟨by rw [PyData.canLay0]; exact PySem.W.ke_canLayAll0 ns, decide_eq_true ?_⟩
      rw [PyData.depth, PySem.W.ke_depthAll]
      decide
    refine ⟨.tuple (ns.map PyData.int), .tuple [], .tup (SqT.of ha1) (dp_ints ns), .tup (SqT.of e1) .nil, hsh, by decide, _, rfl, ?_⟩
    by_cases h0 : ns = []
    · subst h0
      refine iteF ?_
      exact q H1 s1
    · have hne : PyData.eqv (.tuple (ns.map PyData.int)) (.tuple []) = false := by
        cases ns with
        | nil => exact absurd rfl h0
        | cons i r => simp [PyData.eqv, PyData.eqvAll]
      rw [hne]
      refine iteT ?_
      refine ⟨rfl, _, rfl, _, rfl, ⟨_, SqT.of ha1⟩, fun M nM => ?_⟩
      refine lc_sameM (walk_tup (xs := ns.map V.int)) ns (fun i => .str (intT i)) (by rw [List.length_map]) (by omega) nM (fun H s => SqT.of (s _ _ ha1)) ?_ ?_
      · rintro i y x H3 H4 hy s3 ⟨rfl, hx1⟩ Q1 q1
        rw [List.getElem?_map, hy] at hx1
        injection hx1 with hx1
        subst hx1
        exact ⟨rfl, _, rfl, y, rfl, (hs y (List.mem_of_getElem? hy)).log, q1 _ (same_refl _)⟩
      intro H2 s2 eM
      refine ⟨com, M, ns.map intT, rfl, rfl, .inl (SqL.of (by rw [eM, List.map_map]; rfl)), ?_, ?_⟩
      · have := sum_len (m := 7) (ys := ns.map intT) fun y hy => by
          obtain ⟨i, hi, rfl⟩ := List.mem_map.mp hy
          exact (hs i hi).len
        have l1 : com.length = 1 := by decide +kernel
        rw [List.length_map] at this ⊢
        rw [l1]
        omega
      · have e0 : rowT ns = Txt.join com (ns.map intT) := by unfold rowT; rw [if_neg h0]
        have := q H2 (s1.trans s2)
        show Q (.str (Txt.join com (ns.map intT))) H2
        rw [← e0]
        exact this
end
end Deed

namespace Deed
open PySem PySem.Spec PyProof.Rows L2 LamX TL TX
section
variable {P : Program} {w : World} {K : PySem.W.Frag} {mg : Str → Option Value} {base : Heap} {T : List (Addr × Str)}
abbrev sLEntT : Stmt := topS 52
abbrev nLEntT : List Str := ["_law_entry"]
abbrev pLEntT : List Str := ["_law_entry"]
theorem scLEntT : FnScope nLEntT pLEntT (defScope sLEntT) := ⟨rfl, rfl, rfl, by decide +kernel, rfl, by decide +kernel, by decide +kernel⟩
def spLEntT : Sp := fun vs H Q _ => ∃ (a : Addr) (e : En), vs = [.ref a] ∧ EntAt H a e ∧ EntS e ∧ WordOk e ∧ (e.word = "deed" ↔ e.isDeed = true) ∧ ∀ H', Same H H' → Q (.str (lineT e)) H'
theorem ok_LEntT {f : Addr} {fd : FuncData} {k : Nat} (F : Fun K "_law_entry_text" "_law_entry_text" sLEntT f fd) (C__law_words : CallOk P w K mg base k "_law_words" pLWords spLWords) (C__law_row : CallOk P w K mg base k "_law_row" pLRow spLRow) : FnOk P w K mg base CX0 (k + 1) f fd pLEntT spLEntT := by
  refine F.ok scLEntT (fun vs H Q E h => ?_) (fun cdv A outer s H vs Q E hr h => ?_)
  · obtain ⟨a, e, rfl, _⟩ := h
    rfl
  · obtain ⟨a, e, rfl, hE, ⟨h1, h2, h3, h4, h5⟩, hw, hwd, q⟩ := h
    have nd := scLEntT.nd
    refine ⟨_, pss_cons (ps_if (pt_cmpR op_eq (pe_ix ix_tup (pv 0) pe_int (fun _ _ => rfl)) pe_str (nomark _)) (pss_one (ps_ret (pe_call C__law_words.ok hr (by rfl) C__law_words.g C__law_words.kp C__law_words.b .nil pass0 (pa_cons (pe_op op_catA (pe_slice sl_tupA (pv 0) po_none (po_some pe_int)) (pe_tup (pa_cons (pe_call C__law_row.ok hr (by rfl) C__law_row.g C__law_row.kp C__law_row.b .nil pass0 (pa_cons (pe_ix ix_tup (pv 0) pe_int (fun _ _ => rfl)) pa_nil)) (pa_cons (pe_call C__law_row.ok hr (by rfl) C__law_row.g C__law_row.kp C__law_row.b .nil pass0 (pa_cons (pe_ix ix_tup (pv 0) pe_int (fun _ _ => rfl)) pa_nil)) pa_nil)))) pa_nil)))) pss_nil)
      (pss_one (ps_ret (pe_call C__law_words.ok hr (by rfl) C__law_words.g C__law_words.kp C__law_words.b .nil pass0 (pa_cons (pv 0) pa_nil)))), ?_⟩
    have hwl : e.word.length ≤ 999 := by rcases hw with z | z | z | z <;> rw [z] <;> decide +kernel
    have wint : ∀ i, small i → WdA (.int i) (intT i) := fun i hi => .inl ⟨i, rfl, hi, rfl⟩
    unfold EntAt TailOk at *
    cases hk : e.kd with
    | deed g t rs ws =>
      rw [hk] at hE h5
      obtain ⟨r, u, ha, hr', hu⟩ := hE
      refine ⟨_, rfl, a, _, _, _, rfl, rfl, SqT.of ha, (atI_nat (j := 4) rfl), rfl, _, rfl, ?_⟩
      rw [decide_eq_true rfl]
      refine iteT ?_
      refine ⟨_, rfl, ?_⟩
      dsimp only [tNoPart]
      refine ⟨_, rfl, slA_same ha fun t1 H1 s1 e1 => ?_⟩
      have e1' : H1 t1 = some (.tup [.int e.num, .int e.day, .int e.wri, .int e.hand, .str "deed", .int g, .int t]) := e1
      have ha1 := s1 _ _ ha
      refine ⟨_, rfl, a, _, _, _, rfl, rfl, SqT.of ha1, (atI_nat (j := 7) rfl), r, rs, rfl, s1 _ _ hr', h5.2.2.1.1, h5.2.2.1.2, fun H2 s2 => ?_⟩
      have s02 := s1.trans s2
      refine ⟨_, rfl, a, _, _, _, rfl, rfl, SqT.of (s02 _ _ ha), (atI_nat (j := 8) rfl), u, ws, rfl, s02 _ _ hu, h5.2.2.2.1, h5.2.2.2.2, fun H3 s3 => ⟨(by show 2 ≤ sizeLine; decide), fun t4 nt4 => ?_⟩⟩
      have s4 := same_new nt4 (.tup [.str (rowT rs), .str (rowT ws)])
      have e4 : (upd H3 t4 (.tup [.str (rowT rs), .str (rowT ws)])) t4 = some (.tup [.str (rowT rs), .str (rowT ws)]) := upd_same
      generalize (upd H3 t4 (.tup [.str (rowT rs), .str (rowT ws)])) = H4 at s4 e4
      refine catA_same (s4 _ _ (s3 _ _ (s2 _ _ e1'))) e4 (by show 9 ≤ 1000; decide) fun t5 H5 s5 e5 => ?_
      have s05 := s02.trans (s3.trans (s4.trans s5))
      refine ⟨t5, [(.int e.num, intT e.num), (.int e.day, intT e.day), (.int e.wri, intT e.wri), (.int e.hand, intT e.hand), (.str "deed", ("deed" : Str)), (.int g, intT g), (.int t, intT t), (.str (rowT rs), rowT rs), (.str (rowT ws), rowT ws)], rfl, e5, by show 9 ≤ 9; decide, fun z hz => ?_, fun H6 s6 => ?_⟩
      · simp only [List.mem_cons, List.not_mem_nil, or_false] at hz
        rcases hz with rfl | rfl | rfl | rfl | rfl | rfl | rfl | rfl | rfl
        · exact wint _ h1
        · exact wint _ h2
        · exact wint _ h3
        · exact wint _ h4
        · exact .inr ⟨rfl, by decide +kernel⟩
        · exact wint _ h5.1
        · exact wint _ h5.2.1
        · exact .inr ⟨rfl, row_len h5.2.2.1.1 h5.2.2.1.2⟩
        · exact .inr ⟨rfl, row_len h5.2.2.2.1 h5.2.2.2.2⟩
      · have := q H6 (s05.trans s6)
        unfold lineT ptsE at this
        rw [hk] at this
        exact this
    | act x o =>
      rw [hk] at hE h5
      have nx : x ≠ ("deed" : Str) := fun z => by
        unfold En.word En.isDeed at hwd
        rw [hk] at hwd
        exact absurd (hwd.mp z) (by simp)
      have hxl : x.length ≤ 999 := by rcases h5.2 with z | z | z <;> rw [z] <;> decide +kernel
      refine ⟨_, rfl, a, _, _, _, rfl, rfl, SqT.of hE, (atI_nat (j := 4) rfl), rfl, _, rfl, ?_⟩
      rw [decide_eq_false (show ¬ V.str x = V.str ("deed" : Str) from fun z => nx (by injection z))]
      refine iteF ?_
      refine ⟨_, rfl, a, [(.int e.num, intT e.num), (.int e.day, intT e.day), (.int e.wri, intT e.wri), (.int e.hand, intT e.hand), (.str x, x), (.int o, intT o)], rfl, hE, by show 6 ≤ 9; decide, fun z hz => ?_, fun H6 s6 => ?_⟩
      · simp only [List.mem_cons, List.not_mem_nil, or_false] at hz
        rcases hz with rfl | rfl | rfl | rfl | rfl | rfl
        · exact wint _ h1
        · exact wint _ h2
        · exact wint _ h3
        · exact wint _ h4
        · exact .inr ⟨rfl, hxl⟩
        · exact wint _ h5.1
      · have := q H6 s6
        unfold lineT ptsE at this
        rw [hk] at this
        exact this
end
end Deed

namespace Deed
open PySem PySem.Spec PyProof.Rows L2 LamX TL TX
section
variable {P : Program} {w : World} {K : PySem.W.Frag} {mg : Str → Option Value} {base : Heap} {T : List (Addr × Str)}
abbrev sLFolkT : Stmt := topS 49
abbrev nLFolkT : List Str := ["_law_folk_here", "_law_rows", "_law_born", "_law_died"]
abbrev pLFolkT : List Str := ["_law_folk_here"]
theorem scLFolkT : FnScope nLFolkT pLFolkT (defScope sLFolkT) := ⟨rfl, rfl, rfl, by decide +kernel, rfl, by decide +kernel, by decide +kernel⟩
def spLFolkT : Sp := fun vs H Q _ => ∃ (fk : Addr) (pz : List (Addr × Int × Option Int)), vs = [.ref fk] ∧ FolkZ H fk pz ∧ ∀ H', Same H H' → Q (.str (Txt.join (" " : Str) ((pz.map (·.2)).map fun q => perT q.1 q.2))) H'
theorem ok_LFolkT {f : Addr} {fd : FuncData} {k : Nat} (F : Fun K "_law_folk_text" "_law_folk_text" sLFolkT f fd) (m_str : mg "str" = none) : FnOk P w K mg base CX0 (k + 1) f fd pLFolkT spLFolkT := by
  refine F.ok scLFolkT (fun vs H Q E h => ?_) (fun cdv A outer s H vs Q E hr h => ?_)
  · obtain ⟨fk, pz, rfl, _⟩ := h
    rfl
  · obtain ⟨fk, pz, rfl, hF, q⟩ := h
    have nd := scLFolkT.nd
    refine ⟨_, pss_cons (ps_set (i := 1) nd rfl (.inl rfl) (pe_lst pa_nil))
      (pss_cons (ps_for PassesOwn.never rfl (pi_tup (pv 0)) (pg_tup (by rfl) (pgs_cons (pg_name (i := 2) nd rfl (.inl rfl)) (pgs_cons (pg_name (i := 3) nd rfl (.inl rfl)) pgs_nil)))
        (pss_one (ps_expr (pe_bm PySem.F.plainAttrs_list PySem.F.slot_list_append PySem.F.type_list_append mt_append (pv 1) (pa_cons (pe_op op_add_str (pe_op op_add_str (pe_callTy call_str_int (by rfl) m_str (by decide +kernel) (pa_cons (pv 2) pa_nil)) pe_str) (pe_ifExp (pt_cmpR op_isN (pv 3) pe_non (nomark _)) pe_str (pe_callTy call_str_int (by rfl) m_str (by decide +kernel) (pa_cons (pv 3) pa_nil)))) pa_nil)))))
      (pss_one (ps_ret (pe_bm PySem.F.plainAttrs_str PySem.F.slot_str_join PySem.F.type_str_join mt_join pe_str (pa_cons (pv 1) pa_nil))))), ?_⟩
    refine ⟨Nat.zero_le _, fun l1 nl1 => ?_⟩
    have s1 := same_new nl1 (.lst [])
    have e1 : (upd H l1 (.lst [])) l1 = some (.lst []) := upd_same
    generalize (upd H l1 (.lst [])) = H1 at s1 e1
    have hF1 := hF.kp (Same.tup s1)
    refine ⟨_, rfl, fk, rfl, ⟨_, SqT.of hF1.at_⟩, ?_⟩
    refine for_tup (xs := pz.map fun z => V.ref z.1) (fun i σ H' => ∃ y2 y3, σ = [some (.ref fk), some (.ref l1), y2, y3] ∧ Kp l1 H1 H' ∧ H' l1 = some (.lst ((((pz.take i).map (·.2)).map fun q => perT q.1 q.2).map V.str))) ⟨_, _, rfl, Kp.refl _ _, e1⟩ (fun i σ H' _ h => ?_) ?_ ?_
    · obtain ⟨_, _, _, k, _⟩ := h
      exact SqT.of (k _ _ (fun z => by have := hF1.at_; rw [z, e1] at this; cases this) hF1.at_)
    · rintro i v σ H2 hv ⟨y2, y3, rfl, k2, e2⟩
      rw [List.getElem?_map] at hv
      cases hzi : pz[i]? with
      | none => rw [hzi] at hv; cases hv
      | some z =>
      rw [hzi] at hv
      injection hv with hv
      subst hv
      obtain ⟨h1, hb, hd⟩ := hF1.per z (List.mem_of_getElem? hzi)
      have h2 := k2 _ _ (fun y => by rw [y, e1] at h1; cases h1) h1
      have lb : (PySem.Str.ofString (toString z.2.1)).length ≤ 7 := hb.len
      have l2 : (":" : Str).length = 1 := by decide +kernel
      have l3 : ("-" : Str).length = 1 := by decide +kernel
      refine ⟨z.1, _, rfl, SqT.of h2, rfl, _, _, rfl, _, _, rfl, rfl, ?_⟩
      refine ⟨_, rfl, .inl ⟨rfl, _, SqL.of e2⟩, _, rfl, z.2.1, rfl, hb.log, _, _, rfl, rfl, ?_, _, rfl, rfl, _, rfl, ?_⟩
      · rw [l2, sizeLine_eq]
        omega
      have hput : ∀ (d : Option Int), z.2.2 = d → (((pz.take (i + 1)).map (·.2)).map fun q => perT q.1 q.2) = (((pz.take i).map (·.2)).map fun q => perT q.1 q.2) ++ [perT z.2.1 d] := fun d hdd => by
        rw [List.take_add_one, hzi, ← hdd]
        simp
      have hfin : ∀ (x : Str) (d : Option Int), z.2.2 = d → x = perT z.2.1 d → (upd H2 l1 (.lst (((((pz.take i).map (·.2)).map fun q => perT q.1 q.2).map V.str) ++ [.str x]))) l1 = some (.lst ((((pz.take (i + 1)).map (·.2)).map fun q => perT q.1 q.2).map V.str)) := fun x d hdd hx => by
        rw [upd_same, hput d hdd, hx, List.map_append]
        rfl
      have hks : ∀ u, Kp l1 H1 (upd H2 l1 u) := fun u c o n h => by rw [upd_ne n]; exact k2 c o n h
      have hl : ((((pz.take i).map (·.2)).map fun q => perT q.1 q.2).map V.str).length + 1 ≤ 1000 := by
        rw [List.length_map, List.length_map, List.length_map, List.length_take]
        have := hF.len
        omega
      cases hdd : z.2.2 with
      | none =>
        refine iteT ?_
        refine ⟨_, _, rfl, rfl, ?_, l1, _, _, rfl, rfl, e2, small1000 (Nat.le_of_succ_le hl), ?_⟩
        · simp only [strLen_append]
          rw [l2, l3, sizeLine_eq]
          omega
        refine ⟨_, _, rfl, hks _, hfin _ none hdd ?_⟩
        refine ext_str ?_
        rw [tl_append, tl_append, tl_col]
        show (tl (intT z.2.1) ++ [58]) ++ tl dash = intL z.2.1 ++ [58, 45]
        rw [tl_int, tl_dash, List.append_assoc]
        rfl
      | some j =>
        have hj := hd j hdd
        have lj : (PySem.Str.ofString (toString j)).length ≤ 7 := hj.len
        refine iteF ?_
        refine ⟨_, rfl, j, rfl, hj.log, _, _, rfl, rfl, ?_, l1, _, _, rfl, rfl, e2, small1000 (Nat.le_of_succ_le hl), ?_⟩
        · simp only [strLen_append]
          rw [l2, sizeLine_eq]
          omega
        refine ⟨_, _, rfl, hks _, hfin _ (some j) hdd ?_⟩
        refine ext_str ?_
        rw [tl_append, tl_append, tl_col]
        show (tl (intT z.2.1) ++ [58]) ++ tl (intT j) = intL z.2.1 ++ 58 :: intL j
        rw [tl_int, tl_int, List.append_assoc]
        rfl
    rintro σ H2 ⟨y2, y3, rfl, k2, e2⟩
    rw [List.length_map, List.take_length] at e2
    refine ⟨rfl, _, rfl, (" " : Str), l1, _, rfl, rfl, .inl (SqL.of e2), ?_, ?_⟩
    · have := sum_len (m := 20) (ys := (pz.map (·.2)).map fun q => perT q.1 q.2) fun y hy => by
        rw [List.map_map] at hy
        obtain ⟨z, hm, rfl⟩ := List.mem_map.mp hy
        exact per_len (hF.per z hm).2.1 (hF.per z hm).2.2
      have lsp : (" " : Str).length = 1 := by decide +kernel
      have h6 := hF.len
      rw [lsp]
      rw [List.length_map, List.length_map] at this ⊢
      omega
    · exact q H2 fun c o h => k2 c o (ne_of_none h nl1) (s1 _ _ h)
end
end Deed

namespace Deed
section
open PySem PySem.Spec PySem.W PyProof.Rows L2 LamX
def pairD (e : En) : PyData := .tuple [.int e.num, entD e]
theorem alike_ent (e u : En) : alike (entD e) (entD u) = true := by
  unfold entD
  cases e.kd <;> cases u.kd <;> simp [alike, alikeAll, alike_ints]
theorem alike_pair (e u : En) : alike (pairD e) (pairD u) = true := by
  unfold pairD
  simp [alike, alikeAll, alike_ent]
theorem lt_pair {e u : En} (h : e.num < u.num) : dataLt (pairD e) (pairD u) = true := by
  unfold pairD
  rw [dataLt_tuple, dataLt_all_no (by simp [alike]) (by simp [PyData.eqv]; omega), dataLt_int]
  exact decide_eq_true h
theorem depth_pair (e : En) : (pairD e).depth ≤ 8 := by
  have h := depth_ent e
  unfold pairD
  simp only [PyData.depth, PyData.depthAll]
  omega
theorem depth_pairs : ∀ es : List En, PyData.depthAll (es.map pairD) ≤ 9
  | [] => by simp [PyData.depthAll]
  | e :: r => by
    have h1 := depth_pair e
    have h2 := depth_pairs r
    simp only [List.map_cons, PyData.depthAll]
    omega
theorem lay_pairs {n : Nat} {ds as : List Int} : ∀ es : List En, (∀ e ∈ es, EnOk n ds as e) → PyData.canLayAll0 (es.map pairD) = true
  | [], _ => by simp [PyData.canLayAll0]
  | e :: r, h => by
    have h1 := (h e List.mem_cons_self).lay
    simp [pairD, PyData.canLayAll0, PyData.canLay0, h1, lay_pairs r fun x hx => h x (List.mem_cons_of_mem _ hx)]
theorem shaped_pairs {n : Nat} {ds as : List Int} (es : List En) (h : ∀ e ∈ es, EnOk n ds as e) : SeqAt.shaped (.list (es.map pairD)) = true := by
  have h1 := depth_pairs es
  have h2 : PyData.depth (.list (es.map pairD)) ≤ 64 := by
    simp only [PyData.depth]
    omega
  show (PyData.canLay0 (.list (es.map pairD)) && decide (PyData.depth (.list (es.map pairD)) ≤ 64)) = true
  rw [Bool.and_eq_true]
  exact ⟨by simp only [PyData.canLay0]; exact lay_pairs es h, decide_eq_true h2⟩
theorem eqv_pairs (es : List En) : PyData.eqv (.list (es.map pairD)) (.list (es.map pairD)) = true := by
  refine eqv_refl_alike _ ?_
  simp only [alike]
  induction es with
  | nil => rfl
  | cons e r ih => rw [List.map_cons, alikeAll, alike_pair, ih]; rfl
end
open PySem PySem.Spec PyProof.Rows L2 LamX TL TX
section
variable {P : Program} {w : World} {K : PySem.W.Frag} {mg : Str → Option Value} {base : Heap} {T : List (Addr × Str)}
abbrev sLBookT : Stmt := topS 53
abbrev nLBookT : List Str := ["_law_book_here", "_law_rows", "_law_some", "_law_one", "_law_number_here", "_law_entry"]
abbrev pLBookT : List Str := ["_law_book_here"]
theorem scLBookT : FnScope nLBookT pLBookT (defScope sLBookT) := ⟨rfl, rfl, rfl, by decide +kernel, rfl, by decide +kernel, by decide +kernel⟩
def spLBookT : Sp := fun vs H Q _ => ∃ (b fk t : Addr) (n : Nat) (age : Int) (zs : List (Addr × En)) (pz : List (Addr × Int × Option Int)), vs = [.ref b] ∧ BookAt H b fk t n age zs ∧ FolkZ H fk pz ∧
  ∀ (zs' : List (Addr × En)) H', Same H H' → zs'.Perm zs → zs'.Pairwise (fun u v => u.2.num < v.2.num) → Q (.str (bookT (pz.map (·.2)) age (ens zs'))) H'
/-- the pairs, sorted -/
def SrtI (H : Hp) (y : V × (Addr × En)) : Prop := ∃ r, y.1 = .ref r ∧ H r = some (.tup [.int y.2.2.num, .ref y.2.1])
theorem ok_LBookT {f : Addr} {fd : FuncData} {k : Nat} (F : Fun K "_law_book_text" "_law_book_text" sLBookT f fd) (C__law_folk_text : CallOk P w K mg base k "_law_folk_text" pLFolkT spLFolkT) (C__law_entry_text : CallOk P w K mg base k "_law_entry_text" pLEntT spLEntT) (m_str : mg "str" = none) (m_sorted : mg "sorted" = none) : FnOk P w K mg base CX0 (k + 1) f fd pLBookT spLBookT := by
  refine F.ok scLBookT (fun vs H Q E h => ?_) (fun cdv A outer s H vs Q E hr h => ?_)
  · obtain ⟨b, fk, t, n, age, zs, pz, rfl, _⟩ := h
    rfl
  · obtain ⟨b, fk, t, n, age, zs, pz, rfl, hB, hF, q⟩ := h
    have nd := scLBookT.nd
    refine ⟨_, pss_cons (ps_set (i := 1) nd rfl (.inl rfl) (pe_lst (pa_cons (pe_op op_add_str pe_str (pe_call C__law_folk_text.ok hr (by rfl) C__law_folk_text.g C__law_folk_text.kp C__law_folk_text.b .nil pass0 (pa_cons (pe_ix ix_tup (pv 0) pe_int (fun _ _ => rfl)) pa_nil))) (pa_cons (pe_op op_add_str pe_str (pe_callTy call_str_int (by rfl) m_str (by decide +kernel) (pa_cons (pe_ix ix_tup (pv 0) pe_int (fun _ _ => rfl)) pa_nil))) pa_nil))))
      (pss_cons (ps_set (i := 2) nd rfl (.inl rfl) (pe_callB (cr_sortedDp (fun z : Addr × En => pairD z.2) hr.units) (by rfl) m_sorted (by decide +kernel) (pa_cons (pe_lc (own := [("_law_one", 3)]) (g := gName 3) (by rfl) nd (pi_tup (pe_ix ix_tup (pv 0) pe_int (fun _ _ => rfl))) (blkOk_by (own := [("_law_one", 3)]) (N := nLBookT) (sc := defScope sLBookT) (by decide +kernel)) (fun _ _ _ _ _ => (pg_name (i := 3) nd rfl (.inl rfl))) (fun _ _ _ _ _ => pts_nil)
          (fun _ _ _ _ _ => (pe_tup (pa_cons (pe_ix (ix_tupK (K := K) (by rfl)) (pv 3) pe_int (fun _ _ => rfl)) (pa_cons (pv 3) pa_nil))))) pa_nil)))
      (pss_one (ps_ret (pe_bm PySem.F.plainAttrs_str PySem.F.slot_str_join PySem.F.type_str_join mt_join pe_str (pa_cons (pe_op op_cat (pv 1) (pe_lc (own := [("_law_number_here", 4), ("_law_entry", 5)]) (g := gTup K 2 (gCons (gName 4) (gCons (gName 5) gNil))) (by rfl) nd (pi_list (pv 2)) (blkOk_by (own := [("_law_number_here", 4), ("_law_entry", 5)]) (N := nLBookT) (sc := defScope sLBookT) (by decide +kernel)) (fun _ _ _ _ _ => (pg_tup (by rfl) (pgs_cons (pg_name (i := 4) nd rfl (.inl rfl)) (pgs_cons (pg_name (i := 5) nd rfl (.inl rfl)) pgs_nil)))) (fun _ _ _ _ _ => pts_nil)
          (fun _ _ _ _ _ => (pe_call C__law_entry_text.ok hr (by rfl) C__law_entry_text.g C__law_entry_text.kp C__law_entry_text.b .nil pass0 (pa_cons (pv 5) pa_nil))))) pa_nil))))), ?_⟩
    have hage : small age := small_of (by have := hB.age0; omega) (by have := hB.age1; omega)
    have l5 : ("folk " : Str).length = 5 := by decide +kernel
    have l4 : ("age " : Str).length = 4 := by decide +kernel
    have lag : (PySem.Str.ofString (toString age)).length ≤ 7 := hage.len
    have hzl := hB.len
    have hfl : (Txt.join (" " : Str) ((pz.map (·.2)).map fun q => perT q.1 q.2)).length ≤ 126 := by
      have := join_len tl_spc (m := 20) (parts := (pz.map (·.2)).map fun q => perT q.1 q.2) fun p hp => by
        rw [List.map_map] at hp
        obtain ⟨z, hm, rfl⟩ := List.mem_map.mp hp
        exact per_len (hF.per z hm).2.1 (hF.per z hm).2.2
      rw [List.length_map, List.length_map] at this
      have := hF.len
      omega
    refine ⟨_, rfl, b, _, 0, _, rfl, rfl, SqT.of hB.at_, (atI_nat (j := 0) rfl), fk, pz, rfl, hF, fun H1 s1 => ?_⟩
    have hB1 := hB.kp (Same.tup s1)
    refine ⟨_, _, rfl, rfl, ?_, _, rfl, b, _, 1, _, rfl, rfl, SqT.of hB1.at_, (atI_nat (j := 1) rfl), age, rfl, hage.log, _, _, rfl, rfl, ?_, (by show 2 ≤ sizeLine; decide), fun l2 nl2 => ?_⟩
    · rw [l5, sizeLine_eq]; omega
    · rw [l4, sizeLine_eq]; omega
    have hpn : pz.length = n := by
      obtain ⟨xs, ex, hl, _⟩ := hB.folk
      have := hF.at_
      rw [ex] at this
      injection this with this
      injection this with this
      rw [← hl, this, List.length_map]
    have e_head : (("folk " : Str) ++ Txt.join (" " : Str) ((pz.map (·.2)).map fun q => perT q.1 q.2)) = headT (pz.map (·.2)) := by
      cases pz with
      | nil => have := hB.n2; rw [← hpn] at this; exact absurd this (by decide)
      | cons z r =>
        refine ext_str ?_
        unfold headT
        rw [tl_append, join_eq, join_eq, tl_join, tl_join, tl_spc]
        show tl ("folk " : Str) ++ _ = tl ("folk" : Str) ++ ([32] ++ _)
        rw [show tl ("folk " : Str) = tl ("folk" : Str) ++ [32] by decide +kernel, List.append_assoc]
        rfl
    have e_age : (("age " : Str) ++ PySem.Str.ofString (toString age)) = ageTx age := by
      refine ext_str ?_
      rw [tl_append]
      show tl ("age " : Str) ++ tl (intT age) = tl ("age " : Str) ++ intL age
      rw [tl_int]
    rw [e_head, e_age]
    have s2 := same_new nl2 (.lst [.str (headT (pz.map (·.2))), .str (ageTx age)])
    have e2 : (upd H1 l2 (.lst [.str (headT (pz.map (·.2))), .str (ageTx age)])) l2 = some (.lst [.str (headT (pz.map (·.2))), .str (ageTx age)]) := upd_same
    generalize (upd H1 l2 (.lst [.str (headT (pz.map (·.2))), .str (ageTx age)])) = H2 at s2 e2
    have s02 := s1.trans s2
    have hB2 := hB.kp (Same.tup s02)
    refine ⟨_, rfl, b, _, 2, _, rfl, rfl, SqT.of hB2.at_, (atI_nat (j := 2) rfl), t, rfl, ⟨_, SqT.of hB2.ents⟩, fun M3 nM3 => ?_⟩
    refine lc_sameT (walk_tup (xs := refs zs)) zs (fun _ => true) (fun z => [.int z.2.num, .ref z.1]) (by rw [List.length_map]) (by omega) nM3 (fun H s => SqT.of (s _ _ hB2.ents)) ?_ ?_
    · rintro i y x H3 H4 hy s3 ⟨rfl, hx1⟩ Q1 Q0 q1 q0
      rw [show refs zs = zs.map fun z => V.ref z.1 from rfl, List.getElem?_map, hy] at hx1
      injection hx1 with hx1
      subst hx1
      obtain ⟨es, ex, g0, _⟩ := ((hB2.ent y (List.mem_of_getElem? hy)).kp (Same.tup s3)).tup
      refine ⟨rfl, ?_⟩
      refine iteT (B := Q0 H4) ?_
      refine ⟨_, rfl, y.1, es, 0, _, rfl, rfl, SqT.of ex, g0, _, rfl, (by show 2 ≤ sizeLine; decide), fun r nr => ?_⟩
      exact q1 rfl r _ (same_new nr _) upd_same
    intro H3 z1 s3 eM3 hz1 hat1
    have hz1' : z1.map (·.2) = zs := by rw [hz1, List.filter_eq_self.mpr fun _ _ => rfl]
    have s03 := s02.trans s3
    have hB3 := hB.kp (Same.tup s03)
    have hmz : ∀ z ∈ z1, z.2 ∈ zs := fun z hz => by rw [← hz1']; exact List.mem_map_of_mem (f := (·.2)) hz
    refine ⟨M3, z1.map (fun z => (V.ref z.1, z.2)), rfl, by rw [List.map_map]; exact SqL.of eM3, fun y hy => ?_, fun u v => alike_pair u.2 v.2, fun u => ⟨_, _, rfl⟩, fun u => depth_pair u.2, fun ys p pm up np => ?_⟩
    · obtain ⟨z, hm, rfl⟩ := List.mem_map.mp hy
      exact .tup (SqT.of (hat1 z hm)) (.cons (.int _) (.cons (hB3.ent _ (hmz z hm)).dp .nil))
    have s4 := same_new np (.lst (ys.map (·.1)))
    have e4 : (upd H3 p (.lst (ys.map (·.1)))) p = some (.lst (ys.map (·.1))) := upd_same
    generalize (upd H3 p (.lst (ys.map (·.1)))) = H4 at s4 e4
    have hys : ∀ y ∈ ys, SrtI H4 y ∧ y.2 ∈ zs := fun y hy => by
      obtain ⟨z, hm, rfl⟩ := List.mem_map.mp (pm.mem_iff.mp hy)
      exact ⟨⟨z.1, rfl, s4 _ _ (hat1 z hm)⟩, hmz z hm⟩
    have hpe : (ys.map (·.2)).Perm zs := by
      have h3 := pm.map (·.2)
      rw [List.map_map] at h3
      rw [← hz1']
      exact h3
    have hnd : ((ys.map (·.2)).map (fun z => z.2.num)).Nodup := (hpe.map _).nodup_iff.mpr (by
      have := hB.ok.nd
      rw [show ens zs = zs.map (·.2) from rfl, List.map_map] at this
      exact this)
    have hso : (ys.map (·.2)).Pairwise (fun u v => u.2.num < v.2.num) := by
      rw [List.nodup_iff_pairwise_ne, List.map_map, List.pairwise_map] at hnd
      rw [List.pairwise_map]
      refine (up.and hnd).imp fun {u v} h => ?_
      rcases Int.lt_trichotomy u.2.2.num v.2.2.num with h6 | h6 | h6
      · exact h6
      · exact absurd h6 h.2
      · exact absurd (lt_pair h6) (by rw [h.1]; decide)
    have hyl : ys.length ≤ 16 := by
      have := hpe.length_eq
      rw [List.length_map] at this
      omega
    have s04 := s03.trans s4
    have e24 := s4 _ _ (s3 _ _ e2)
    have hS := entS_of hB.ok hB.n6
    have hin : ∀ y ∈ ys, y.2.2 ∈ ens zs := fun y hy => List.mem_map_of_mem (f := (·.2)) (hys y hy).2
    refine ⟨rfl, _, rfl, _, rfl, p, rfl, ⟨_, SqL.of e4⟩, fun M5 nM5 => ?_⟩
    refine lc_sameM (walk_list (xs := ys.map (·.1))) ys (fun y => .str (lineT y.2.2)) (by rw [List.length_map]) (by omega) nM5 (fun H s => SqL.of (s _ _ e4)) ?_ ?_
    · rintro i y x H5 H6 hy s5 ⟨rfl, hx1⟩ Q1 q1
      rw [List.getElem?_map, hy] at hx1
      injection hx1 with hx1
      subst hx1
      have my := List.mem_of_getElem? hy
      obtain ⟨⟨r, er, e⟩, hm⟩ := hys y my
      have hm2 := hin y my
      exact ⟨r, _, er, SqT.of (s5 _ _ e), rfl, _, _, rfl, _, _, rfl, rfl, rfl, _, rfl, y.2.1, y.2.2, rfl, (hB.ent _ hm).kp (Same.tup (s04.trans s5)), (hS _ hm2).1, (hS _ hm2).2, (hB.ok.ok _ hm2).word, fun H' s' => q1 _ s'⟩
    intro H5 s5 eM5
    have e_ln : (ys.map fun y => V.str (lineT y.2.2)) = ((ens (ys.map (·.2))).map lineT).map V.str := by
      rw [show ens (ys.map (·.2)) = (ys.map (·.2)).map (·.2) from rfl, List.map_map, List.map_map, List.map_map]
      rfl
    rw [e_ln] at eM5
    refine ⟨l2, M5, _, _, rfl, rfl, s5 _ _ e24, eM5, ?_, fun q6 nq6 => ?_⟩
    · rw [List.length_map, List.length_map, List.length_map, List.length_map, sizeLine_eq]
      show 2 + ys.length ≤ _
      omega
    have s6 := same_new nq6 (.lst ([.str (headT (pz.map (·.2))), .str (ageTx age)] ++ ((ens (ys.map (·.2))).map lineT).map V.str))
    have e6 : (upd H5 q6 (.lst ([.str (headT (pz.map (·.2))), .str (ageTx age)] ++ ((ens (ys.map (·.2))).map lineT).map V.str))) q6 = some (.lst ((headT (pz.map (·.2)) :: ageTx age :: (ens (ys.map (·.2))).map lineT).map V.str)) := upd_same
    generalize (upd H5 q6 (.lst ([.str (headT (pz.map (·.2))), .str (ageTx age)] ++ ((ens (ys.map (·.2))).map lineT).map V.str))) = H6 at s6 e6
    refine ⟨("\n" : Str), q6, _, rfl, rfl, .inl (SqL.of e6), ?_, ?_⟩
    · have := sum_len (m := 9000) (ys := headT (pz.map (·.2)) :: ageTx age :: (ens (ys.map (·.2))).map lineT) fun y hy => by
        rcases List.mem_cons.mp hy with rfl | hy
        · exact Nat.le_trans (head_len hF) (by decide)
        rcases List.mem_cons.mp hy with rfl | hy
        · exact Nat.le_trans (age_len hage) (by decide)
        obtain ⟨e, he, rfl⟩ := List.mem_map.mp hy
        obtain ⟨z, hz, rfl⟩ := List.mem_map.mp he
        have mz := hpe.mem_iff.mp hz
        obtain ⟨ps, ep, hm, hl9, hat⟩ := (hB.ent z mz).pts hB.ok (List.mem_map_of_mem (f := (·.2)) mz) hB.n6
        exact line_len hm hl9 hat
      have lnl : ("\n" : Str).length = 1 := by decide +kernel
      rw [lnl]
      rw [List.length_cons, List.length_cons, List.length_map, List.length_map, List.length_map] at this ⊢
      omega
    · exact q (ys.map (·.2)) H6 (s04.trans (s5.trans s6)) hpe hso
end
end Deed

namespace Deed
open PySem PySem.Spec PyProof.Rows L2 LamX TL TX
/-! ### splitting any text -/
theorem join_back (x y : Str) : Txt.join y (Txt.split x y) = x := by
  rw [join_eq]
  exact PySem.StrLaws.join_split x y
theorem split_ne (x y : Str) : Txt.split x y ≠ [] := fun h => by
  have := PyProof.Rows.split_pos x y
  rw [h] at this
  exact absurd this (by decide)
theorem le_sum_len : ∀ {l : List Str} {w : Str}, w ∈ l → w.length ≤ (l.map (·.length)).sum
  | [], _, h => nomatch h
  | a :: r, w, h => by
    rw [List.map_cons, List.sum_cons]
    rcases List.mem_cons.mp h with rfl | h
    · omega
    · have := le_sum_len h
      omega
theorem split_lens (x y : Str) (hy : y.length = 1) : (Txt.split x y).length ≤ x.length + 1 ∧ ∀ w ∈ Txt.split x y, w.length ≤ x.length := by
  have h := PyProof.Rows.split_weight x y (by omega)
  have h0 := PyProof.Rows.split_pos x y
  refine ⟨by omega, fun w hw => ?_⟩
  have := le_sum_len hw
  omega
theorem l_com : com.length = 1 := by decide +kernel
theorem l_spc : (" " : Str).length = 1 := by decide +kernel
theorem l_nl : ("\n" : Str).length = 1 := by decide +kernel
theorem l_col : (":" : Str).length = 1 := by decide +kernel
/-! ### rows of numbers -/
theorem ints_of {G : Int → Prop} {ws : List Str} (h : ∀ w ∈ ws, ∃ i : Int, w = intT i ∧ G i) : ∃ ns : List Int, ws = ns.map intT ∧ ∀ i ∈ ns, G i := by
  induction ws with
  | nil => exact ⟨[], rfl, fun _ h => nomatch h⟩
  | cons w r ih =>
    obtain ⟨ns, e, hn⟩ := ih fun z hz => h z (List.mem_cons_of_mem _ hz)
    obtain ⟨i, rfl, hi⟩ := h w List.mem_cons_self
    refine ⟨i :: ns, by rw [e]; rfl, fun j hj => ?_⟩
    rcases List.mem_cons.mp hj with rfl | hj
    · exact hi
    · exact hn j hj
theorem rowT_nil : rowT [] = dash := if_pos rfl
theorem rowT_ne {ns : List Int} (h : ns ≠ []) : rowT ns = Txt.join com (ns.map intT) := if_neg h
theorem row_iff {G : Int → Prop} {x : Str} : (x = dash ∨ ∀ w ∈ Txt.split x com, ∃ i : Int, w = intT i ∧ G i) ↔ ∃ ns : List Int, x = rowT ns ∧ ∀ i ∈ ns, G i := by
  constructor
  · rintro (rfl | h)
    · exact ⟨[], rowT_nil.symm, fun _ h => nomatch h⟩
    · obtain ⟨ns, e, hn⟩ := ints_of h
      have hne : ns ≠ [] := fun z => split_ne x com (by rw [e, z]; rfl)
      exact ⟨ns, by rw [rowT_ne hne, ← e, join_back], hn⟩
  · rintro ⟨ns, rfl, hn⟩
    by_cases h : ns = []
    · exact .inl (by rw [h]; exact rowT_nil)
    · refine .inr fun w hw => ?_
      rw [rowT_ne h, split_row h] at hw
      obtain ⟨i, hi, rfl⟩ := List.mem_map.mp hw
      exact ⟨i, rfl, hn i hi⟩
theorem rowT_inj {ns ms : List Int} (h : rowT ns = rowT ms) : ns = ms := by
  by_cases h1 : ns = []
  · by_cases h2 : ms = []
    · rw [h1, h2]
    · exfalso
      rw [h1, rowT_nil, rowT_ne h2] at h
      exact row_dash h2 h.symm
  · by_cases h2 : ms = []
    · exfalso
      rw [h2, rowT_nil, rowT_ne h1] at h
      exact row_dash h1 h
    · have e1 := split_row h1
      have e2 := split_row h2
      rw [← rowT_ne h1] at e1
      rw [← rowT_ne h2, ← h, e1] at e2
      exact map_intT_inj e2
def lisOk (x : Str) : Bool := decide (x = dash) || (Txt.split x com).all fun w => numOk (tl w)
theorem lisOk_iff {x : Str} : lisOk x = true ↔ ∃ ns : List Int, x = rowT ns ∧ ∀ i ∈ ns, fit40 i := by
  rw [← row_iff]
  unfold lisOk
  rw [Bool.or_eq_true, decide_eq_true_eq, List.all_eq_true]
  refine or_congr Iff.rfl (forall_congr' fun w => imp_congr_right fun _ => numOk_iff)
theorem mem_le {ns : List Int} {i : Int} (h : i ∈ ns) : (intT i).length ≤ (rowT ns).length := by
  have hne : ns ≠ [] := List.ne_nil_of_mem h
  have := (split_lens (rowT ns) com l_com).2 (intT i) (by rw [rowT_ne hne, split_row hne]; exact List.mem_map_of_mem h)
  exact this
theorem row_le (ns : List Int) : ns.length ≤ (rowT ns).length + 1 := by
  by_cases h : ns = []
  · rw [h]; exact Nat.zero_le _
  · have := (split_lens (rowT ns) com l_com).1
    rw [show (Txt.split (rowT ns) com) = ns.map intT from by rw [rowT_ne h]; exact split_row h, List.length_map] at this
    exact this
theorem dec_dash (x : Str) : decide (V.str x = V.str ("-" : Str)) = decide (x = dash) := by
  rw [Bool.eq_iff_iff, decide_eq_true_eq, decide_eq_true_eq]
  exact ⟨fun h => by injection h, fun h => by rw [h]⟩
/-- what is, or None where there is none -/
def GO {α : Type} (R : α → Prop) (O : α → Addr → Hp → Prop) (H : Hp) (Q : VK) : Prop := (∀ a t H', R a → Same H H' → O a t H' → Q (.ref t) H') ∧ ((∀ a, ¬ R a) → ∀ H', Same H H' → Q .non H')
section
variable {P : Program} {w : World} {K : PySem.W.Frag} {mg : Str → Option Value} {base : Heap} {T : List (Addr × Str)}

def spIsListA : Sp := fun vs H Q _ => ∃ x : Str, vs = [.str x] ∧ x.length ≤ 600 ∧ ∀ H', Same H H' → Q (.bl (lisOk x)) H'
theorem ok_IsListA {f : Addr} {fd : FuncData} {k : Nat} (F : Fun K "is_list_text" "is_list_text" sIsListT f fd) (C_are_number_texts : CallOk P w K mg base k "are_number_texts" pAreNumT spAreNumT) : FnOk P w K mg base CX0 (k + 1) f fd pIsListT spIsListA := by
  refine F.ok scIsListT (fun vs H Q E h => ?_) (fun cdv A outer s H vs Q E hr h => ?_)
  · obtain ⟨x, rfl, _⟩ := h
    rfl
  · obtain ⟨x, rfl, hl, q⟩ := h
    have nd := scIsListT.nd
    refine ⟨_, pss_one (ps_ret (pe_or (pe_cmpR op_eq (pv 0) pe_str (nomark _)) (pe_one (pe_call C_are_number_texts.ok hr (by rfl) C_are_number_texts.g C_are_number_texts.kp C_are_number_texts.b .nil pass0 (pa_cons (pe_bm PySem.F.plainAttrs_str PySem.F.slot_str_split PySem.F.type_str_split mt_split (pv 0) (pa_cons pe_str pa_nil)) pa_nil))))), ?_⟩
    refine ⟨_, rfl, rfl, _, rfl, ?_⟩
    rw [dec_dash]
    unfold lisOk at q
    cases h0 : decide (x = dash) with
    | true =>
      rw [h0] at q
      exact iteT (q H (same_refl _))
    | false =>
      rw [h0, Bool.false_or] at q
      refine iteF ?_
      have hw := split_lens x com l_com
      refine ⟨_, rfl, rfl, x, _, rfl, rfl, by decide +kernel, by rw [sizeLine_eq]; omega, fun p np => ?_⟩
      exact ⟨p, _, rfl, upd_same, Nat.le_trans hw.1 (by omega), fun y hy => Nat.le_trans (hw.2 y hy) (by omega), fun H' s' => q H' ((same_new np _).trans s')⟩
def spListRdA : Sp := fun vs H Q _ => ∃ ns : List Int, vs = [.str (rowT ns)] ∧ (rowT ns).length ≤ 600 ∧ ∀ t H', Same H H' → H' t = some (.tup (ns.map V.int)) → Q (.ref t) H'
theorem ok_ListRdA {f : Addr} {fd : FuncData} {k : Nat} (F : Fun K "list_read" "list_read" sListRd f fd) (m_int : mg "int" = none) (m_tuple : mg "tuple" = none) : FnOk P w K mg base CX0 (k + 1) f fd pListRd spListRdA := by
  refine F.ok scListRd (fun vs H Q E h => ?_) (fun cdv A outer s H vs Q E hr h => ?_)
  · obtain ⟨ns, rfl, _⟩ := h
    rfl
  · obtain ⟨ns, rfl, hl, q⟩ := h
    have nd := scListRd.nd
    refine ⟨_, pss_cons (ps_if (pt_cmpR op_eq (pv 0) pe_str (nomark _)) (pss_one (ps_ret (pe_tup pa_nil))) pss_nil)
      (pss_one (ps_ret (pe_callTy call_tuple_of (by rfl) m_tuple (by decide +kernel) (pa_cons (pe_lc (own := [("number", 1)]) (g := gName 1) (by rfl) nd (pi_list (pe_bm PySem.F.plainAttrs_str PySem.F.slot_str_split PySem.F.type_str_split mt_split (pv 0) (pa_cons pe_str pa_nil))) (blkOk_by (own := [("number", 1)]) (N := nListRd) (sc := defScope sListRd) (by decide +kernel)) (fun _ _ _ _ _ => (pg_name (i := 1) nd rfl (.inl rfl))) (fun _ _ _ _ _ => pts_nil)
          (fun _ _ _ _ _ => (pe_callTy call_int_str (by rfl) m_int (by decide +kernel) (pa_cons (pv 1) pa_nil)))) pa_nil)))), ?_⟩
    refine ⟨_, rfl, rfl, _, rfl, ?_⟩
    rw [dec_dash]
    by_cases h0 : ns = []
    · subst h0
      rw [decide_eq_true rowT_nil]
      exact iteT ⟨Nat.zero_le _, fun t1 nt1 => q t1 _ (same_new nt1 _) upd_same⟩
    · rw [decide_eq_false (show ¬ rowT ns = dash from fun z => row_dash h0 (by rw [← rowT_ne h0]; exact z))]
      refine iteF ?_
      refine ⟨_, rfl, rfl, rowT ns, _, rfl, rfl, by decide +kernel, by rw [sizeLine_eq]; omega, fun p np => ?_⟩
      have es : Txt.split (rowT ns) com = ns.map intT := by rw [rowT_ne h0]; exact split_row h0
      rw [es]
      have s1 := same_new np (.lst ((ns.map intT).map V.str))
      have e1 : (upd H p (.lst ((ns.map intT).map V.str))) p = some (.lst ((ns.map intT).map V.str)) := upd_same
      generalize (upd H p (.lst ((ns.map intT).map V.str))) = H1 at s1 e1
      refine ⟨p, rfl, ⟨_, SqL.of e1⟩, fun M2 nM2 => ?_⟩
      refine lc_sameM (walk_list (xs := (ns.map intT).map V.str)) ns V.int (by rw [List.length_map, List.length_map]) (by have := row_le ns; omega) nM2 (fun H s => SqL.of (s _ _ e1)) ?_ ?_
      · rintro i y x H3 H4 hy s3 ⟨rfl, hx1⟩ Q1 q1
        rw [List.getElem?_map, List.getElem?_map, hy] at hx1
        injection hx1 with hx1
        subst hx1
        have hsy := mem_le (List.mem_of_getElem? hy)
        exact ⟨rfl, _, rfl, intT y, y, rfl, reads_any (by omega), by omega, q1 _ (same_refl _)⟩
      intro H2 s2 eM
      refine ⟨M2, _, rfl, .inl ⟨SqL.of eM, fun t3 nt3 => ?_⟩⟩
      exact q t3 _ (s1.trans (s2.trans (same_new nt3 _))) upd_same
/-! ### persons -/
def okPer (q : Int × Option Int) : Prop := fit40 q.1 ∧ ∀ i, q.2 = some i → fit40 i
theorem perT_eq (b : Int) (d : Option Int) : perT b d = intT b ++ (":" : Str) ++ restT d := by
  refine ext_str ?_
  rw [tl_append, tl_append, tl_col, tl_int]
  cases d with
  | none =>
    show intL b ++ [58, 45] = (intL b ++ [58]) ++ tl dash
    rw [tl_dash, List.append_assoc]
    rfl
  | some i =>
    show intL b ++ 58 :: intL i = (intL b ++ [58]) ++ tl (intT i)
    rw [tl_int, List.append_assoc]
    rfl
theorem per_col (b : Int) (d : Option Int) : 58 ∈ tl (perT b d) := by
  rw [perT_eq, tl_append, tl_append, tl_col]
  simp
theorem restT_inj {d e : Option Int} (h : restT d = restT e) : d = e := by
  cases d with
  | none => cases e with
    | none => rfl
    | some i =>
      exfalso
      refine intL_dash i ?_
      rw [← tl_int]
      show tl (restT (some i)) = [45]
      rw [← h]
      exact tl_dash
  | some j => cases e with
    | none =>
      exfalso
      refine intL_dash j ?_
      rw [← tl_int]
      show tl (restT (some j)) = [45]
      rw [h]
      exact tl_dash
    | some i => rw [intT_inj h]
theorem perT_inj {b c : Int} {d e : Option Int} (h : perT b d = perT c e) : b = c ∧ d = e := by
  have h1 := per_parts b d
  have h2 := per_parts c e
  rw [h, h2] at h1
  injection h1 with h1 h3
  injection h3 with _ h3
  exact ⟨(intT_inj h1).symm, (restT_inj h3).symm⟩
theorem len_app (a b : Str) : (a ++ b).length = a.length + b.length := by
  rw [len_tl, tl_append, List.length_append, ← len_tl, ← len_tl]
def spPerRdA : Sp := fun vs H Q _ => ∃ x : Str, vs = [.str x] ∧ x.length ≤ 600 ∧ GO (fun q : Int × Option Int => x = perT q.1 q.2 ∧ okPer q) (fun q t H' => H' t = some (.tup [.int q.1, dV q.2])) H Q
theorem ok_PerRdA {f : Addr} {fd : FuncData} {k : Nat} (F : Fun K "person_read" "person_read" sPerRd f fd) (C_is_number_text : CallOk P w K mg base k "is_number_text" pIsNumT spIsNumT) (m_int : mg "int" = none) : FnOk P w K mg base CX0 (k + 1) f fd pPerRd spPerRdA := by
  refine F.ok scPerRd (fun vs H Q E h => ?_) (fun cdv A outer s H vs Q E hr h => ?_)
  · obtain ⟨x, rfl, _⟩ := h
    rfl
  · obtain ⟨x, rfl, hl, qg, qn⟩ := h
    have nd := scPerRd.nd
    refine ⟨_, pss_cons (ps_asg (pe_bm PySem.F.plainAttrs_str PySem.F.slot_str_partition PySem.F.type_str_partition mt_partition (pv 0) (pa_cons pe_str pa_nil)) (pg_tup (by rfl) (pgs_cons (pg_name (i := 1) nd rfl (.inl rfl)) (pgs_cons (pg_name (i := 2) nd rfl (.inl rfl)) (pgs_cons (pg_name (i := 3) nd rfl (.inl rfl)) pgs_nil)))))
      (pss_cons (ps_if (pt_not (pt_val (pe_call C_is_number_text.ok hr (by rfl) C_is_number_text.g C_is_number_text.kp C_is_number_text.b .nil pass0 (pa_cons (pv 1) pa_nil)))) (pss_one (ps_ret pe_non)) pss_nil)
      (pss_cons (ps_if (pt_cmpR op_eq (pv 3) pe_str (nomark _)) (pss_one (ps_ret (pe_tup (pa_cons (pe_callTy call_int_str (by rfl) m_int (by decide +kernel) (pa_cons (pv 1) pa_nil)) (pa_cons pe_non pa_nil))))) pss_nil)
      (pss_one (ps_ret (pe_ifExp (pt_val (pe_call C_is_number_text.ok hr (by rfl) C_is_number_text.g C_is_number_text.kp C_is_number_text.b .nil pass0 (pa_cons (pv 3) pa_nil))) (pe_tup (pa_cons (pe_callTy call_int_str (by rfl) m_int (by decide +kernel) (pa_cons (pv 1) pa_nil)) (pa_cons (pe_callTy call_int_str (by rfl) m_int (by decide +kernel) (pa_cons (pv 3) pa_nil)) pa_nil))) pe_non))))), ?_⟩
    refine ⟨_, rfl, rfl, x, _, rfl, rfl, by decide +kernel, by rw [sizeLine_eq]; omega, fun t1 nt1 => ?_⟩
    -- what stands ahead, and behind
    obtain ⟨a, m, r, hp, hal, hrl, hcase⟩ : ∃ a m r : Str, Txt.partition x (":" : Str) = (a, m, r) ∧ a.length ≤ 600 ∧ r.length ≤ 600 ∧ ((58 ∉ tl x ∧ r = PySem.Str.empty) ∨ x = a ++ (":" : Str) ++ r) := by
      by_cases h : 58 ∈ tl x
      · obtain ⟨l1, l2, e1, e2⟩ := List.eq_append_cons_of_mem h
        have ex : x = (⟨l1.toArray⟩ : Str) ++ (":" : Str) ++ (⟨l2.toArray⟩ : Str) := by
          refine ext_str ?_
          rw [tl_append, tl_append, tl_col, tl_mk l1, tl_mk l2, e1, List.append_assoc]
          rfl
        have hlen := congrArg Str.length ex
        rw [len_app, len_app] at hlen
        refine ⟨⟨l1.toArray⟩, (":" : Str), ⟨l2.toArray⟩, ?_, ?_, ?_, .inr ex⟩
        · conv => lhs; rw [ex]
          exact partition_app tl_col (by rw [tl_mk]; exact e2)
        · omega
        · omega
      · exact ⟨_, _, _, partition_none tl_col h, hl, by decide +kernel, .inl ⟨h, rfl⟩⟩
    rw [hp]
    have s1 := same_new nt1 (.tup [.str a, .str m, .str r])
    have e1 : (upd H t1 (.tup [.str a, .str m, .str r])) t1 = some (.tup [.str a, .str m, .str r]) := upd_same
    generalize (upd H t1 (.tup [.str a, .str m, .str r])) = H1 at s1 e1
    refine ⟨t1, _, rfl, SqT.of e1, rfl, _, _, rfl, _, _, rfl, _, _, rfl, rfl, ?_⟩
    refine ⟨_, rfl, a, rfl, by omega, fun H2 s2 => ⟨_, rfl, ?_⟩⟩
    have s02 := s1.trans s2
    have no_a : numOk (tl a) = false → ∀ q : Int × Option Int, ¬ (x = perT q.1 q.2 ∧ okPer q) := by
      rintro hn ⟨b, d⟩ ⟨rfl, hb, _⟩
      rw [per_parts] at hp
      injection hp with hp _
      rw [← hp, Bool.eq_false_iff] at hn
      exact hn (numOk_iff.mpr ⟨b, rfl, hb⟩)
    cases ha : numOk (tl a) with
    | false => exact iteT (qn (no_a ha) _ s02)
    | true =>
    refine iteF ?_
    obtain ⟨b, rfl, hb⟩ := numOk_iff.mp ha
    refine ⟨_, rfl, rfl, _, rfl, ?_⟩
    rw [dec_dash]
    have hx : 58 ∉ tl x ∧ r = PySem.Str.empty ∨ x = intT b ++ (":" : Str) ++ r := hcase
    by_cases hd : r = dash
    · rw [decide_eq_true hd]
      refine iteT ?_
      have ex : x = perT b none := by
        rcases hx with ⟨_, h⟩ | h
        · rw [h] at hd
          exact absurd (congrArg tl hd) (by decide +kernel)
        · rw [h, hd, perT_eq]
          rfl
      refine ⟨_, rfl, intT b, b, rfl, reads_any (by omega), by omega, (by show 2 ≤ sizeLine; decide), fun t3 nt3 => ?_⟩
      exact qg (b, none) t3 _ ⟨ex, hb, fun i z => nomatch z⟩ (s02.trans (same_new nt3 _)) upd_same
    · rw [decide_eq_false hd]
      refine iteF ?_
      refine ⟨_, rfl, r, rfl, by omega, fun H3 s3 => ⟨_, rfl, ?_⟩⟩
      have s03 := s02.trans s3
      cases hr' : numOk (tl r) with
      | false =>
        refine iteF (qn ?_ _ s03)
        rintro ⟨c, d⟩ ⟨rfl, _, hd'⟩
        rw [per_parts] at hp
        injection hp with _ hp
        injection hp with _ hp
        cases d with
        | none => exact hd hp.symm
        | some i =>
          rw [← hp, Bool.eq_false_iff] at hr'
          exact hr' (numOk_iff.mpr ⟨i, rfl, hd' i rfl⟩)
      | true =>
        refine iteT ?_
        obtain ⟨i, rfl, hi⟩ := numOk_iff.mp hr'
        have ex : x = perT b (some i) := by
          rcases hx with ⟨_, h⟩ | h
          · exfalso
            have := congrArg tl h
            rw [tl_int, tl_empty] at this
            exact intL_ne i this
          · rw [h, perT_eq]
            rfl
        refine ⟨_, rfl, intT b, b, rfl, reads_any (by omega), by omega, _, rfl, intT i, i, rfl, reads_any (by omega), by omega, (by show 2 ≤ sizeLine; decide), fun t3 nt3 => ?_⟩
        refine qg (b, some i) t3 _ ⟨ex, hb, fun j z => ?_⟩ (s03.trans (same_new nt3 _)) upd_same
        injection z with z
        rw [← z]
        exact hi
end
end Deed

namespace Deed
open PySem PySem.Spec PyProof.Rows L2 LamX TL TX
section
variable {J : It} {n : Nat} {G : Hp → Prop} {Y : Nat → Hp → V → Hp → Prop} {g : TG} {te : TE} {vs : List Nat} {σ : L2.St} {H1 : Hp} {D : Addr} {Qd : Hp → Prop} {α : Type}
/-- what is told of each item, which no later step turns -/
theorem lc_newE (w : Walk J n G Y) (ys : List α) (E : Hp → α → V → Prop) (hE : ∀ y u H H' xs, H D = some (.lst xs) → (∀ a o, a ≠ D → H a = some o → H' a = some o) → E H y u → E H' y u) (hn : ys.length = n) (hlen : ys.length ≤ 1000) (nD : H1 D = none) (hG : ∀ H, Same H1 H → G H)
    (hs : ∀ i y x H H', ys[i]? = some y → Same H1 H → (∃ xs, H D = some (.lst xs)) → Y i H x H' → ∀ (Q1 : V → Hp → Prop), (∀ u H4, Same H H4 → E H4 y u → Q1 u H4) →
      g x (wipe σ vs) H' fun σ2 H2 => wipe σ2 vs = wipe σ vs ∧ te σ2 H2 Q1)
    (hd : ∀ H (zs : List (V × α)), Same H1 H → H D = some (.lst (zs.map (·.1))) → zs.map (·.2) = ys → (∀ z ∈ zs, E H z.2 z.1) → Qd H) : LcGoal J g tYes te vs σ H1 D Qd := by
  refine lc_gen w ys (fun _ => true) (fun H => Same H1 H ∧ ∃ xs, H D = some (.lst xs)) Same (fun H y u => E H y u) hn hlen ⟨same_new nD _, _, upd_same⟩ (fun H h => hG H h.1) (fun H H' h1 h2 => ⟨⟨h1.1.trans h2, h1.2.imp fun xs e => h2 _ _ e⟩, fun xs e => h2 _ _ e⟩) (fun H xs l h1 _ => ⟨same_put nD h1.1 _, _, upd_same⟩) (fun H H' y u h1 h2 e => ?_) (fun H xs l y u h1 h2 e => ?_) (fun i y x H H' hy h1 hY Q1 Q0 q1 q0 => ?_) (fun H zs h1 e ez hz => ?_)
  · obtain ⟨xs, hx⟩ := h1.2
    exact hE y u H H' xs hx (fun a o _ h => h2 a o h) e
  · exact hE y u H _ xs h2 (fun a o n h => by rw [upd_ne n]; exact h) e
  · exact hs i y x H H' hy h1.1 h1.2 hY Q1 (fun u H4 s4 e4 => q1 rfl _ H4 s4 e4)
  · exact hd H zs h1.1 e (by rw [ez, List.filter_eq_self.mpr fun _ _ => rfl]) hz
end
/-! ### None among things -/
def OptD (K : PySem.W.Frag) (H : Hp) (v : V) : Prop := ∃ d, Dp K H v d ∧ PyData.canLay0 d = true ∧ d.depth ≤ 40 ∧ PyData.eqv d .none = decide (v = V.non)
theorem opt_list {K : PySem.W.Frag} {H : Hp} : ∀ (vs : List V), (∀ v ∈ vs, OptD K H v) → ∃ ds, DpAll K H vs ds ∧ PyData.canLayAll0 ds = true ∧ PyData.depthAll ds ≤ 41 ∧ (ds.any fun z => PyData.eqv z .none) = vs.any (fun v => decide (v = V.non))
  | [], _ => ⟨[], .nil, by simp [PyData.canLayAll0], by simp [PyData.depthAll], rfl⟩
  | v :: r, h => by
    obtain ⟨ds, h1, h2, h3, h4⟩ := opt_list r fun x hx => h x (List.mem_cons_of_mem _ hx)
    obtain ⟨d, g1, g2, g3, g4⟩ := h v List.mem_cons_self
    refine ⟨d :: ds, .cons g1 h1, by simp [PyData.canLayAll0, g2, h2], ?_, ?_⟩
    · simp only [PyData.depthAll]
      omega
    · rw [List.any_cons, List.any_cons, g4, h4]
theorem shaped_opt {ds : List PyData} (h1 : PyData.canLayAll0 ds = true) (h2 : PyData.depthAll ds ≤ 41) : SeqAt.shaped (.list ds) = true := by
  unfold SeqAt.shaped
  rw [Bool.and_eq_true]
  exact ⟨by rw [PyData.canLay0]; exact h1, decide_eq_true (by rw [PyData.depth]; omega)⟩
theorem optD_non {K : PySem.W.Frag} {H : Hp} : OptD K H .non := ⟨.none, .non, by decide, by decide, by decide⟩
theorem optD_per {K : PySem.W.Frag} {H : Hp} {a : Addr} {q : Int × Option Int} (h : H a = some (.tup [.int q.1, dV q.2])) : OptD K H (.ref a) := by
  refine ⟨perD q, ?_, ?_, by have := depth_per q; omega, ?_⟩
  · obtain ⟨b, d⟩ := q
    cases d with
    | none => exact .tup (SqT.of h) (.cons (.int _) (.cons .non .nil))
    | some i => exact .tup (SqT.of h) (.cons (.int _) (.cons (.int _) .nil))
  · have := lay_pers [q]
    simpa [PyData.canLayAll0] using this
  · simp [perD, PyData.eqv]
theorem any_non {zs : List V} : (zs.any fun v => decide (v = V.non)) = true ↔ V.non ∈ zs := by
  rw [List.any_eq_true]
  constructor
  · rintro ⟨v, hv, h⟩
    rw [← of_decide_eq_true h]
    exact hv
  · exact fun h => ⟨_, h, decide_eq_true rfl⟩
/-- each item made one of its kind, or None -/
theorem all_made {β : Type} {zs : List (V × Str)} {R : Str → β → Prop} {O : β → Addr → Prop} (h : ∀ z ∈ zs, (∃ b t, z.1 = .ref t ∧ R z.2 b ∧ O b t) ∨ ((∀ b, ¬ R z.2 b) ∧ z.1 = .non)) (hn : V.non ∉ zs.map (·.1)) : ∃ pz : List (Addr × β), zs.map (·.1) = pz.map (fun z => V.ref z.1) ∧ (∀ z ∈ pz, O z.2 z.1) ∧ Paired R (zs.map (·.2)) (pz.map (·.2)) := by
  induction zs with
  | nil => exact ⟨[], rfl, (fun _ h => (nomatch h)), .nil⟩
  | cons z r ih =>
    obtain ⟨pz, h1, h2, h3⟩ := ih (fun x hx => h x (List.mem_cons_of_mem _ hx)) fun hm => hn (List.mem_cons_of_mem _ hm)
    rcases h z List.mem_cons_self with ⟨b, t, e, hr, ho⟩ | ⟨_, e⟩
    · refine ⟨(t, b) :: pz, by rw [List.map_cons, List.map_cons, h1, e], fun y hy => ?_, .cons hr h3⟩
      rcases List.mem_cons.mp hy with rfl | hy
      · exact ho
      · exact h2 y hy
    · exact absurd (show V.non ∈ (z :: r).map (·.1) by rw [List.map_cons, e]; exact List.mem_cons_self) hn
def FolkO (ps : List (Int × Option Int)) (t : Addr) (H : Hp) : Prop := ∃ pz : List (Addr × Int × Option Int), H t = some (.tup (pz.map fun z => V.ref z.1)) ∧ pz.map (·.2) = ps ∧ ∀ z ∈ pz, H z.1 = some (.tup [.int z.2.1, dV z.2.2])
theorem FolkO.kp {ps : List (Int × Option Int)} {t : Addr} {H H' : Hp} (h : FolkO ps t H) (k : KpT H H') : FolkO ps t H' := by
  obtain ⟨pz, h1, h2, h3⟩ := h
  exact ⟨pz, k _ _ h1, h2, fun z hz => k _ _ (h3 z hz)⟩
def FolkF (ws : List Str) (ps : List (Int × Option Int)) : Prop := ws = (ps.map fun q => perT q.1 q.2) ∧ ∀ q ∈ ps, okPer q
theorem paired_per {ws : List Str} {ps : List (Int × Option Int)} (h : Paired (fun (w : Str) (q : Int × Option Int) => w = perT q.1 q.2 ∧ okPer q) ws ps) : FolkF ws ps := by
  induction h with
  | nil => exact ⟨rfl, (fun _ h => (nomatch h))⟩
  | cons a _ ih =>
    obtain ⟨rfl, ha⟩ := a
    obtain ⟨rfl, hb⟩ := ih
    refine ⟨rfl, fun q hq => ?_⟩
    rcases List.mem_cons.mp hq with rfl | hq
    · exact ha
    · exact hb q hq
section
variable {P : Program} {w : World} {K : PySem.W.Frag} {mg : Str → Option Value} {base : Heap} {T : List (Addr × Str)}
abbrev sFolkRd : Stmt := topS 40
abbrev nFolkRd : List Str := ["words", "persons", "word"]
abbrev pFolkRd : List Str := ["words"]
theorem scFolkRd : FnScope nFolkRd pFolkRd (defScope sFolkRd) := ⟨rfl, rfl, rfl, by decide +kernel, rfl, by decide +kernel, by decide +kernel⟩
def spFolkRdA : Sp := fun vs H Q _ => ∃ (p : Addr) (ws : List Str), vs = [.ref p] ∧ H p = some (.lst (ws.map V.str)) ∧ ws.length ≤ 900 ∧ (∀ x ∈ ws, x.length ≤ 600) ∧ GO (FolkF ws) FolkO H Q
theorem ok_FolkRdA {f : Addr} {fd : FuncData} {k : Nat} (F : Fun K "folk_read" "folk_read" sFolkRd f fd) (C_person_read : CallOk P w K mg base k "person_read" pPerRd spPerRdA) (m_tuple : mg "tuple" = none) : FnOk P w K mg base CX0 (k + 1) f fd pFolkRd spFolkRdA := by
  refine F.ok scFolkRd (fun vs H Q E h => ?_) (fun cdv A outer s H vs Q E hr h => ?_)
  · obtain ⟨p, ps, rfl, _⟩ := h
    rfl
  · obtain ⟨p, ws, rfl, hp, hl, hs, qg, qn⟩ := h
    have nd := scFolkRd.nd
    have h65 := Nat.lt_of_le_of_lt (Nat.add_le_add_left (show 65 ≤ 16 * k + 200 by omega) _) (show _ + (16 * k + 200) < cLine from by have h := hr.un; rw [Nat.add_assoc] at h; exact h)
    refine ⟨_, pss_cons (ps_setLc (i := 1) (own := [("word", 2)]) (g := gName 2) (by rfl) nd rfl rfl (sw_true rfl rfl rfl (by decide +kernel)) (pi_list (pv 0)) (blkOk_by (own := [("word", 2)]) (N := nFolkRd) (sc := defScope sFolkRd) (by decide +kernel)) (fun _ _ _ _ _ => (pg_name (i := 2) nd rfl (.inl rfl))) (fun _ _ _ _ _ => pts_nil)
          (fun _ _ _ _ _ => (pe_call C_person_read.ok hr (by rfl) C_person_read.g C_person_read.kp C_person_read.b .nil pass0 (pa_cons (pv 2) pa_nil))))
      (pss_one (ps_ret (pe_ifExp (pt_cmpR (op_inD h65) pe_non (pv 1) (by rfl)) pe_non (pe_callTy call_tuple_of (by rfl) m_tuple (by decide +kernel) (pa_cons (pv 1) pa_nil))))), ?_⟩
    refine ⟨_, rfl, _, rfl, ⟨_, SqL.of hp⟩, fun M1 nM1 => ?_⟩
    refine lc_newE (walk_list (xs := ws.map V.str)) ws (fun H y u => (∃ (q : Int × Option Int) (t : Addr), u = .ref t ∧ (y = perT q.1 q.2 ∧ okPer q) ∧ H t = some (.tup [.int q.1, dV q.2])) ∨ ((∀ q : Int × Option Int, ¬ (y = perT q.1 q.2 ∧ okPer q)) ∧ u = .non)) ?_ (by rw [List.length_map]) (by omega) nM1 (fun H s => SqL.of (s _ _ hp)) ?_ ?_
    · rintro y u H3 H4 xs hD k3 (⟨q, t, e, hq, ht⟩ | h)
      · exact .inl ⟨q, t, e, hq, k3 _ _ (fun z => by rw [z, hD] at ht; cases ht) ht⟩
      · exact .inr h
    · rintro i y x H3 H4 hy s3 _ ⟨rfl, hx1⟩ Q1 q1
      rw [List.getElem?_map, hy] at hx1
      injection hx1 with hx1
      subst hx1
      refine ⟨rfl, _, rfl, y, rfl, hs y (List.mem_of_getElem? hy), fun q t H' hq s' e' => ?_, fun hn H' s' => ?_⟩
      · exact q1 _ H' s' (.inl ⟨q, t, rfl, hq, e'⟩)
      · exact q1 _ H' s' (.inr ⟨hn, rfl⟩)
    intro H2 zs s2 eM hz hat
    obtain ⟨ds, hdp, hlay, hdep, hany⟩ := opt_list (K := K) (H := H2) (zs.map (·.1)) fun v hv => by
      obtain ⟨z, hm, rfl⟩ := List.mem_map.mp hv
      rcases hat z hm with ⟨q, t, e, _, ht⟩ | ⟨_, e⟩
      · rw [e]
        exact optD_per ht
      · rw [e]
        exact optD_non
    refine ⟨_, rfl, .none, ds, .non, .lst (SqL.of eM) hdp, by decide, shaped_opt hlay hdep, _, rfl, ?_⟩
    rw [hany]
    cases hN : (zs.map (·.1)).any fun v => decide (v = V.non) with
    | true =>
      refine iteT (qn (fun ps hps => ?_) H2 s2)
      obtain ⟨z, hm, hz0⟩ := List.mem_map.mp (any_non.mp hN)
      rcases hat z hm with ⟨q, t, e, _, _⟩ | ⟨hno, _⟩
      · rw [hz0] at e
        cases e
      · have hz2 : z.2 ∈ ws := by
          rw [← hz]
          exact List.mem_map_of_mem (f := (·.2)) hm
        rw [hps.1] at hz2
        obtain ⟨q, hq, e⟩ := List.mem_map.mp hz2
        exact hno q ⟨e.symm, hps.2 q hq⟩
    | false =>
      refine iteF ?_
      obtain ⟨pz, e1, e2, e3⟩ := all_made (R := fun (y : Str) (q : Int × Option Int) => y = perT q.1 q.2 ∧ okPer q) (O := fun q t => H2 t = some (.tup [.int q.1, dV q.2])) hat (fun hm => by
        rw [any_non.mpr hm] at hN
        cases hN)
      rw [hz] at e3
      refine ⟨_, rfl, M1, _, rfl, .inl ⟨SqL.of eM, fun t3 nt3 => ?_⟩⟩
      have s3 := same_new nt3 (.tup (zs.map (·.1)))
      exact qg _ t3 _ (paired_per e3) (s2.trans s3) ⟨pz, by rw [upd_same, e1], rfl, fun z hm => s3 _ _ (e2 z hm)⟩
/-! ### entries -/
def TailF (e : En) : Prop := match e.kd with
  | .deed g t rs ws => fit40 g ∧ fit40 t ∧ (∀ i ∈ rs, fit40 i) ∧ ∀ i ∈ ws, fit40 i
  | .act x o => fit40 o ∧ (x = "paid" ∨ x = "void" ∨ x = "undone")
abbrev sDeedTl : Stmt := topS 41
abbrev nDeedTl : List Str := ["words", "giver", "taker", "rests", "witnesses"]
abbrev pDeedTl : List Str := ["words"]
theorem scDeedTl : FnScope nDeedTl pDeedTl (defScope sDeedTl) := ⟨rfl, rfl, rfl, by decide +kernel, rfl, by decide +kernel, by decide +kernel⟩
def DeedR (ws : List Str) (q : (Int × Int) × List Int × List Int) : Prop := ws = [intT q.1.1, intT q.1.2, rowT q.2.1, rowT q.2.2] ∧ fit40 q.1.1 ∧ fit40 q.1.2 ∧ (∀ i ∈ q.2.1, fit40 i) ∧ ∀ i ∈ q.2.2, fit40 i
def DeedO (q : (Int × Int) × List Int × List Int) (o : Addr) (H : Hp) : Prop := ∃ r u, H o = some (.tup [.int q.1.1, .int q.1.2, .ref r, .ref u]) ∧ H r = some (.tup (q.2.1.map V.int)) ∧ H u = some (.tup (q.2.2.map V.int))
def spDeedTlA : Sp := fun vs H Q _ => ∃ (p : Addr) (ws : List Str), vs = [.ref p] ∧ H p = some (.lst (ws.map V.str)) ∧ (∀ x ∈ ws, x.length ≤ 600) ∧ GO (DeedR ws) DeedO H Q
theorem ok_DeedTlA {f : Addr} {fd : FuncData} {k : Nat} (F : Fun K "deed_tail_read" "deed_tail_read" sDeedTl f fd) (C_are_number_texts : CallOk P w K mg base k "are_number_texts" pAreNumT spAreNumT) (C_is_list_text : CallOk P w K mg base k "is_list_text" pIsListT spIsListA) (C_list_read : CallOk P w K mg base k "list_read" pListRd spListRdA) (m_len : mg "len" = none) (m_int : mg "int" = none) : FnOk P w K mg base CX0 (k + 1) f fd pDeedTl spDeedTlA := by
  refine F.ok scDeedTl (fun vs H Q E h => ?_) (fun cdv A outer s H vs Q E hr h => ?_)
  · obtain ⟨p, ws, rfl, _⟩ := h
    rfl
  · obtain ⟨p, ws, rfl, hp, hs, qg, qn⟩ := h
    have nd := scDeedTl.nd
    refine ⟨_, pss_cons (ps_if (PW.pt (pw_or (pt_cmpR op_ne (pe_callB call_len_seq (by rfl) m_len (by decide +kernel) (pa_cons (pv 0) pa_nil)) pe_int (nomark _)) (pw_or1 (pt_not (pt_val (pe_call C_are_number_texts.ok hr (by rfl) C_are_number_texts.g C_are_number_texts.kp C_are_number_texts.b .nil pass0 (pa_cons (pe_slice sl_list (pv 0) po_none (po_some pe_int)) pa_nil))))))) (pss_one (ps_ret pe_non)) pss_nil)
      (pss_cons (ps_asg (pv 0) (L2.pg_lst (by rfl) (pgs_cons (pg_name (i := 1) nd rfl (.inl rfl)) (pgs_cons (pg_name (i := 2) nd rfl (.inl rfl)) (pgs_cons (pg_name (i := 3) nd rfl (.inl rfl)) (pgs_cons (pg_name (i := 4) nd rfl (.inl rfl)) pgs_nil))))))
      (pss_cons (ps_if (PW.pt (pw_or (pt_not (pt_val (pe_call C_is_list_text.ok hr (by rfl) C_is_list_text.g C_is_list_text.kp C_is_list_text.b .nil pass0 (pa_cons (pv 3) pa_nil)))) (pw_or1 (pt_not (pt_val (pe_call C_is_list_text.ok hr (by rfl) C_is_list_text.g C_is_list_text.kp C_is_list_text.b .nil pass0 (pa_cons (pv 4) pa_nil))))))) (pss_one (ps_ret pe_non)) pss_nil)
      (pss_one (ps_ret (pe_tup (pa_cons (pe_callTy call_int_str (by rfl) m_int (by decide +kernel) (pa_cons (pv 1) pa_nil)) (pa_cons (pe_callTy call_int_str (by rfl) m_int (by decide +kernel) (pa_cons (pv 2) pa_nil)) (pa_cons (pe_call C_list_read.ok hr (by rfl) C_list_read.g C_list_read.kp C_list_read.b .nil pass0 (pa_cons (pv 3) pa_nil)) (pa_cons (pe_call C_list_read.ok hr (by rfl) C_list_read.g C_list_read.kp C_list_read.b .nil pass0 (pa_cons (pv 4) pa_nil)) pa_nil))))))))), ?_⟩
    refine ⟨_, rfl, p, _, rfl, .inl (SqL.of hp), rfl, _, rfl, ?_⟩
    rw [List.length_map]
    by_cases h4 : ws.length = 4
    rotate_left
    · rw [show decide (V.int (ws.length : Nat) = V.int 4) = false from decide_eq_false fun z => h4 (by injection z with z; omega)]
      exact iteT (qn (fun q hq => h4 (by rw [hq.1]; rfl)) H (same_refl _))
    rw [show decide (V.int (ws.length : Nat) = V.int 4) = true from decide_eq_true (by rw [h4]; rfl)]
    refine iteF ?_
    obtain ⟨a, b, c, d, rfl⟩ : ∃ a b c d, ws = [a, b, c, d] := by
      match ws, h4 with
      | [a, b, c, d], _ => exact ⟨a, b, c, d, rfl⟩
    have la := hs a (by simp)
    have lb := hs b (by simp)
    have lc := hs c (by simp)
    have ld := hs d (by simp)
    refine ⟨_, rfl, ?_⟩
    dsimp only [tNoPart]
    refine ⟨_, rfl, p, _, rfl, SqL.of hp, fun q1 nq1 => ?_⟩
    rw [show cutV ([a, b, c, d].map V.str) none (some 2) = [a, b].map V.str from cutTake V.str [a, b, c, d] (by decide)]
    have s1 := same_new nq1 (.lst ([a, b].map V.str))
    have e1 : (upd H q1 (.lst ([a, b].map V.str))) q1 = some (.lst ([a, b].map V.str)) := upd_same
    generalize (upd H q1 (.lst ([a, b].map V.str))) = H1 at s1 e1
    refine ⟨q1, _, rfl, e1, by show 2 ≤ 999; decide, fun x hx => ?_, fun H2 s2 => ⟨_, rfl, ?_⟩⟩
    · rcases List.mem_cons.mp hx with rfl | hx
      · omega
      · rw [List.mem_singleton.mp hx]
        omega
    have s02 := s1.trans s2
    have e2 : [a, b].all (fun x => numOk (tl x)) = (numOk (tl a) && numOk (tl b)) := by
      rw [List.all_cons, List.all_cons, List.all_nil, Bool.and_true]
    rw [e2]
    cases hab : numOk (tl a) && numOk (tl b) with
    | false =>
      refine iteT (qn (fun q hq => ?_) _ s02)
      obtain ⟨he, g1, g2, _⟩ := hq
      injection he with he1 he
      injection he with he2 _
      rw [he1, he2, numOk_iff.mpr ⟨_, rfl, g1⟩, numOk_iff.mpr ⟨_, rfl, g2⟩] at hab
      cases hab
    | true =>
    refine iteF ?_
    rw [Bool.and_eq_true] at hab
    obtain ⟨gi, rfl, fg⟩ := numOk_iff.mp hab.1
    obtain ⟨ti, rfl, ft⟩ := numOk_iff.mp hab.2
    refine ⟨_, rfl, p, _, rfl, SqL.of (s02 _ _ hp), rfl, _, _, rfl, _, _, rfl, _, _, rfl, _, _, rfl, rfl, ?_⟩
    refine ⟨_, rfl, c, rfl, lc, fun H3 s3 => ⟨_, rfl, ?_⟩⟩
    have s03 := s02.trans s3
    cases hc : lisOk c with
    | false =>
      refine iteT (qn (fun q hq => ?_) _ s03)
      obtain ⟨he, _, _, g3, _⟩ := hq
      injection he with _ he
      injection he with _ he
      injection he with he3 _
      rw [lisOk_iff.mpr ⟨_, he3, g3⟩] at hc
      cases hc
    | true =>
    refine iteF ?_
    refine ⟨_, rfl, d, rfl, ld, fun H4 s4 => ⟨_, rfl, ?_⟩⟩
    have s04 := s03.trans s4
    cases hd : lisOk d with
    | false =>
      refine iteT (qn (fun q hq => ?_) _ s04)
      obtain ⟨he, _, _, _, g4⟩ := hq
      injection he with _ he
      injection he with _ he
      injection he with _ he
      injection he with he4 _
      rw [lisOk_iff.mpr ⟨_, he4, g4⟩] at hd
      cases hd
    | true =>
    refine iteF ?_
    obtain ⟨rs, rfl, fr⟩ := lisOk_iff.mp hc
    obtain ⟨us, rfl, fu⟩ := lisOk_iff.mp hd
    refine ⟨_, rfl, intT gi, gi, rfl, reads_any (by omega), by omega, _, rfl, intT ti, ti, rfl, reads_any (by omega), by omega, ?_⟩
    refine ⟨_, rfl, rs, rfl, lc, fun r H5 s5 er => ?_⟩
    refine ⟨_, rfl, us, rfl, ld, fun u H6 s6 eu => ⟨(by show 4 ≤ sizeLine; decide), fun o no => ?_⟩⟩
    have s7 := same_new no (.tup [.int gi, .int ti, .ref r, .ref u])
    exact qg ((gi, ti), rs, us) o _ ⟨rfl, fg, ft, fr, fu⟩ (s04.trans (s5.trans (s6.trans s7))) ⟨r, u, upd_same, s7 _ _ (s6 _ _ er), s7 _ _ eu⟩
abbrev sTailRd : Stmt := topS 42
abbrev nTailRd : List Str := ["word", "words"]
abbrev pTailRd : List Str := ["word", "words"]
theorem scTailRd : FnScope nTailRd pTailRd (defScope sTailRd) := ⟨rfl, rfl, rfl, by decide +kernel, rfl, by decide +kernel, by decide +kernel⟩
def TailR (x : Str) (ws : List Str) (e : En) : Prop := e.word = x ∧ ws = tailP e ∧ TailF e
def spTailRdA : Sp := fun vs H Q _ => ∃ (p : Addr) (x : Str) (ws : List Str), vs = [.str x, .ref p] ∧ H p = some (.lst (ws.map V.str)) ∧ (∀ x ∈ ws, x.length ≤ 600) ∧ GO (TailR x ws) (fun e o H => TailAt H o e) H Q
theorem ok_TailRdA {f aw : Addr} {fd : FuncData} {k : Nat} (F : Fun K "tail_read" "tail_read" sTailRd f fd) (AW : ActWG K mg aw) (C_deed_tail_read : CallOk P w K mg base k "deed_tail_read" pDeedTl spDeedTlA) (C_is_number_text : CallOk P w K mg base k "is_number_text" pIsNumT spIsNumT) (m_len : mg "len" = none) (m_int : mg "int" = none) : FnOk P w K mg base CX0 (k + 1) f fd pTailRd spTailRdA := by
  refine F.ok scTailRd (fun vs H Q E h => ?_) (fun cdv A outer s H vs Q E hr h => ?_)
  · obtain ⟨p, x, ws, rfl, _⟩ := h
    rfl
  · obtain ⟨p, x, ws, rfl, hp, hs, qg, qn⟩ := h
    have nd := scTailRd.nd
    refine ⟨_, pss_cons (ps_if (pt_cmpR op_eq (pv 0) pe_str (nomark _)) (pss_one (ps_ret (pe_call C_deed_tail_read.ok hr (by rfl) C_deed_tail_read.g C_deed_tail_read.kp C_deed_tail_read.b .nil pass0 (pa_cons (pv 1) pa_nil)))) pss_nil)
      (pss_cons (ps_if (PW.pt (pw_and (pt_cmpR op_in_seq (pv 0) (pe_glob (v := .ref aw) (by rfl) AW.1 rfl) (by rfl)) (pw_and (pt_cmpR op_eq (pe_callB call_len_seq (by rfl) m_len (by decide +kernel) (pa_cons (pv 1) pa_nil)) pe_int (nomark _)) (pw_and1 (pt_val (pe_call C_is_number_text.ok hr (by rfl) C_is_number_text.g C_is_number_text.kp C_is_number_text.b .nil pass0 (pa_cons (pe_ix ix_list (pv 1) pe_int (fun _ _ => rfl)) pa_nil))))))) (pss_one (ps_ret (pe_tup (pa_cons (pe_callTy call_int_str (by rfl) m_int (by decide +kernel) (pa_cons (pe_ix ix_list (pv 1) pe_int (fun _ _ => rfl)) pa_nil)) pa_nil)))) pss_nil)
      (pss_one (ps_ret pe_non))), ?_⟩
    refine ⟨_, rfl, rfl, _, rfl, ?_⟩
    by_cases hx : x = ("deed" : Str)
    · subst hx
      rw [decide_eq_true rfl]
      refine iteT ?_
      refine ⟨_, rfl, p, ws, rfl, hp, hs, fun q t H' hq s' ho => ?_, fun hn H' s' => qn (fun e he => ?_) H' s'⟩
      · obtain ⟨r, u, o1, o2, o3⟩ := ho
        obtain ⟨he, g1, g2, g3, g4⟩ := hq
        exact qg ⟨0, 0, 0, 0, .deed q.1.1 q.1.2 q.2.1 q.2.2⟩ t H' ⟨rfl, he, g1, g2, g3, g4⟩ s' ⟨r, u, o1, o2, o3⟩
      · obtain ⟨e1, e2, e3⟩ := he
        unfold TailF at e3
        unfold tailP at e2
        unfold En.word at e1
        cases hk : e.kd with
        | deed g t rs us =>
          rw [hk] at e2 e3
          exact hn ((g, t), rs, us) ⟨e2, e3.1, e3.2.1, e3.2.2.1, e3.2.2.2⟩
        | act y o =>
          rw [hk] at e1 e3
          have e1' : y = ("deed" : Str) := e1
          rcases e3.2 with z | z | z <;> (rw [z] at e1'; exact absurd e1' (by decide +kernel))
    · rw [decide_eq_false (show ¬ V.str x = V.str ("deed" : Str) from fun z => hx (by injection z))]
      refine iteF ?_
      have bad : ∀ e : En, TailR x ws e → (x = "paid" ∨ x = "void" ∨ x = "undone") ∧ ∃ o, fit40 o ∧ ws = [intT o] := fun e he => by
        obtain ⟨e1, e2, e3⟩ := he
        unfold TailF at e3
        unfold tailP at e2
        unfold En.word at e1
        cases hk : e.kd with
        | deed g t rs us =>
          rw [hk] at e1
          exact absurd e1.symm hx
        | act y o =>
          rw [hk] at e1 e2 e3
          rw [← e1]
          exact ⟨e3.2, o, e3.1, e2⟩
      refine ⟨_, rfl, aw, _, rfl, .inr (AW.2 H), rfl, rfl, _, rfl, ?_⟩
      show if inV (V.str x) ((([("paid" : Str), "void", "undone"] : List Str)).map V.str) = true then _ else _
      rw [mem_inS]
      by_cases hi : x ∈ [("paid" : Str), "void", "undone"]
      rotate_left
      · rw [decide_eq_false hi]
        refine iteF (qn (fun e he => hi ?_) H (same_refl _))
        have := (bad e he).1
        simp only [List.mem_cons, List.not_mem_nil, or_false]
        exact this
      rw [decide_eq_true hi]
      refine iteT ?_
      refine ⟨_, rfl, p, _, rfl, .inl (SqL.of hp), rfl, _, rfl, ?_⟩
      rw [List.length_map]
      by_cases h1 : ws.length = 1
      rotate_left
      · rw [show decide (V.int (ws.length : Nat) = V.int 1) = false from decide_eq_false fun z => h1 (by injection z with z; omega)]
        refine iteF (qn (fun e he => h1 ?_) H (same_refl _))
        obtain ⟨_, o, _, eo⟩ := bad e he
        rw [eo]
        rfl
      rw [show decide (V.int (ws.length : Nat) = V.int 1) = true from decide_eq_true (by rw [h1]; rfl)]
      refine iteT ?_
      obtain ⟨a, rfl⟩ : ∃ a, ws = [a] := by
        match ws, h1 with
        | [a], _ => exact ⟨a, rfl⟩
      have la := hs a (by simp)
      refine ⟨_, rfl, p, _, _, _, rfl, rfl, SqL.of hp, (atI_nat (j := 0) rfl), a, rfl, by omega, fun H2 s2 => ⟨_, rfl, ?_⟩⟩
      cases ha : numOk (tl a) with
      | false =>
        refine iteF (qn (fun e he => ?_) H2 s2)
        obtain ⟨_, o, fo, eo⟩ := bad e he
        injection eo with eo _
        rw [numOk_iff.mpr ⟨o, eo, fo⟩] at ha
        cases ha
      | true =>
      refine iteT ?_
      obtain ⟨i, rfl, fi⟩ := numOk_iff.mp ha
      refine ⟨_, rfl, p, _, _, _, rfl, rfl, SqL.of (s2 _ _ hp), (atI_nat (j := 0) rfl), intT i, i, rfl, reads_any (by omega), by omega, (by show 1 ≤ sizeLine; decide), fun t1 nt1 => ?_⟩
      refine qg ⟨0, 0, 0, 0, .act x i⟩ t1 _ ⟨rfl, rfl, fi, ?_⟩ (s2.trans (same_new nt1 _)) upd_same
      simpa only [List.mem_cons, List.not_mem_nil, or_false] using hi
end
end Deed

namespace Deed
open PySem PySem.Spec PyProof.Rows L2 LamX TL TX
theorem wordsE_len (e : En) : 6 ≤ (wordsE e).length := by
  unfold wordsE tailP
  cases e.kd
  · show 6 ≤ 9; decide
  · show 6 ≤ 6; decide
section
variable {P : Program} {w : World} {K : PySem.W.Frag} {mg : Str → Option Value} {base : Heap} {T : List (Addr × Str)}
abbrev sEntRd : Stmt := topS 43
abbrev nEntRd : List Str := ["words", "tail", "number"]
abbrev pEntRd : List Str := ["words"]
theorem scEntRd : FnScope nEntRd pEntRd (defScope sEntRd) := ⟨rfl, rfl, rfl, by decide +kernel, rfl, by decide +kernel, by decide +kernel⟩
def EntF (ws : List Str) (e : En) : Prop := ws = wordsE e ∧ (fit40 e.num ∧ fit40 e.day ∧ fit40 e.wri ∧ fit40 e.hand) ∧ TailF e
def spEntRdA : Sp := fun vs H Q _ => ∃ (p : Addr) (ws : List Str), vs = [.ref p] ∧ H p = some (.lst (ws.map V.str)) ∧ (∀ x ∈ ws, x.length ≤ 600) ∧ GO (EntF ws) (fun e o H => EntAt H o e) H Q
theorem ok_EntRdA {f : Addr} {fd : FuncData} {k : Nat} (F : Fun K "entry_read" "entry_read" sEntRd f fd) (C_are_number_texts : CallOk P w K mg base k "are_number_texts" pAreNumT spAreNumT) (C_tail_read : CallOk P w K mg base k "tail_read" pTailRd spTailRdA) (m_len : mg "len" = none) (m_int : mg "int" = none) (m_tuple : mg "tuple" = none) (iWORD : MgInt mg "WORD" 4) (iOF : MgInt mg "OF" 5) : FnOk P w K mg base CX0 (k + 1) f fd pEntRd spEntRdA := by
  refine F.ok scEntRd (fun vs H Q E h => ?_) (fun cdv A outer s H vs Q E hr h => ?_)
  · obtain ⟨p, ws, rfl, _⟩ := h
    rfl
  · obtain ⟨p, ws, rfl, hp, hs, qg, qn⟩ := h
    have nd := scEntRd.nd
    refine ⟨_, pss_cons (ps_if (PW.pt (pw_or (pt_cmpR op_le (pe_callB call_len_seq (by rfl) m_len (by decide +kernel) (pa_cons (pv 0) pa_nil)) (pe_num (by rfl) iOF) (nomark _)) (pw_or1 (pt_not (pt_val (pe_call C_are_number_texts.ok hr (by rfl) C_are_number_texts.g C_are_number_texts.kp C_are_number_texts.b .nil pass0 (pa_cons (pe_slice sl_list (pv 0) po_none (po_some (pe_num (by rfl) iWORD))) pa_nil))))))) (pss_one (ps_ret pe_non)) pss_nil)
      (pss_cons (ps_set (i := 1) nd rfl (.inl rfl) (pe_call C_tail_read.ok hr (by rfl) C_tail_read.g C_tail_read.kp C_tail_read.b .nil pass0 (pa_cons (pe_ix ix_list (pv 0) (pe_num (by rfl) iWORD) (fun _ _ => rfl)) (pa_cons (pe_slice sl_list (pv 0) (po_some (pe_num (by rfl) iOF)) po_none) pa_nil))))
      (pss_cons (ps_if (pt_cmpR op_isN (pv 1) pe_non (nomark _)) (pss_one (ps_ret pe_non)) pss_nil)
      (pss_one (ps_ret (pe_op op_catA (pe_op op_catA (pe_callTy call_tuple_of (by rfl) m_tuple (by decide +kernel) (pa_cons (pe_lc (own := [("number", 2)]) (g := gName 2) (by rfl) nd (pi_list (pe_slice sl_list (pv 0) po_none (po_some (pe_num (by rfl) iWORD)))) (blkOk_by (own := [("number", 2)]) (N := nEntRd) (sc := defScope sEntRd) (by decide +kernel)) (fun _ _ _ _ _ => (pg_name (i := 2) nd rfl (.inl rfl))) (fun _ _ _ _ _ => pts_nil)
          (fun _ _ _ _ _ => (pe_callTy call_int_str (by rfl) m_int (by decide +kernel) (pa_cons (pv 2) pa_nil)))) pa_nil)) (pe_tup (pa_cons (pe_ix ix_list (pv 0) (pe_num (by rfl) iWORD) (fun _ _ => rfl)) pa_nil))) (pv 1)))))), ?_⟩
    refine ⟨_, rfl, p, _, rfl, .inl (SqL.of hp), _, _, rfl, rfl, _, rfl, ?_⟩
    rw [List.length_map]
    by_cases h6 : 6 ≤ ws.length
    rotate_left
    · rw [decide_eq_true (show (ws.length : Int) ≤ 5 by omega)]
      refine iteT (qn (fun e he => h6 ?_) H (same_refl _))
      rw [he.1]
      exact wordsE_len e
    rw [decide_eq_false (show ¬ (ws.length : Int) ≤ 5 by omega)]
    refine iteF ?_
    obtain ⟨a, b, c, d, x, rest, rfl⟩ : ∃ a b c d x rest, ws = a :: b :: c :: d :: x :: rest := by
      match ws, h6 with
      | a :: b :: c :: d :: x :: rest, _ => exact ⟨a, b, c, d, x, rest, rfl⟩
      | [_, _, _, _], h => exact absurd h (by simp)
      | [_, _, _], h => exact absurd h (by simp)
      | [_, _], h => exact absurd h (by simp)
      | [_], h => exact absurd h (by simp)
      | [], h => exact absurd h (by simp)
    have la := hs a (by simp)
    have lb := hs b (by simp)
    have lc := hs c (by simp)
    have ld := hs d (by simp)
    have hcut : ∀ v : Int, v = 4 → cutV ((a :: b :: c :: d :: x :: rest).map V.str) none (some v) = [a, b, c, d].map V.str := fun v hv => by
      subst hv
      rw [cutTake V.str (a :: b :: c :: d :: x :: rest) (by decide)]
      rfl
    have hdrop : cutV ((a :: b :: c :: d :: x :: rest).map V.str) (some 5) none = rest.map V.str := cutDrop V.str (a :: b :: c :: d :: x :: rest) 5
    have hat4 : ((a :: b :: c :: d :: x :: rest).map V.str)[4]? = some (.str x) := rfl
    refine ⟨_, rfl, ?_⟩
    dsimp only [tNoPart]
    refine ⟨_, rfl, p, _, rfl, SqL.of hp, fun q1 nq1 => ?_⟩
    rw [hcut 4 rfl]
    have s1 := same_new nq1 (.lst ([a, b, c, d].map V.str))
    have e1 : (upd H q1 (.lst ([a, b, c, d].map V.str))) q1 = some (.lst ([a, b, c, d].map V.str)) := upd_same
    generalize (upd H q1 (.lst ([a, b, c, d].map V.str))) = H1 at s1 e1
    refine ⟨q1, _, rfl, e1, by show 4 ≤ 999; decide, fun y hy => ?_, fun H2 s2 => ⟨_, rfl, ?_⟩⟩
    · simp only [List.mem_cons, List.not_mem_nil, or_false] at hy
      rcases hy with rfl | rfl | rfl | rfl <;> omega
    have s02 := s1.trans s2
    have hp2 := s02 _ _ hp
    have parts : ∀ e : En, EntF (a :: b :: c :: d :: x :: rest) e → (a = intT e.num ∧ b = intT e.day ∧ c = intT e.wri ∧ d = intT e.hand) ∧ x = e.word ∧ rest = tailP e := fun e he => by
      have := he.1
      unfold wordsE at this
      injection this with g1 this
      injection this with g2 this
      injection this with g3 this
      injection this with g4 this
      injection this with g5 g6
      exact ⟨⟨g1, g2, g3, g4⟩, g5, g6⟩
    cases h4 : [a, b, c, d].all (fun x => numOk (tl x)) with
    | false =>
      refine iteT (qn (fun e he => ?_) H2 s02)
      obtain ⟨⟨g1, g2, g3, g4⟩, _, _⟩ := parts e he
      obtain ⟨_, ⟨f1, f2, f3, f4⟩, _⟩ := he
      rw [Bool.eq_false_iff] at h4
      refine h4 (List.all_eq_true.mpr fun y hy => ?_)
      simp only [List.mem_cons, List.not_mem_nil, or_false] at hy
      rcases hy with rfl | rfl | rfl | rfl
      · exact numOk_iff.mpr ⟨_, g1, f1⟩
      · exact numOk_iff.mpr ⟨_, g2, f2⟩
      · exact numOk_iff.mpr ⟨_, g3, f3⟩
      · exact numOk_iff.mpr ⟨_, g4, f4⟩
    | true =>
    refine iteF ?_
    rw [List.all_eq_true] at h4
    obtain ⟨na, rfl, fa⟩ := numOk_iff.mp (h4 a (by simp))
    obtain ⟨nb, rfl, fb⟩ := numOk_iff.mp (h4 b (by simp))
    obtain ⟨nc, rfl, fc⟩ := numOk_iff.mp (h4 c (by simp))
    obtain ⟨nd', rfl, fd'⟩ := numOk_iff.mp (h4 d (by simp))
    refine ⟨_, rfl, p, _, _, _, rfl, rfl, SqL.of hp2, (atI_nat (j := 4) hat4), _, rfl, _, rfl, ?_⟩
    dsimp only [tNoPart]
    refine ⟨p, _, rfl, SqL.of hp2, fun q3 nq3 => ?_⟩
    rw [hdrop]
    have s3 := same_new nq3 (.lst (rest.map V.str))
    have e3 : (upd H2 q3 (.lst (rest.map V.str))) q3 = some (.lst (rest.map V.str)) := upd_same
    generalize (upd H2 q3 (.lst (rest.map V.str))) = H3 at s3 e3
    have s03 := s02.trans s3
    refine ⟨q3, x, rest, rfl, e3, fun y hy => hs y (by simp [hy]), fun e o H4 he s4 ho => ?_, fun hn H4 s4 => ?_⟩
    rotate_left
    · refine ⟨_, rfl, rfl, _, rfl, ?_⟩
      refine iteT (qn (fun e he => ?_) H4 (s03.trans s4))
      obtain ⟨_, g5, g6⟩ := parts e he
      exact hn e ⟨g5.symm, g6, he.2.2⟩
    obtain ⟨rfl, rfl, htf⟩ := he
    have s04 := s03.trans s4
    have hp4 := s04 _ _ hp
    refine ⟨_, rfl, rfl, _, rfl, ?_⟩
    refine iteF ?_
    refine ⟨_, rfl, ?_⟩
    dsimp only [tNoPart]
    refine ⟨_, rfl, p, _, rfl, SqL.of hp4, fun q5 nq5 => ?_⟩
    rw [hcut 4 rfl]
    have s5 := same_new nq5 (.lst ([intT na, intT nb, intT nc, intT nd'].map V.str))
    have e5 : (upd H4 q5 (.lst ([intT na, intT nb, intT nc, intT nd'].map V.str))) q5 = some (.lst ([intT na, intT nb, intT nc, intT nd'].map V.str)) := upd_same
    generalize (upd H4 q5 (.lst ([intT na, intT nb, intT nc, intT nd'].map V.str))) = H5 at s5 e5
    refine ⟨q5, rfl, ⟨_, SqL.of e5⟩, fun M6 nM6 => ?_⟩
    refine lc_sameM (walk_list (xs := [intT na, intT nb, intT nc, intT nd'].map V.str)) [na, nb, nc, nd'] V.int rfl (by show 4 ≤ 1000; decide) nM6 (fun H s => SqL.of (s _ _ e5)) ?_ ?_
    · rintro i y x H7 H8 hy s7 ⟨rfl, hx1⟩ Q1 q1
      have hly : (intT y).length ≤ 600 := by
        have := List.mem_of_getElem? hy
        simp only [List.mem_cons, List.not_mem_nil, or_false] at this
        rcases this with rfl | rfl | rfl | rfl <;> assumption
      have hx2 : ([na, nb, nc, nd'].map fun i => V.str (intT i))[i]? = some x := hx1
      rw [List.getElem?_map, hy] at hx2
      injection hx2 with hx2
      subst hx2
      exact ⟨rfl, _, rfl, intT y, y, rfl, reads_any (by omega), by omega, q1 _ (same_refl _)⟩
    intro H6 s6 eM6
    refine ⟨M6, _, rfl, .inl ⟨SqL.of eM6, fun t7 nt7 => ?_⟩⟩
    have s7 := same_new nt7 (.tup ([na, nb, nc, nd'].map V.int))
    have e7 : (upd H6 t7 (.tup ([na, nb, nc, nd'].map V.int))) t7 = some (.tup ([na, nb, nc, nd'].map V.int)) := upd_same
    generalize (upd H6 t7 (.tup ([na, nb, nc, nd'].map V.int))) = H7 at s7 e7
    have s47 := s5.trans (s6.trans s7)
    refine ⟨_, rfl, p, _, _, _, rfl, rfl, SqL.of (s47 _ _ hp4), (atI_nat (j := 4) hat4), (by show 1 ≤ sizeLine; decide), fun t8 nt8 => ?_⟩
    have s8 := same_new nt8 (.tup [.str e.word])
    have e8 : (upd H7 t8 (.tup [.str e.word])) t8 = some (.tup [.str e.word]) := upd_same
    generalize (upd H7 t8 (.tup [.str e.word])) = H8 at s8 e8
    refine catA_same (s8 _ _ e7) e8 (by show 5 ≤ 1000; decide) fun t9 H9 s9 e9 => ?_
    have s49 := s47.trans (s8.trans s9)
    refine ⟨_, rfl, ?_⟩
    have hEF : EntF (intT na :: intT nb :: intT nc :: intT nd' :: e.word :: tailP e) ⟨na, nb, nc, nd', e.kd⟩ := ⟨rfl, ⟨fa, fb, fc, fd'⟩, htf⟩
    have fin : ∀ t H', Same H H' → EntAt H' t ⟨na, nb, nc, nd', e.kd⟩ → Q (.ref t) H' := fun t H' s h => qg _ t H' hEF s h
    have ho : TailAt H4 o e := ho
    unfold TailAt at ho
    unfold EntAt at fin
    have e9w : e.word = (match e.kd with | .deed _ _ _ _ => ("deed" : Str) | .act x _ => x) := rfl
    rw [e9w] at e9
    cases hk : e.kd with
    | deed g t rs ws =>
      rw [hk] at ho e9
      simp only [hk] at fin
      obtain ⟨r, u, ho1, ho2, ho3⟩ := ho
      refine catA_same e9 (s49 _ _ ho1) (by show 9 ≤ 1000; decide) fun ta Ha sa ea => ?_
      have s4a := s49.trans sa
      exact fin ta Ha (s04.trans s4a) ⟨r, u, ea, s4a _ _ ho2, s4a _ _ ho3⟩
    | act x i =>
      rw [hk] at ho e9
      simp only [hk] at fin
      refine catA_same e9 (s49 _ _ ho) (by show 6 ≤ 1000; decide) fun ta Ha sa ea => ?_
      exact fin ta Ha (s04.trans (s49.trans sa)) ea
end
end Deed

namespace Deed
open PySem PySem.Spec PyProof.Rows L2 LamX TL TX
/-! ### books told by their parts -/
def PerK (q : Int × Option Int) : Prop := -9999 ≤ q.1 ∧ q.1 ≤ 9999 ∧ ∀ i, q.2 = some i → q.1 < i ∧ i ≤ 9999
structure BkS (ps : List (Int × Option Int)) (age : Int) (es : List En) : Prop where
  n1 : 1 ≤ ps.length
  n6 : ps.length ≤ 6
  per : ∀ q ∈ ps, PerK q
  age0 : 0 ≤ age
  age1 : age ≤ 9999
  len : es.length ≤ 16
  ok : BkOk ps.length es
def dT : Option Int → Tg
  | none => .non
  | some i => .int i
def perTg (q : Int × Option Int) : Tg := .tup [.int q.1, dT q.2]
def treeB (ps : List (Int × Option Int)) (age : Int) (es : List En) : Tg := .tup [.tup (ps.map perTg), .int age, .tup (es.map entT)]
theorem within_iff {i lo hi : Int} : (Tg.int i).within lo hi = true ↔ lo ≤ i ∧ i ≤ hi := by
  show (decide (lo ≤ i) && decide (i ≤ hi)) = true ↔ _
  rw [Bool.and_eq_true, decide_eq_true_eq, decide_eq_true_eq]
theorem isPer_iff (q : Int × Option Int) : isPersonT (perTg q) = true ↔ PerK q := by
  obtain ⟨b, d⟩ := q
  show ((Tg.int b).within (-9999) 9999 && diedT b (dT d)) = true ↔ _
  rw [Bool.and_eq_true, within_iff]
  unfold PerK
  cases d with
  | none => exact ⟨fun h => ⟨h.1.1, h.1.2, fun i z => nomatch z⟩, fun h => ⟨⟨h.1, h.2.1⟩, rfl⟩⟩
  | some i =>
    show (_ ∧ (Tg.int i).within (b + 1) 9999 = true) ↔ _
    rw [within_iff]
    constructor
    · rintro ⟨⟨h1, h2⟩, h3, h4⟩
      refine ⟨h1, h2, fun j z => ?_⟩
      injection z with z
      subst z
      exact ⟨by omega, h4⟩
    · rintro ⟨h1, h2, h3⟩
      have := h3 i rfl
      exact ⟨⟨h1, h2⟩, by omega, this.2⟩
theorem putK_lenE (kvs : List (Key × V)) (k : Key) (v : V) : (putK kvs k v).length = kvs.length ∨ ((putK kvs k v).length = kvs.length + 1 ∧ k ∉ kvs.map (·.1)) := by
  by_cases h : k ∈ kvs.map (·.1)
  · left
    unfold putK
    rw [if_pos]
    · exact List.length_map _
    · obtain ⟨kv, hkv, e⟩ := List.mem_map.mp h
      exact List.any_eq_true.mpr ⟨kv, hkv, decide_eq_true e⟩
  · right
    rw [putK_new h, List.length_append]
    exact ⟨rfl, h⟩
theorem wdT_nodup : ∀ (r : List En), (wdT (r.reverse.map entT)).length ≤ r.length ∧ ((wdT (r.reverse.map entT)).length = r.length → (r.reverse.map (·.num)).Nodup)
  | [] => ⟨Nat.le_refl _, fun _ => .nil⟩
  | e :: r => by
    obtain ⟨h1, h2⟩ := wdT_nodup r
    have e1 : wdT ((e :: r).reverse.map entT) = putK (wdT (r.reverse.map entT)) (.inl e.num) (.str e.word) := by
      unfold wdT
      rw [List.reverse_cons, List.map_append, List.foldl_append]
      show putK _ (Sum.inl (numT (entT e))) (.str (wordT (entT e))) = _
      rw [numT_ent, wordT_ent]
    rw [e1, List.length_cons]
    rcases putK_lenE (wdT (r.reverse.map entT)) (.inl e.num) (.str e.word) with h | ⟨h, hn⟩
    · exact ⟨by omega, fun z => by omega⟩
    · refine ⟨by omega, fun z => ?_⟩
      have nd := h2 (by omega)
      have ew : wdT (r.reverse.map entT) = wdk r.reverse := wdT_all r.reverse [] nd
      rw [List.reverse_cons, List.map_append, List.nodup_append]
      refine ⟨nd, by simp, fun a ha b hb => ?_⟩
      rw [List.map_cons, List.map_nil, List.mem_singleton] at hb
      rw [hb]
      rintro rfl
      refine hn ?_
      rw [ew]
      obtain ⟨u, hu, eu⟩ := List.mem_map.mp ha
      exact List.mem_map.mpr ⟨_, List.mem_map.mpr ⟨u, hu, rfl⟩, by rw [eu]⟩
theorem wdT_wdk {es : List En} (nd : (es.map (·.num)).Nodup) : wdT (es.map entT) = wdk es := wdT_all es [] nd
def ActW (e : En) : Prop := ∀ x o, e.kd = .act x o → x = "paid" ∨ x = "void" ∨ x = "undone"
theorem ActW.ne {e : En} (h : ActW e) : ∀ x o, e.kd = .act x o → x ≠ "deed" := fun x o hk z => by
  rcases h x o hk with q | q | q <;> (rw [q] at z; exact absurd z (by decide +kernel))
theorem ActW.iff {e : En} (h : ActW e) : e.word = "deed" ↔ e.isDeed = true := by
  unfold En.word En.isDeed
  cases hk : e.kd with
  | deed g t rs ws => simp
  | act x o =>
    have := h.ne x o hk
    simp [this]
theorem ActW.word {e : En} (h : ActW e) : WordOk e := by
  unfold WordOk En.word
  cases hk : e.kd with
  | deed g t rs ws => exact .inl rfl
  | act x o => exact .inr (h x o hk)
theorem TailF.actW {e : En} (h : TailF e) : ActW e := fun x o hk => by
  unfold TailF at h
  rw [hk] at h
  exact h.2
theorem bk_of_fit {n : Nat} {es : List En} (nd : (es.map (·.num)).Nodup) (hE : ∀ e ∈ es, EntOk n e) (hF : ∀ e ∈ es, fitE es e = true) : BkOk n es := by
  refine ⟨nd, fun e he => (hE e he).1, fun e he => (hE e he).enOk (fun r hr => ?_) fun hd => ?_⟩
  · have h3 := hF e he
    unfold fitE at h3
    cases hd : e.isDeed with
    | true =>
      rw [hd, if_pos rfl, List.all_eq_true] at h3
      exact of_decide_eq_true (h3 r hr)
    | false =>
      unfold En.rests at hr
      unfold En.isDeed at hd
      cases hk : e.kd with
      | deed g t rs ws => rw [hk] at hd; cases hd
      | act x o => rw [hk] at hr; cases hr
  · have h3 := hF e he
    have hwa : e.word ∈ [("paid" : Str), "void", "undone"] := by
      have h5 := (hE e he).2.2.2.2
      unfold En.word
      unfold En.isDeed at hd
      cases hk : e.kd with
      | deed g t rs ws => rw [hk] at hd; cases hd
      | act x o => rw [hk] at h5; exact h5.1
    unfold fitE at h3
    rw [hd, if_neg (by decide)] at h3
    by_cases hu : e.word = "undone"
    · rw [if_pos hu] at h3
      exact .inl ⟨hu, of_decide_eq_true h3⟩
    · rw [if_neg hu] at h3
      refine .inr ⟨?_, of_decide_eq_true h3⟩
      simp only [List.mem_cons, List.not_mem_nil, or_false] at hwa
      rcases hwa with z | z | z
      · exact .inl z
      · exact .inr z
      · exact absurd z hu
theorem isBook_iff {ps : List (Int × Option Int)} {age : Int} {es : List En} (hw : ∀ e ∈ es, ActW e) : isBookT (treeB ps age es) = true ↔ BkS ps age es := by
  show (((decide (1 ≤ (ps.map perTg).length) && decide ((ps.map perTg).length ≤ 6)) && (ps.map perTg).all isPersonT) && ((Tg.int age).within 0 9999 && (decide ((es.map entT).length ≤ 16) && ((es.map entT).all (isEntT (lenT (.tup (ps.map perTg)))) && (decide ((wdT (es.map entT)).length = (es.map entT).length) && (es.map entT).all (fitT (wdT (es.map entT)))))))) = true ↔ _
  have hl : lenT (.tup (ps.map perTg)) = (ps.length : Int) := by
    show (((ps.map perTg).length : Nat) : Int) = _
    rw [List.length_map]
  rw [hl]
  simp only [Bool.and_eq_true, decide_eq_true_eq, List.all_map, List.all_eq_true, Function.comp_apply, within_iff, isPer_iff, List.length_map]
  constructor
  · rintro ⟨⟨⟨h1, h2⟩, h3⟩, ⟨h4, h5⟩, h6, h7, h8, h9⟩
    have nd : (es.map (·.num)).Nodup := by
      have := (wdT_nodup es.reverse).2
      rw [List.reverse_reverse, List.length_reverse] at this
      exact this h8
    have hE : ∀ e ∈ es, EntOk ps.length e := fun e he => (isEntT_iff (hw e he).ne).mp (h7 e he)
    have hes : EsOk es := ⟨nd, fun e he => (hw e he).iff, fun e he hd => by
      unfold En.isDeed at hd
      unfold En.word
      cases hk : e.kd with
      | deed g t rs ws => rw [hk] at hd; cases hd
      | act x o => rcases hw e he x o hk with z | z | z <;> (show x ∈ _; rw [z]; decide)⟩
    refine ⟨h1, h2, h3, h4, h5, h6, bk_of_fit nd hE fun e he => ?_⟩
    have := h9 e he
    rw [wdT_wdk nd, fitT_ent hes (hw e he).iff] at this
    exact this
  · intro h
    refine ⟨⟨⟨h.n1, h.n6⟩, h.per⟩, ⟨h.age0, h.age1⟩, h.len, fun e he => (isEntT_iff (hw e he).ne).mpr (entOk_mem h.ok he), ?_, fun e he => ?_⟩
    · rw [wdT_wdk h.ok.nd]
      exact List.length_map _
    · rw [wdT_wdk h.ok.nd, fitT_ent h.ok.esOk (hw e he).iff]
      exact fitE_mem h.ok he
end Deed

namespace Deed
open PySem PySem.Spec PyProof.Rows L2 LamX TL TX
theorem rows_book {x : Str} {ps : List (Int × Option Int)} {age : Int} {es : List En} (hw : ∀ e ∈ es, WordOk e) : ((Txt.split x ("\n" : Str)).map fun l => Txt.split l (" " : Str)) = rowsT ps age es ↔ x = bookT ps age es := by
  constructor
  · intro h
    have h1 : (Txt.split x ("\n" : Str)) = (rowsT ps age es).map fun r => Txt.join (" " : Str) r := by
      rw [← h, List.map_map]
      exact ((List.map_congr_left fun l _ => join_back l (" " : Str)).trans (List.map_id _)).symm
    rw [book_rows, ← h1, join_back]
  · rintro rfl
    rw [split_book hw, List.map_map]
    exact (List.map_congr_left fun r hr => split_rowW hw hr).trans (List.map_id _)
theorem wordsE_inj {e e' : En} (h : ActW e) (h' : ActW e') (hq : wordsE e = wordsE e') : e = e' := by
  obtain ⟨n, d, w, a, k⟩ := e
  obtain ⟨n', d', w', a', k'⟩ := e'
  unfold wordsE at hq
  injection hq with q1 hq
  injection hq with q2 hq
  injection hq with q3 hq
  injection hq with q4 hq
  injection hq with q5 hq
  have e1 : n = n' := intT_inj q1
  have e2 : d = d' := intT_inj q2
  have e3 : w = w' := intT_inj q3
  have e4 : a = a' := intT_inj q4
  subst e1 e2 e3 e4
  cases k with
  | deed g t rs ws =>
    cases k' with
    | deed g' t' rs' ws' =>
      have hq' : [intT g, intT t, rowT rs, rowT ws] = [intT g', intT t', rowT rs', rowT ws'] := hq
      injection hq' with r1 hq'
      injection hq' with r2 hq'
      injection hq' with r3 hq'
      injection hq' with r4 _
      rw [intT_inj r1, intT_inj r2, rowT_inj r3, rowT_inj r4]
    | act x o =>
      exact absurd q5.symm (h'.ne x o rfl)
  | act x o =>
    cases k' with
    | deed g' t' rs' ws' => exact absurd q5 (h.ne x o rfl)
    | act x' o' =>
      have q5' : x = x' := q5
      have hq' : [intT o] = [intT o'] := hq
      injection hq' with r1 _
      rw [q5', intT_inj r1]
theorem map_inj_on {α β : Type} {f : α → β} : ∀ {l m : List α}, (∀ a ∈ l, ∀ b ∈ m, f a = f b → a = b) → l.map f = m.map f → l = m
  | [], [], _, _ => rfl
  | [], _ :: _, _, h => by cases h
  | _ :: _, [], _, h => by cases h
  | a :: l, b :: m, hi, h => by
    rw [List.map_cons, List.map_cons] at h
    injection h with h1 h2
    rw [hi a List.mem_cons_self b List.mem_cons_self h1, map_inj_on (fun x hx y hy => hi x (List.mem_cons_of_mem _ hx) y (List.mem_cons_of_mem _ hy)) h2]
theorem rowsT_inj {ps ps' : List (Int × Option Int)} {age age' : Int} {es es' : List En} (hw : ∀ e ∈ es, ActW e) (hw' : ∀ e ∈ es', ActW e) (h : rowsT ps age es = rowsT ps' age' es') : ps = ps' ∧ age = age' ∧ es = es' := by
  unfold rowsT at h
  injection h with h1 h
  injection h with h2 h3
  injection h1 with _ h1
  injection h2 with _ h2
  injection h2 with h2 _
  refine ⟨map_inj_on (fun a _ b _ e => ?_) h1, intT_inj h2, map_inj_on (fun a ha b hb e => wordsE_inj (hw a ha) (hw' b hb) e) h3⟩
  obtain ⟨q1, q2⟩ := perT_inj e
  exact Prod.ext q1 q2
theorem bookT_inj {ps ps' : List (Int × Option Int)} {age age' : Int} {es es' : List En} (hw : ∀ e ∈ es, ActW e) (hw' : ∀ e ∈ es', ActW e) (h : bookT ps age es = bookT ps' age' es') : ps = ps' ∧ age = age' ∧ es = es' := by
  have h1 := (rows_book (x := bookT ps age es) fun e he => (hw e he).word).mpr rfl
  have h2 := (rows_book (x := bookT ps age es) fun e he => (hw' e he).word).mpr h
  exact rowsT_inj hw hw' (h1.symm.trans h2)
/-! ### reading -/
def GOv {α : Type} (R : α → Prop) (O : α → Addr → Hp → Prop) (v : V) (H : Hp) : Prop := (∃ a t, v = .ref t ∧ R a ∧ O a t H) ∨ ((∀ a, ¬ R a) ∧ v = .non)
theorem GO.of {α : Type} {R : α → Prop} {O : α → Addr → Hp → Prop} {H : Hp} {Q : VK} (h : ∀ v H', Same H H' → GOv R O v H' → Q v H') : GO R O H Q :=
  ⟨fun a t H' hr s ho => h _ H' s (.inl ⟨a, t, rfl, hr, ho⟩), fun hn H' s => h _ H' s (.inr ⟨hn, rfl⟩)⟩
abbrev Bok := List (Int × Option Int) × Int × List En
def GoodB (x : Str) (b : Bok) : Prop := x = bookT b.1 b.2.1 b.2.2 ∧ (∀ q ∈ b.1, okPer q) ∧ fit40 b.2.1 ∧ ∀ e ∈ b.2.2, EntF (wordsE e) e
def PartsO (b : Bok) (o : Addr) (H : Hp) : Prop := ∃ fk t zs, H o = some (.tup [.ref fk, .int b.2.1, .ref t]) ∧ FolkO b.1 fk H ∧ H t = some (.tup (refs zs)) ∧ ens zs = b.2.2 ∧ ∀ z ∈ zs, EntAt H z.1 z.2
theorem GoodB.rows {x : Str} {b : Bok} (h : GoodB x b) : ((Txt.split x ("\n" : Str)).map fun l => Txt.split l (" " : Str)) = rowsT b.1 b.2.1 b.2.2 := (rows_book fun e he => (h.2.2.2 e he).2.2.actW.word).mpr h.1
theorem folkO_tg {p : Addr} {H : Hp} {ps : List (Int × Option Int)} {t : Addr} (h : FolkO ps t H) : TgAt p H (.ref t) (.tup (ps.map perTg)) := by
  obtain ⟨pz, h1, rfl, h3⟩ := h
  refine .tup h1 ?_
  clear h1
  induction pz with
  | nil => exact .nil
  | cons z r ih =>
    refine .cons ?_ (ih fun y hy => h3 y (List.mem_cons_of_mem _ hy))
    have hz := h3 z List.mem_cons_self
    refine .tup hz (.cons (.int _) (.cons ?_ .nil))
    obtain ⟨a, b, d⟩ := z
    cases d with
    | none => exact .non
    | some i => exact .int i
theorem ents_tg {H : Hp} : ∀ zs : List (V × List Str), (∀ z ∈ zs, GOv (EntF z.2) (fun e o H => EntAt H o e) z.1 H) → ∃ ts, (∀ p, TgAll p H (zs.map (·.1)) ts) ∧ (V.non ∈ zs.map (·.1) → Tg.non ∈ ts)
  | [], _ => ⟨[], (fun _ => .nil), (fun h => (nomatch h))⟩
  | z :: r, h => by
    obtain ⟨ts, h1, h2⟩ := ents_tg r fun y hy => h y (List.mem_cons_of_mem _ hy)
    rcases h z List.mem_cons_self with ⟨e, t, ez, _, ho⟩ | ⟨_, ez⟩
    · refine ⟨entT e :: ts, fun p => by rw [List.map_cons, ez]; exact .cons ho.tg (h1 p), fun hm => ?_⟩
      rw [List.map_cons, ez] at hm
      rcases List.mem_cons.mp hm with q | q
      · cases q
      · exact List.mem_cons_of_mem _ (h2 q)
    · exact ⟨.non :: ts, fun p => by rw [List.map_cons, ez]; exact .cons .non (h1 p), fun _ => List.mem_cons_self⟩
theorem notBook_folk {a : Int} {ts : List Tg} : isBookT (.tup [.non, .int a, .tup ts]) = false := rfl
theorem notBook_ents {f : Tg} {a : Int} {ts : List Tg} (h : Tg.non ∈ ts) : isBookT (.tup [f, .int a, .tup ts]) = false := by
  show (isFolkT f && ((Tg.int a).within 0 9999 && (decide (ts.length ≤ 16) && (ts.all (isEntT (lenT f)) && _)))) = false
  have : ts.all (isEntT (lenT f)) = false := by
    rw [List.all_eq_false]
    exact ⟨_, h, by simp [isEntT]⟩
  rw [this]
  simp
theorem all_madeL {β : Type} {zs : List (V × List Str)} {R : List Str → β → Prop} {O : β → Addr → Prop} (h : ∀ z ∈ zs, (∃ b t, z.1 = .ref t ∧ R z.2 b ∧ O b t) ∨ ((∀ b, ¬ R z.2 b) ∧ z.1 = .non)) (hn : V.non ∉ zs.map (·.1)) : ∃ pz : List (Addr × β), zs.map (·.1) = pz.map (fun z => V.ref z.1) ∧ (∀ z ∈ pz, O z.2 z.1) ∧ Paired R (zs.map (·.2)) (pz.map (·.2)) := by
  induction zs with
  | nil => exact ⟨[], rfl, (fun _ h => (nomatch h)), .nil⟩
  | cons z r ih =>
    obtain ⟨pz, h1, h2, h3⟩ := ih (fun x hx => h x (List.mem_cons_of_mem _ hx)) fun hm => hn (List.mem_cons_of_mem _ hm)
    rcases h z List.mem_cons_self with ⟨b, t, e, hr, ho⟩ | ⟨_, e⟩
    · refine ⟨(t, b) :: pz, by rw [List.map_cons, List.map_cons, h1, e], fun y hy => ?_, .cons hr h3⟩
      rcases List.mem_cons.mp hy with rfl | hy
      · exact ho
      · exact h2 y hy
    · exact absurd (show V.non ∈ (z :: r).map (·.1) by rw [List.map_cons, e]; exact List.mem_cons_self) hn
theorem paired_ent {ws : List (List Str)} {es : List En} (h : Paired EntF ws es) : ws = es.map wordsE ∧ ∀ e ∈ es, EntF (wordsE e) e := by
  induction h with
  | nil => exact ⟨rfl, (fun _ h => (nomatch h))⟩
  | cons a _ ih =>
    obtain ⟨rfl, ha⟩ := a
    obtain ⟨rfl, hb⟩ := ih
    refine ⟨rfl, fun q hq => ?_⟩
    rcases List.mem_cons.mp hq with rfl | hq
    · exact ⟨rfl, ha⟩
    · exact hb q hq
section
variable {P : Program} {w : World} {K : PySem.W.Frag} {mg : Str → Option Value} {base : Heap} {T : List (Addr × Str)}
theorem bmK {X : Cx} {K : PySem.W.Frag} {e : Expr} {T : String} {r : V → List V → Hp → VK → Prop} {to : TE} {t : TA} (h : X.K = K) (p : PE X e (tBM X.K T r to t)) : PE X e (tBM K T r to t) := h ▸ p
abbrev sPartsRd : Stmt := topS 44
abbrev nPartsRd : List Str := ["text", "rows", "line", "row"]
abbrev pPartsRd : List Str := ["text"]
theorem scPartsRd : FnScope nPartsRd pPartsRd (defScope sPartsRd) := ⟨rfl, rfl, rfl, by decide +kernel, rfl, by decide +kernel, by decide +kernel⟩
def spPartsRdA : Sp := fun vs H Q _ => ∃ x : Str, vs = [.str x] ∧ x.length ≤ 600 ∧ (∀ b o H', GoodB x b → Same H H' → PartsO b o H' → Q (.ref o) H') ∧ ((∀ b, ¬ GoodB x b) → ∀ v t H', Same H H' → (∀ p, TgAt p H' v t) → isBookT t = false → Q v H')
theorem ok_PartsRdA {f : Addr} {fd : FuncData} {k : Nat} (F : Fun K "parts_read" "parts_read" sPartsRd f fd) (C_folk_read : CallOk P w K mg base k "folk_read" pFolkRd spFolkRdA) (C_is_number_text : CallOk P w K mg base k "is_number_text" pIsNumT spIsNumT) (C_entry_read : CallOk P w K mg base k "entry_read" pEntRd spEntRdA) (m_len : mg "len" = none) (m_int : mg "int" = none) (m_tuple : mg "tuple" = none) : FnOk P w K mg base CX0 (k + 1) f fd pPartsRd spPartsRdA := by
  refine F.ok scPartsRd (fun vs H Q E h => ?_) (fun cdv A outer s H vs Q E hr h => ?_)
  · obtain ⟨x, rfl, _⟩ := h
    rfl
  · obtain ⟨x, rfl, hl, qg, qn⟩ := h
    have nd := scPartsRd.nd
    refine ⟨_, pss_cons (ps_setLc (i := 1) (own := [("line", 2)]) (g := gName 2) (by rfl) nd rfl rfl (sw_true rfl rfl rfl (by decide +kernel)) (pi_list (pe_bm PySem.F.plainAttrs_str PySem.F.slot_str_split PySem.F.type_str_split mt_split (pv 0) (pa_cons pe_str pa_nil))) (blkOk_by (own := [("line", 2)]) (N := nPartsRd) (sc := defScope sPartsRd) (by decide +kernel)) (fun _ _ _ _ _ => (pg_name (i := 2) nd rfl (.inl rfl))) (fun _ _ _ _ _ => pts_nil)
          (fun _ _ _ _ _ => (bmK (K := K) (by rfl) (pe_bm PySem.F.plainAttrs_str PySem.F.slot_str_split PySem.F.type_str_split mt_split (pv 2) (pa_cons pe_str pa_nil)))))
      (pss_cons (ps_if (PW.pt (pw_or (pt_cmpR op_lt (pe_callB call_len_seq (by rfl) m_len (by decide +kernel) (pa_cons (pv 1) pa_nil)) pe_int (nomark _)) (pw_or1 (pt_cmpR op_ne (pe_ix ix_list (pe_ix ix_list (pv 1) pe_int (fun _ _ => rfl)) pe_int (fun _ _ => rfl)) pe_str (nomark _))))) (pss_one (ps_ret pe_non)) pss_nil)
      (pss_cons (ps_if (PW.pt (pw_or (pt_cmpR op_ne (pe_callB call_len_seq (by rfl) m_len (by decide +kernel) (pa_cons (pe_ix ix_list (pv 1) pe_int (fun _ _ => rfl)) pa_nil)) pe_int (nomark _)) (pw_or (pt_cmpR op_ne (pe_ix ix_list (pe_ix ix_list (pv 1) pe_int (fun _ _ => rfl)) pe_int (fun _ _ => rfl)) pe_str (nomark _)) (pw_or1 (pt_not (pt_val (pe_call C_is_number_text.ok hr (by rfl) C_is_number_text.g C_is_number_text.kp C_is_number_text.b .nil pass0 (pa_cons (pe_ix ix_list (pe_ix ix_list (pv 1) pe_int (fun _ _ => rfl)) pe_int (fun _ _ => rfl)) pa_nil)))))))) (pss_one (ps_ret pe_non)) pss_nil)
      (pss_one (ps_ret (pe_tup (pa_cons (pe_call C_folk_read.ok hr (by rfl) C_folk_read.g C_folk_read.kp C_folk_read.b .nil pass0 (pa_cons (pe_slice sl_list (pe_ix ix_list (pv 1) pe_int (fun _ _ => rfl)) (po_some pe_int) po_none) pa_nil)) (pa_cons (pe_callTy call_int_str (by rfl) m_int (by decide +kernel) (pa_cons (pe_ix ix_list (pe_ix ix_list (pv 1) pe_int (fun _ _ => rfl)) pe_int (fun _ _ => rfl)) pa_nil)) (pa_cons (pe_callTy call_tuple_of (by rfl) m_tuple (by decide +kernel) (pa_cons (pe_lc (own := [("row", 3)]) (g := gName 3) (by rfl) nd (pi_list (pe_slice sl_list (pv 1) (po_some pe_int) po_none)) (blkOk_by (own := [("row", 3)]) (N := nPartsRd) (sc := defScope sPartsRd) (by decide +kernel)) (fun _ _ _ _ _ => (pg_name (i := 3) nd rfl (.inl rfl))) (fun _ _ _ _ _ => pts_nil)
          (fun _ _ _ _ _ => (pe_call C_entry_read.ok hr (by rfl) C_entry_read.g C_entry_read.kp C_entry_read.b .nil pass0 (pa_cons (pv 3) pa_nil)))) pa_nil)) pa_nil)))))))), ?_⟩
    have grows := fun b (h : GoodB x b) => h.rows
    have hL := split_lens x ("\n" : Str) l_nl
    have hLn := split_ne x ("\n" : Str)
    refine ⟨_, rfl, rfl, x, _, rfl, rfl, by decide +kernel, by rw [sizeLine_eq]; omega, fun p0 np0 => ?_⟩
    generalize hLe : Txt.split x ("\n" : Str) = L at hL hLn grows
    have s1 := same_new np0 (.lst (L.map V.str))
    have e1 : (upd H p0 (.lst (L.map V.str))) p0 = some (.lst (L.map V.str)) := upd_same
    generalize (upd H p0 (.lst (L.map V.str))) = H1 at s1 e1
    refine ⟨p0, rfl, ⟨_, SqL.of e1⟩, fun M1 nM1 => ?_⟩
    refine lc_newG (walk_list (xs := L.map V.str)) L (fun l t H => t ≠ M1 ∧ H t = some (.lst ((Txt.split l (" " : Str)).map V.str))) (fun y t H H' xs _ k o => ⟨o.1, k _ _ o.1 o.2⟩) (by rw [List.length_map]) (by omega) nM1 (fun H s => SqL.of (s _ _ e1)) ?_ ?_
    · rintro i y z H3 H4 hy s3 ⟨xs, hD⟩ ⟨rfl, hx1⟩ Q1 q1
      rw [List.getElem?_map, hy] at hx1
      injection hx1 with hx1
      subst hx1
      have my := hL.2 y (List.mem_of_getElem? hy)
      refine ⟨rfl, _, rfl, rfl, y, _, rfl, rfl, by decide +kernel, by rw [sizeLine_eq]; omega, fun t nt => ?_⟩
      exact q1 t _ (same_new nt _) ⟨(ne_of_none hD nt).symm, upd_same⟩
    intro H2 zr s2 eM hz hat
    have s02 := s1.trans s2
    refine ⟨_, rfl, M1, _, rfl, .inl (SqL.of eM), _, _, rfl, rfl, _, rfl, ?_⟩
    rw [List.length_map]
    match zr, hz, hat, eM with
    | [], hz, hat, eM => exact absurd hz.symm hLn
    | [z0], hz, hat, eM =>
      rw [decide_eq_true (show (([z0] : List (Addr × Str)).length : Int) < 2 from (by show (1 : Int) < 2; decide))]
      refine iteT (qn (fun b hb => ?_) .non .non H2 s02 (fun p => .non) rfl)
      have := grows b hb
      rw [← hz] at this
      unfold rowsT at this
      injection this with _ this
      cases this
    | z0 :: z1 :: zt, hz, hat, eM =>
    rw [decide_eq_false (show ¬ (((z0 :: z1 :: zt : List (Addr × Str)).length : Nat) : Int) < 2 by rw [List.length_cons, List.length_cons]; omega)]
    refine iteF ?_
    rw [← hz] at grows hL
    have eM' : H2 M1 = some (.lst (.ref z0.1 :: .ref z1.1 :: zt.map fun z => V.ref z.1)) := eM
    have e0 := (hat z0 List.mem_cons_self).2
    have e1' := (hat z1 (List.mem_cons_of_mem _ List.mem_cons_self)).2
    have l0 := hL.2 z0.2 (by simp)
    have l1 := hL.2 z1.2 (by simp)
    have w0l := split_lens z0.2 (" " : Str) l_spc
    have w1l := split_lens z1.2 (" " : Str) l_spc
    have grow : ∀ b, GoodB x b → Txt.split z0.2 (" " : Str) = ("folk" : Str) :: (b.1.map fun q => perT q.1 q.2) ∧ Txt.split z1.2 (" " : Str) = [("age" : Str), intT b.2.1] ∧ (zt.map fun z => Txt.split z.2 (" " : Str)) = b.2.2.map wordsE := fun b hb => by
      have := grows b hb
      unfold rowsT at this
      injection this with g1 this
      injection this with g2 g3
      rw [List.map_map] at g3
      exact ⟨g1, g2, g3⟩
    obtain ⟨h0, w0, hw0⟩ : ∃ h0 w0, Txt.split z0.2 (" " : Str) = h0 :: w0 := by
      cases hc : Txt.split z0.2 (" " : Str) with
      | nil => exact absurd hc (split_ne _ _)
      | cons a r => exact ⟨a, r, rfl⟩
    rw [hw0] at e0 grow w0l
    refine ⟨_, rfl, M1, _, _, _, rfl, rfl, SqL.of eM', (atI_nat (j := 0) rfl), z0.1, _, _, _, rfl, rfl, SqL.of e0, (atI_nat (j := 0) rfl), rfl, _, rfl, ?_⟩
    by_cases hf : h0 = ("folk" : Str)
    rotate_left
    · rw [show decide (V.str h0 = V.str ("folk" : Str)) = false from decide_eq_false fun z => hf (by injection z)]
      refine iteT (qn (fun b hb => hf ?_) .non .non H2 s02 (fun p => .non) rfl)
      have := (grow b hb).1
      injection this
    subst hf
    rw [decide_eq_true rfl]
    refine iteF ?_
    generalize hw1 : Txt.split z1.2 (" " : Str) = r1 at e1' grow w1l
    refine ⟨_, rfl, M1, _, _, _, rfl, rfl, SqL.of eM', (atI_nat (j := 1) rfl), z1.1, _, rfl, .inl (SqL.of e1'), rfl, _, rfl, ?_⟩
    rw [List.length_map]
    by_cases h2 : r1.length = 2
    rotate_left
    · rw [show decide (V.int (r1.length : Nat) = V.int 2) = false from decide_eq_false fun z => h2 (by injection z with z; omega)]
      refine iteT (qn (fun b hb => h2 ?_) .non .non H2 s02 (fun p => .non) rfl)
      rw [(grow b hb).2.1]
      rfl
    rw [show decide (V.int (r1.length : Nat) = V.int 2) = true from decide_eq_true (by rw [h2]; rfl)]
    refine iteF ?_
    obtain ⟨ha, na, rfl⟩ : ∃ ha na, r1 = [ha, na] := by
      match r1, h2 with
      | [a, b], _ => exact ⟨a, b, rfl⟩
    refine ⟨_, rfl, M1, _, _, _, rfl, rfl, SqL.of eM', (atI_nat (j := 1) rfl), z1.1, _, _, _, rfl, rfl, SqL.of e1', (atI_nat (j := 0) rfl), rfl, _, rfl, ?_⟩
    by_cases hg : ha = ("age" : Str)
    rotate_left
    · rw [show decide (V.str ha = V.str ("age" : Str)) = false from decide_eq_false fun z => hg (by injection z)]
      refine iteT (qn (fun b hb => hg ?_) .non .non H2 s02 (fun p => .non) rfl)
      have := (grow b hb).2.1
      injection this
    subst hg
    rw [decide_eq_true rfl]
    refine iteF ?_
    have nal := w1l.2 na (by simp)
    refine ⟨_, rfl, M1, _, _, _, rfl, rfl, SqL.of eM', (atI_nat (j := 1) rfl), z1.1, _, _, _, rfl, rfl, SqL.of e1', (atI_nat (j := 1) rfl), na, rfl, by omega, fun H3 s3 => ⟨_, rfl, ?_⟩⟩
    have s03 := s02.trans s3
    cases hna : numOk (tl na) with
    | false =>
      refine iteT (qn (fun b hb => ?_) .non .non H3 s03 (fun p => .non) rfl)
      have := (grow b hb).2.1
      injection this with _ this
      injection this with this _
      rw [numOk_iff.mpr ⟨_, this, hb.2.2.1⟩] at hna
      cases hna
    | true =>
    refine iteF ?_
    obtain ⟨age, rfl, fage⟩ := numOk_iff.mp hna
    have eM3 := s3 _ _ eM'
    refine ⟨_, rfl, M1, _, _, _, rfl, rfl, SqL.of eM3, (atI_nat (j := 0) rfl), _, rfl, ?_⟩
    dsimp only [tNoPart]
    refine ⟨z0.1, _, rfl, SqL.of (s3 _ _ e0), fun q4 nq4 => ?_⟩
    rw [show cutV ((("folk" : Str) :: w0).map V.str) (some 1) none = w0.map V.str from cutDrop V.str (("folk" : Str) :: w0) 1]
    have s4 := same_new nq4 (.lst (w0.map V.str))
    have e4 : (upd H3 q4 (.lst (w0.map V.str))) q4 = some (.lst (w0.map V.str)) := upd_same
    generalize (upd H3 q4 (.lst (w0.map V.str))) = H4 at s4 e4
    refine ⟨q4, w0, rfl, e4, by have := w0l.1; rw [List.length_cons] at this; omega, fun y hy => Nat.le_trans (w0l.2 y (by simp [hy])) (by omega), GO.of fun vf H5 s5 hvf => ?_⟩
    have s35 := s4.trans s5
    have eM5 := s35 _ _ eM3
    have s25 := s3.trans s35
    refine ⟨_, rfl, M1, _, _, _, rfl, rfl, SqL.of eM5, (atI_nat (j := 1) rfl), z1.1, _, _, _, rfl, rfl, SqL.of (s25 _ _ e1'), (atI_nat (j := 1) rfl), intT age, age, rfl, reads_any (by omega), by omega, ?_⟩
    refine ⟨_, rfl, _, rfl, ?_⟩
    dsimp only [tNoPart]
    refine ⟨M1, _, rfl, SqL.of eM5, fun q6 nq6 => ?_⟩
    rw [show cutV (.ref z0.1 :: .ref z1.1 :: zt.map fun z => V.ref z.1) (some 2) none = zt.map fun z => V.ref z.1 from cutDrop (fun z : Addr × Str => V.ref z.1) (z0 :: z1 :: zt) 2]
    have s6 := same_new nq6 (.lst (zt.map fun z => V.ref z.1))
    have e6 : (upd H5 q6 (.lst (zt.map fun z => V.ref z.1))) q6 = some (.lst (zt.map fun z => V.ref z.1)) := upd_same
    generalize (upd H5 q6 (.lst (zt.map fun z => V.ref z.1))) = H6 at s6 e6
    have s26 := s25.trans s6
    have hzl : zt.length ≤ 601 := by
      have := hL.1
      rw [List.length_map, List.length_cons, List.length_cons] at this
      omega
    refine ⟨q6, rfl, ⟨_, SqL.of e6⟩, fun M7 nM7 => ?_⟩
    refine lc_newE (walk_list (xs := zt.map fun z => V.ref z.1)) (zt.map fun z => Txt.split z.2 (" " : Str)) (fun H y u => GOv (EntF y) (fun e o H => EntAt H o e) u H) ?_ (by rw [List.length_map, List.length_map]) (by rw [List.length_map]; omega) nM7 (fun H s => SqL.of (s _ _ e6)) ?_ ?_
    · rintro y u H8 H9 xs hD k8 (⟨e, t, eu, he, ho⟩ | h)
      · exact .inl ⟨e, t, eu, he, ho.kp fun c xs' q => k8 _ _ (fun z => by rw [z, hD] at q; cases q) q⟩
      · exact .inr h
    · rintro i y z H8 H9 hy s8 _ ⟨rfl, hx1⟩ Q1 q1
      rw [List.getElem?_map] at hx1 hy
      cases hzi : zt[i]? with
      | none => rw [hzi] at hx1; cases hx1
      | some zz =>
      rw [hzi] at hx1 hy
      injection hx1 with hx1
      injection hy with hy
      subst hx1
      subst hy
      have mz := List.mem_of_getElem? hzi
      have ez := (hat zz (List.mem_cons_of_mem _ (List.mem_cons_of_mem _ mz))).2
      have lz := hL.2 zz.2 (by simp only [List.map_cons, List.mem_cons]; exact .inr (.inr (List.mem_map_of_mem (f := (·.2)) mz)))
      have wl := split_lens zz.2 (" " : Str) l_spc
      refine ⟨rfl, _, rfl, zz.1, _, rfl, s8 _ _ (s26 _ _ ez), fun y hy => Nat.le_trans (wl.2 y hy) (by omega), GO.of fun ve H10 s10 hve => ?_⟩
      exact q1 ve H10 s10 hve
    intro H7 zs s7 eM7 hzs hents
    refine ⟨M7, _, rfl, .inl ⟨SqL.of eM7, fun t8 nt8 => ?_⟩⟩
    have s8 := same_new nt8 (.tup (zs.map (·.1)))
    have e8 : (upd H7 t8 (.tup (zs.map (·.1)))) t8 = some (.tup (zs.map (·.1))) := upd_same
    generalize (upd H7 t8 (.tup (zs.map (·.1)))) = H8 at s8 e8
    refine ⟨(by show 3 ≤ sizeLine; decide), fun o no => ?_⟩
    have s9 := same_new no (.tup [vf, .int age, .ref t8])
    have e9 : (upd H8 o (.tup [vf, .int age, .ref t8])) o = some (.tup [vf, .int age, .ref t8]) := upd_same
    generalize (upd H8 o (.tup [vf, .int age, .ref t8])) = H9 at s9 e9
    have s59 := s6.trans (s7.trans (s8.trans s9))
    have s09 : Same H H9 := s02.trans (s25.trans s59)
    have s79 := s8.trans s9
    have hents9 : ∀ z ∈ zs, GOv (EntF z.2) (fun e o H => EntAt H o e) z.1 H9 := fun z hm => by
      rcases hents z hm with ⟨e, t, eu, he, ho⟩ | h
      · exact .inl ⟨e, t, eu, he, ho.kp (Same.tup s79)⟩
      · exact .inr h
    obtain ⟨ts, hts, htn⟩ := ents_tg zs hents9
    have e89 := s9 _ _ e8
    rcases hvf with ⟨ps, fk, rfl, hps, hfo⟩ | ⟨hno, rfl⟩
    rotate_left
    · refine qn (fun b hb => hno b.1 ⟨?_, hb.2.1⟩) (.ref o) (.tup [.non, .int age, .tup ts]) H9 s09 (fun p => .tup e9 (.cons .non (.cons (.int _) (.cons (.tup e89 (hts p)) .nil)))) notBook_folk
      have := (grow b hb).1
      injection this
    have hfo9 := hfo.kp (Same.tup s59)
    by_cases hnon : V.non ∈ zs.map (·.1)
    · refine qn (fun b hb => ?_) (.ref o) (.tup [.tup (ps.map perTg), .int age, .tup ts]) H9 s09 (fun p => .tup e9 (.cons (folkO_tg hfo9) (.cons (.int _) (.cons (.tup e89 (hts p)) .nil)))) (notBook_ents (htn hnon))
      obtain ⟨z, hm, hz0⟩ := List.mem_map.mp hnon
      have hz2 : z.2 ∈ b.2.2.map wordsE := by
        rw [← (grow b hb).2.2, ← hzs]
        exact List.mem_map_of_mem (f := (·.2)) hm
      obtain ⟨e, he, ee⟩ := List.mem_map.mp hz2
      rcases hents9 z hm with ⟨e', t, eu, _, _⟩ | ⟨hne, _⟩
      · rw [hz0] at eu
        cases eu
      · exact hne e (by rw [← ee]; exact hb.2.2.2 e he)
    · obtain ⟨pz, g1, g2, g3⟩ := all_madeL (R := EntF) (O := fun e t => EntAt H9 t e) hents9 hnon
      obtain ⟨g4, g5⟩ := paired_ent g3
      rw [hzs] at g4
      refine qg (ps, age, ens pz) o H9 ⟨?_, hps.2, fage, g5⟩ s09 ⟨fk, t8, pz, e9, hfo9, by rw [e89, g1], rfl, g2⟩
      refine (rows_book fun e he => (g5 e he).2.2.actW.word).mp ?_
      rw [hLe, ← hz, List.map_cons, List.map_cons, List.map_cons, List.map_cons, hw0, hw1, List.map_map]
      show _ :: _ :: (zt.map fun z => Txt.split z.2 (" " : Str)) = _
      rw [g4, hps.1]
      rfl
end
end Deed

namespace Deed
open PySem PySem.Spec PyProof.Rows L2 LamX TL TX
def upE (es : List En) : Prop := es.Pairwise fun u v => u.num < v.num
def WB (v : V) (b : Bok) : Prop := v = .str (bookT b.1 b.2.1 b.2.2) ∧ BkS b.1 b.2.1 b.2.2 ∧ upE b.2.2
theorem PerK.s {q : Int × Option Int} (h : PerK q) : small q.1 ∧ ∀ i, q.2 = some i → small i := ⟨small_of (by have := h.1; omega) (by have := h.2.1; omega), fun i e => by
  have h1 := h.2.2 i e
  have h2 := h.1
  exact small_of (by omega) (by omega)⟩
theorem small.fit {i : Int} (h : small i) : fit40 i := fit40_small h.big
theorem BkS.fits {ps : List (Int × Option Int)} {age : Int} {es : List En} (h : BkS ps age es) : (∀ q ∈ ps, okPer q) ∧ fit40 age ∧ ∀ e ∈ es, EntF (wordsE e) e := by
  refine ⟨fun q hq => ⟨(h.per q hq).s.1.fit, fun i hi => ((h.per q hq).s.2 i hi).fit⟩, (small_of (by have := h.age0; omega) (by have := h.age1; omega)).fit, fun e he => ?_⟩
  obtain ⟨⟨h1, h2, h3, h4, h5⟩, _⟩ := entS_of h.ok h.n6 e he
  refine ⟨rfl, ⟨h1.fit, h2.fit, h3.fit, h4.fit⟩, ?_⟩
  unfold TailOk at h5
  unfold TailF
  cases hk : e.kd with
  | deed g t rs ws =>
    rw [hk] at h5
    exact ⟨h5.1.fit, h5.2.1.fit, fun i hi => (h5.2.2.1.2 i hi).fit, fun i hi => (h5.2.2.2.2 i hi).fit⟩
  | act x o =>
    rw [hk] at h5
    exact ⟨h5.1.fit, h5.2⟩
theorem WB.good {x : Str} {b : Bok} (h : WB (.str x) b) : GoodB x b := by
  obtain ⟨f1, f2, f3⟩ := h.2.1.fits
  exact ⟨by have := h.1; injection this, f1, f2, f3⟩
theorem BkS.act {ps : List (Int × Option Int)} {age : Int} {es : List En} (h : BkS ps age es) : ∀ e ∈ es, ActW e := fun e he => (h.fits.2.2 e he).2.2.actW
theorem PartsO.book {b : Bok} {o : Addr} {H : Hp} (h : PartsO b o H) (hb : BkS b.1 b.2.1 b.2.2) : ∃ fk t pz zs, BookAt H o fk t b.1.length b.2.1 zs ∧ FolkZ H fk pz ∧ pz.map (·.2) = b.1 ∧ ens zs = b.2.2 := by
  obtain ⟨fk, t, zs, h1, ⟨pz, g1, g2, g3⟩, h3, h4, h5⟩ := h
  have hlz : pz.length = b.1.length := by rw [← g2, List.length_map]
  have hzz : zs.length = b.2.2.length := by rw [← h4, List.length_map]
  refine ⟨fk, t, pz, zs, ⟨h1, ⟨_, g1, by rw [List.length_map]; exact hlz, fun x hx => ?_⟩, hb.n1, hb.n6, hb.age0, hb.age1, h3, h5, by rw [h4]; exact hb.ok, by have := hb.len; omega⟩, ⟨g1, by have := hb.n6; omega, fun z hz => ?_⟩, g2, h4⟩
  · obtain ⟨z, hz, rfl⟩ := List.mem_map.mp hx
    have hk := hb.per z.2 (by rw [← g2]; exact List.mem_map_of_mem (f := (·.2)) hz)
    refine ⟨z.1, z.2.1, dV z.2.2, rfl, g3 z hz, hk.1, hk.2.1, ?_⟩
    cases hd : z.2.2 with
    | none => exact .inl rfl
    | some i => exact .inr ⟨i, rfl, (hk.2.2 i hd).1, (hk.2.2 i hd).2⟩
  · have hk := (hb.per z.2 (by rw [← g2]; exact List.mem_map_of_mem (f := (·.2)) hz)).s
    exact ⟨g3 z hz, hk.1, hk.2⟩
theorem PartsO.tg {p : Addr} {b : Bok} {o : Addr} {H : Hp} (h : PartsO b o H) : TgAt p H (.ref o) (treeB b.1 b.2.1 b.2.2) := by
  obtain ⟨fk, t, zs, h1, h2, h3, h4, h5⟩ := h
  refine .tup h1 (.cons (folkO_tg h2) (.cons (.int _) (.cons (.tup h3 ?_) .nil)))
  rw [← h4]
  exact tgAll_ents zs h5
theorem PartsO.kp {b : Bok} {o : Addr} {H H' : Hp} (h : PartsO b o H) (k : KpT H H') : PartsO b o H' := by
  obtain ⟨fk, t, zs, h1, h2, h3, h4, h5⟩ := h
  exact ⟨fk, t, zs, k _ _ h1, h2.kp k, k _ _ h3, h4, fun z hz => (h5 z hz).kp k⟩
/-- a text, or a thing of another kind -/
def TextV (H : Hp) (v : V) : Prop := (∃ x : Str, v = .str x ∧ x.length ≤ 600) ∨ ∃ p t, TgAt p H v t ∧ t.isS = false
section
variable {P : Program} {w : World} {K : PySem.W.Frag} {mg : Str → Option Value} {base : Heap} {T : List (Addr × Str)}
abbrev sBookRd : Stmt := topS 45
abbrev nBookRd : List Str := ["text", "book"]
abbrev pBookRd : List Str := ["text"]
theorem scBookRd : FnScope nBookRd pBookRd (defScope sBookRd) := ⟨rfl, rfl, rfl, by decide +kernel, rfl, by decide +kernel, by decide +kernel⟩
def spBookRdA (CT : Addr) (T : List (Addr × Str)) : Sp := fun vs H Q E => ∃ v : V, vs = [v] ∧ TextV H v ∧ Tabs T H ∧ (∀ b o H', WB v b → ExtN H H' → Tabs T H' → PartsO b o H' → Q (.ref o) H') ∧ ((∀ b, ¬ WB v b) → ∀ H', ExtN H H' → Tabs T H' → E (.ref CT) none H')
theorem ok_BookRdA {f CT : Addr} {fd : FuncData} {k : Nat} (F : Fun K "book_read" "book_read" sBookRd f fd) (N : ExcCl K mg "NoText" CT) (C_parts_read : CallOk P w K mg base k "parts_read" pPartsRd spPartsRdA) (C_is_book : CallOk P w K mg base k "is_book" pIsBk (spB1 isBookT)) (C_book_text : CallOk P w K mg base k "book_text" pBookTx (spBookTx T)) (m_isinstance : mg "isinstance" = none) (m_str : mg "str" = none) : FnOk P w K mg base (L2.CX P w) (k + 1) f fd pBookRd (spBookRdA CT T) := by
  refine F.okX scBookRd (fun vs H Q E h => ?_) (fun cdv A outer s H vs Q E hr h => ?_)
  · obtain ⟨v, rfl, _⟩ := h
    rfl
  · obtain ⟨v, rfl, hv, hT, qg, qb⟩ := h
    have nd := scBookRd.nd
    refine ⟨_, pss_cons (ps_set (i := 1) nd rfl (.inl rfl) (pe_ifExp (pt_val (pe_callB call_isi (by rfl) m_isinstance (by decide +kernel) (pa_cons (pv 0) (pa_cons (pe_bltn (v := .ty "str") (by rfl) m_str (by decide +kernel) rfl) pa_nil)))) (pe_call C_parts_read.ok hr (by rfl) C_parts_read.g C_parts_read.kp C_parts_read.b .nil pass0 (pa_cons (pv 0) pa_nil)) pe_non))
      (pss_cons (ps_if (PW.pt (pw_or (pt_not (pt_val (pe_call C_is_book.ok hr (by rfl) C_is_book.g C_is_book.kp C_is_book.b .nil pass0 (pa_cons (pv 1) pa_nil)))) (pw_or1 (pt_cmpR op_ne (pe_call C_book_text.ok hr (by rfl) C_book_text.g C_book_text.kp C_book_text.b .nil pass0 (pa_cons (pv 1) pa_nil)) (pv 0) (nomark _))))) (pss_one (ps_raise rfl (takes_of rfl rfl rfl rfl) (pmk_own PySem.F.excBase_ValueError N.xP N.gP N.kP (raises_own N.bP N.tP) rfl))) pss_nil)
      (pss_one (ps_ret (pv 1)))), ?_⟩
    rcases hv with ⟨x, rfl, hl⟩ | ⟨p, t, htg, hns⟩
    rotate_left
    · refine ⟨_, rfl, _, _, .type t.ty, .type "str", t.isS, rfl, .ty "str", htg.ty, kit_ty t.kS, _, rfl, ?_⟩
      rw [hns]
      refine iteF ?_
      refine ⟨_, rfl, 0, _, .non, rfl, .non, fun H2 s2 => ⟨_, rfl, ?_⟩⟩
      refine iteT ?_
      refine qb (fun b hb => ?_) H2 (.of s2) (hT.ext s2)
      rw [hb.1] at htg
      cases htg
      cases hns
    refine ⟨_, rfl, _, _, .type "str", .type "str", true, rfl, .ty "str", .base (.str _), kit_ty (by decide +kernel), _, rfl, ?_⟩
    refine iteT ?_
    refine ⟨_, rfl, x, rfl, hl, fun b o H1 hb s1 ho => ?_, fun hno v1 t1 H1 s1 ht1 hf1 => ?_⟩
    rotate_left
    · refine ⟨_, rfl, 0, _, t1, rfl, ht1 0, fun H2 s2 => ⟨_, rfl, ?_⟩⟩
      rw [hf1]
      refine iteT ?_
      exact qb (fun b hw => hno b hw.good) H2 (.of (s1.trans s2)) (hT.ext (s1.trans s2))
    refine ⟨_, rfl, o, _, _, rfl, ho.tg, fun H2 s2 => ⟨_, rfl, ?_⟩⟩
    have s02 := s1.trans s2
    have T2 := hT.ext s02
    have hact : ∀ e ∈ b.2.2, ActW e := fun e he => (hb.2.2.2 e he).2.2.actW
    have same : ∀ c, WB (.str x) c → c = b := fun c hc => by
      have e1 := hc.good.1
      rw [hb.1] at e1
      obtain ⟨q1, q2, q3⟩ := bookT_inj hact hc.2.1.act e1
      exact (Prod.ext q1 (Prod.ext q2 q3)).symm
    cases hib : isBookT (treeB b.1 b.2.1 b.2.2) with
    | false =>
      refine iteT ?_
      refine qb (fun c hc => ?_) H2 (.of s02) T2
      have e := same c hc
      subst e
      rw [(isBook_iff hact).mpr hc.2.1] at hib
      cases hib
    | true =>
    refine iteF ?_
    have hbk := (isBook_iff hact).mp hib
    have ho2 := ho.kp (Same.tup s2)
    obtain ⟨fk, t, pz, zs, hB, hF, hpz, hes⟩ := ho2.book hbk
    refine ⟨_, rfl, o, fk, t, _, _, zs, pz, rfl, hB, hF, T2, fun zs' H3 e3 T3 pm so => ?_⟩
    have e03 : ExtN H H3 := (ExtN.of s02).trans e3
    have so' : upE (ens zs') := (List.pairwise_map (f := fun z : Addr × En => z.2) (R := fun u v : En => u.num < v.num)).mpr so
    have hact' : ∀ e ∈ ens zs', ActW e := fun e he => hact e (by
      rw [← hes]
      exact (pm.map (·.2)).mem_iff.mp he)
    refine ⟨_, rfl, rfl, _, rfl, ?_⟩
    rw [hpz]
    by_cases he : bookT b.1 b.2.1 (ens zs') = x
    · rw [show decide (V.str (bookT b.1 b.2.1 (ens zs')) = V.str x) = true from decide_eq_true (by rw [he])]
      refine iteF ?_
      refine ⟨_, rfl, qg b o H3 ⟨by rw [hb.1], hbk, ?_⟩ e03 T3 (ho2.kp (ExtN.tup e3))⟩
      rw [hb.1] at he
      obtain ⟨_, _, q3⟩ := bookT_inj hact' hact he
      rw [← q3]
      exact so'
    · rw [show decide (V.str (bookT b.1 b.2.1 (ens zs')) = V.str x) = false from decide_eq_false fun z => he (by injection z)]
      refine iteT ?_
      refine qb (fun c hc => he ?_) H3 e03 T3
      have e := same c hc
      subst e
      have hso := hc.2.2
      rw [← hes] at hso
      have hso' : zs.Pairwise (fun u v => u.2.num < v.2.num) := (List.pairwise_map (f := fun z : Addr × En => z.2) (R := fun u v : En => u.num < v.num)).mp hso
      rw [up_pair so hso' pm, hes]
      exact hb.1.symm
end
end Deed

namespace Deed
open PySem PySem.Spec PyProof.Rows L2 LamX TL TX
/-- signs of ASCII -/
def asc (x : Str) : Prop := ∀ c ∈ tl x, c < 128
theorem asc_ok {x : Str} (h : asc x) : PyData.strOk x = true := by
  unfold PyData.strOk
  rw [← Array.all_toList, List.all_eq_true]
  intro c hc
  have := h c hc
  simp
  omega
theorem asc_int (i : Int) : asc (intT i) := fun c hc => by
  rw [tl_int] at hc
  rcases intL_sgn i c hc with h | h <;> omega
theorem joinL_mem {s c : Nat} : ∀ {parts : List (List Nat)} {p : List Nat}, p ∈ parts → c ∈ p → c ∈ joinL [s] parts
  | [p], q, h, hc => by rw [List.mem_singleton.mp h] at hc; exact hc
  | p :: q :: r, z, h, hc => by
    show c ∈ p ++ ([s] ++ joinL [s] (q :: r))
    rw [List.mem_append, List.mem_append]
    rcases List.mem_cons.mp h with rfl | h
    · exact .inl hc
    · exact .inr (.inr (joinL_mem h hc))
theorem asc_split {x y : Str} {s : Nat} (ey : tl y = [s]) (h : asc x) : ∀ w ∈ Txt.split x y, asc w := fun w hw c hc => by
  have e := congrArg tl (join_back x y)
  rw [join_eq, tl_join, ey] at e
  exact h c (by rw [← e]; exact joinL_mem (List.mem_map_of_mem hw) hc)
theorem tl_cutTo (x : Str) (v : Nat) : tl (cutS x none (some (v : Int))) = (tl x).take v := by
  show ((x.cps.toList.drop (HT.sIx x.length 0 none)).take (HT.sIx x.length x.length (some (v : Int)) - HT.sIx x.length 0 none)) = x.cps.toList.take v
  rw [HT.sIx_none, HT.sIx_nat, List.drop_zero, Nat.sub_zero]
  have hl : x.length = x.cps.toList.length := len_tl x
  rw [hl]
  rcases Nat.le_total v x.cps.toList.length with h | h
  · rw [Nat.min_eq_left h]
  · rw [Nat.min_eq_right h, List.take_of_length_le (Nat.le_refl _), List.take_of_length_le h]
theorem tl_cutFrom (x : Str) (v : Nat) : tl (cutS x (some (v : Int)) none) = (tl x).drop v := by
  show ((x.cps.toList.drop (HT.sIx x.length 0 (some (v : Int)))).take (HT.sIx x.length x.length none - HT.sIx x.length 0 (some (v : Int)))) = x.cps.toList.drop v
  rw [HT.sIx_none, HT.sIx_nat]
  have hl : x.length = x.cps.toList.length := len_tl x
  rw [hl]
  rcases Nat.le_total v x.cps.toList.length with h | h
  · rw [Nat.min_eq_left h, List.take_of_length_le]
    rw [List.length_drop]
    omega
  · rw [Nat.min_eq_right h, List.drop_eq_nil_of_le (Nat.le_refl _), List.drop_eq_nil_of_le h, List.take_nil]
theorem take1_iff (l : List Nat) (c : Nat) : l.take 1 = [c] ↔ l[0]? = some c := by
  cases l with
  | nil => simp
  | cons a r => simp
theorem decV (x y : Str) : decide (V.str x = V.str y) = decide (x = y) := by
  rw [Bool.eq_iff_iff, decide_eq_true_eq, decide_eq_true_eq]
  exact ⟨fun h => by injection h, fun h => by rw [h]⟩
theorem shaped_nil : SeqAt.shaped (.list []) = true := by decide
theorem eqv_nil (ds : List PyData) : PyData.eqv (.list ds) (.list []) = ds.isEmpty := by
  cases ds <;> simp [PyData.eqv, PyData.eqvAll]
theorem digit_in (c : Nat) : (!decide (c ∈ ("0123456789" : Str).cps.toList)) = !(decide (48 ≤ c) && decide (c ≤ 57)) := by
  congr 1
  rw [show ("0123456789" : Str).cps.toList = [48, 49, 50, 51, 52, 53, 54, 55, 56, 57] by decide +kernel]
  rw [Bool.eq_iff_iff, Bool.and_eq_true, decide_eq_true_eq, decide_eq_true_eq, decide_eq_true_eq]
  simp only [List.mem_cons, List.not_mem_nil, or_false]
  omega
section
variable {P : Program} {w : World} {K : PySem.W.Frag} {mg : Str → Option Value} {base : Heap} {T : List (Addr × Str)}
/-! ### the law's own reading -/
abbrev sLNumber : Stmt := topS 66
abbrev nLNumber : List Str := ["_law_word", "_law_figures", "_law_sign"]
abbrev pLNumber : List Str := ["_law_word"]
theorem scLNumber : FnScope nLNumber pLNumber (defScope sLNumber) := ⟨rfl, rfl, rfl, by decide +kernel, rfl, by decide +kernel, by decide +kernel⟩
def NumO (x : Str) (H : Hp) (Q : VK) : Prop := (∀ i H', x = intT i → Same H H' → Q (.int i) H') ∧ ((∀ i : Int, x ≠ intT i) → ∀ H', Same H H' → Q .non H')
def spLNumber : Sp := fun vs H Q _ => ∃ x : Str, vs = [.str x] ∧ x.length ≤ 600 ∧ asc x ∧ NumO x H Q
theorem ok_LNumber {f : Addr} {fd : FuncData} {k : Nat} (F : Fun K "_law_number" "_law_number" sLNumber f fd) (m_int : mg "int" = none) : FnOk P w K mg base CX0 (k + 1) f fd pLNumber spLNumber := by
  refine F.ok scLNumber (fun vs H Q E h => ?_) (fun cdv A outer s H vs Q E hr h => ?_)
  · obtain ⟨x, rfl, _⟩ := h
    rfl
  · obtain ⟨x, rfl, hl, ha, qi, qn⟩ := h
    have nd := scLNumber.nd
    refine ⟨_, pss_cons (ps_set (i := 1) nd rfl (.inl rfl) (pv 0))
      (C8.pss_cut (ps_if (pt_cmpR op_eq (pe_slice sl_str (pv 0) po_none (po_some pe_int)) pe_str (nomark _)) (pss_one (ps_set (i := 1) nd rfl (.inl rfl) (pe_slice sl_str (pv 0) (po_some pe_int) po_none))) pss_nil)
      (pss_cons (ps_if (PW.pt (pw_or (pt_cmpR op_eq (pv 1) pe_str (nomark _)) (pw_or1 (pt_cmpR (op_neD hr.units) (pe_lc (own := [("_law_sign", 2)]) (g := gName 2) (by rfl) nd (pi_str (pv 1)) (blkOk_by (own := [("_law_sign", 2)]) (N := nLNumber) (sc := defScope sLNumber) (by decide +kernel)) (fun _ _ _ _ _ => (pg_name (i := 2) nd rfl (.inl rfl))) (fun _ _ _ _ _ => (pts_one (pt_cmpR op_notIn_sign (pv 2) pe_str (by rfl))))
          (fun _ _ _ _ _ => (pv 2))) (pe_lst pa_nil) (nomark _))))) (pss_one (ps_ret pe_non)) pss_nil)
      (pss_cons (ps_if (PW.pt (pw_and (pt_cmpR op_eq (pe_ix ix_str (pv 1) pe_int (fun _ _ => rfl)) pe_str (nomark _)) (pw_and1 (pt_cmpR op_ne (pv 0) pe_str (nomark _))))) (pss_one (ps_ret pe_non)) pss_nil)
      (pss_one (ps_ret (pe_callTy call_int_str (by rfl) m_int (by decide +kernel) (pa_cons (pv 0) pa_nil))))))), ?_⟩
    have hsz : x.length ≤ sizeLine := by rw [sizeLine_eq]; omega
    refine ⟨_, rfl, ?_⟩
    refine ⟨fun σ' H' => ∃ y : Str, σ' = [some (.str x), some (.str y), none] ∧ H = H' ∧ tl y = figL (tl x) ∧ y.length ≤ 600, ?_, ?_⟩
    · refine ⟨_, rfl, _, rfl, ?_⟩
      dsimp only [tNoPart]
      refine ⟨x, rfl, hsz, rfl, _, rfl, ?_⟩
      rw [show ("-" : Str) = ⟨#[45]⟩ by decide +kernel, strE _ [45], show tl (cutS x none (some 1)) = (tl x).take 1 from tl_cutTo x 1, show decide ((tl x).take 1 = [45]) = decide ((tl x)[0]? = some 45) from decide_eq_decide.mpr (take1_iff _ _)]
      refine ite2 (fun c => ?_) (fun c => ?_)
      · refine ⟨_, rfl, _, rfl, ?_⟩
        dsimp only [tNoPart]
        refine ⟨x, rfl, hsz, _, rfl, rfl, ?_, Nat.le_trans (cutS_length _ _ _) hl⟩
        rw [tl_cut1]
        unfold figL
        rw [if_pos (of_decide_eq_true c)]
      · refine ⟨_, rfl, rfl, ?_, hl⟩
        unfold figL
        rw [if_neg (of_decide_eq_false (Bool.eq_false_iff.mpr c))]
    rintro _ _ ⟨y, rfl, rfl, hy, hyl⟩
    have ey : (tl y).length ≤ 600 := by rw [← len_tl]; exact hyl
    have hasc : ∀ c ∈ tl y, c < 128 := fun c hc => ha c (by
      rw [hy] at hc
      unfold figL at hc
      split at hc
      · exact List.mem_of_mem_drop hc
      · exact hc)
    have bad : numA (tl x) = false → ∀ i : Int, x ≠ intT i := fun hn i e => by
      rw [num_iff.mpr ⟨i, e⟩] at hn
      cases hn
    have hnum : numA (tl x) = ((decide (tl y ≠ []) && digsOk (tl y)) && (decide ((tl y)[0]? ≠ some 48) || decide (tl x = [48]))) := by
      unfold numA
      rw [hy]
    refine ⟨_, rfl, rfl, _, rfl, ?_⟩
    rw [show decide (V.str y = V.str ("" : Str)) = decide (tl y = []) from by rw [show ("" : Str) = ⟨([] : List Nat).toArray⟩ by decide +kernel, strE y []]]
    by_cases h0 : tl y = []
    · rw [decide_eq_true h0]
      refine iteT (qn (bad ?_) H (same_refl _))
      rw [hnum, h0]
      rfl
    rw [decide_eq_false h0]
    refine iteF ?_
    refine ⟨_, rfl, y, rfl, fun M nM => ?_⟩
    refine lc_sameV (walk_str (z := y)) (tl y) (fun c => !(decide (48 ≤ c) && decide (c ≤ 57))) (fun c => .str ⟨#[c]⟩) (by rw [Array.length_toList]) (by omega) nM (fun _ _ => True.intro) ?_ ?_
    · rintro i c v H3 H4 hc s3 ⟨rfl, c', hc', rfl⟩ Q1 Q0 q1 q0
      rw [Array.getElem?_toList] at hc
      rw [hc] at hc'
      injection hc' with hc'
      subst hc'
      refine ⟨rfl, ?_⟩
      refine ⟨_, rfl, c, _, rfl, rfl, _, rfl, ?_⟩
      rw [digit_in]
      cases hp : !(decide (48 ≤ c) && decide (c ≤ 57)) with
      | true => exact iteT ⟨_, rfl, q1 hp _ (same_refl _)⟩
      | false => exact iteF (q0 hp _ (same_refl _))
    intro H2 s2 eM
    have eM' : H2 M = some (.lst ((((tl y).filter fun c => !(decide (48 ≤ c) && decide (c ≤ 57))).map fun c => (⟨#[c]⟩ : Str)).map V.str)) := by
      rw [eM, List.map_map]
      rfl
    refine ⟨Nat.zero_le _, fun l4 nl4 => ?_⟩
    have s4 := same_new nl4 (.lst [])
    have e4 : (upd H2 l4 (.lst [])) l4 = some (.lst []) := upd_same
    generalize (upd H2 l4 (.lst [])) = H4 at s4 e4
    have s24 := s2.trans s4
    refine ⟨_, _, .lst (SqL.of (s4 _ _ eM')) (dp_strs _), .lst (SqL.of e4) .nil, shaped_strs _ (fun z hz => asc_ok ?_), shaped_nil, _, rfl, ?_⟩
    · obtain ⟨c, hc, rfl⟩ := List.mem_map.mp hz
      intro d hd
      rw [List.mem_singleton.mp hd]
      exact hasc c (List.mem_filter.mp hc).1
    rw [eqv_nil]
    have hdig : (((((tl y).filter fun c => !(decide (48 ≤ c) && decide (c ≤ 57))).map fun c => (⟨#[c]⟩ : Str)).map PyData.str).isEmpty) = digsOk (tl y) := by
      rw [List.isEmpty_map, List.isEmpty_map]
      unfold digsOk
      induction tl y with
      | nil => rfl
      | cons c r ih =>
        rw [List.filter_cons, List.all_cons, ← ih]
        cases decide (48 ≤ c) && decide (c ≤ 57) <;> rfl
    rw [hdig]
    cases hd : digsOk (tl y) with
    | false =>
      refine iteT (qn (bad ?_) H4 s24)
      rw [hnum, hd, Bool.and_false]
      rfl
    | true =>
    refine iteF ?_
    obtain ⟨c0, hc0⟩ : ∃ c0, (tl y)[0]? = some c0 := ⟨_, List.getElem?_eq_getElem (List.length_pos_iff.mpr h0)⟩
    refine ⟨_, rfl, y, 0, c0, rfl, rfl, by rw [sizeLine_eq]; omega, (atI_nat (j := 0) hc0), rfl, _, rfl, ?_⟩
    rw [show ("0" : Str) = ⟨#[48]⟩ by decide +kernel]
    have e0 : decide (V.str ⟨#[c0]⟩ = V.str ⟨#[48]⟩) = decide (c0 = 48) := by
      rw [strE ⟨#[c0]⟩ [48], Bool.eq_iff_iff, decide_eq_true_eq, decide_eq_true_eq]
      show [c0] = [48] ↔ _
      simp
    rw [e0]
    have fin : numA (tl x) = true → ∃ i : Int, x = intT i := fun h => num_iff.mp h
    have last : numA (tl x) = true → ∃ a n, [V.str x] = [V.str a] ∧ PySem.intText? a = some n ∧ a.length ≤ 640 ∧ Q (.int n) H4 := fun h => by
      obtain ⟨i, rfl⟩ := fin h
      exact ⟨_, i, rfl, reads_any (by omega), by omega, qi i H4 rfl s24⟩
    by_cases g : c0 = 48
    · rw [decide_eq_true g]
      refine iteT ?_
      refine ⟨_, rfl, rfl, _, rfl, ?_⟩
      rw [strE x [48]]
      by_cases g2 : tl x = [48]
      · rw [decide_eq_true g2]
        refine iteF ?_
        exact ⟨_, rfl, last (by rw [hnum, hd, decide_eq_true h0, decide_eq_true g2]; simp)⟩
      · rw [decide_eq_false g2]
        refine iteT (qn (bad ?_) H4 s24)
        rw [hnum, hd, decide_eq_true h0, decide_eq_false g2, hc0, g]
        simp
    · rw [decide_eq_false g]
      refine iteF ?_
      refine ⟨_, rfl, last ?_⟩
      rw [hnum, hd, decide_eq_true h0, hc0]
      simp [g]
end
end Deed

namespace Deed
open PySem PySem.Spec PyProof.Rows L2 LamX TL TX
theorem sqT_sameH {K : PySem.W.Frag} {H H' : Hp} {a : Addr} {xs : List V} (s : Same H H') (h : SqT K H a xs) : SqT K H' a xs := by
  rcases h with (z | ⟨o, z⟩) | z
  · exact .inl (.inl (s _ _ z))
  · exact .inl (.inr ⟨o, s _ _ z⟩)
  · exact .inr z
mutual
theorem Dp.sameH {K : PySem.W.Frag} {H H' : Hp} (s : Same H H') : ∀ {v : V} {d : PyData}, Dp K H v d → Dp K H' v d
  | _, _, .non => .non
  | _, _, .bl b => .bl b
  | _, _, .int i => .int i
  | _, _, .str x => .str x
  | _, _, .lst e a => .lst (ExtN.sqL (.of s) e) (DpAll.sameH s a)
  | _, _, .tup e a => .tup (sqT_sameH s e) (DpAll.sameH s a)
theorem DpAll.sameH {K : PySem.W.Frag} {H H' : Hp} (s : Same H H') : ∀ {vs : List V} {ds : List PyData}, DpAll K H vs ds → DpAll K H' vs ds
  | _, _, .nil => .nil
  | _, _, .cons h r => .cons (Dp.sameH s h) (DpAll.sameH s r)
end
theorem dpAll_len {K : PySem.W.Frag} {H : Hp} : ∀ {vs : List V} {ds : List PyData}, DpAll K H vs ds → ds.length = vs.length
  | _, _, .nil => rfl
  | _, _, .cons _ h => by rw [List.length_cons, List.length_cons, dpAll_len h]
theorem optD_int {K : PySem.W.Frag} {H : Hp} (i : Int) : OptD K H (.int i) := ⟨.int i, .int i, by simp [PyData.canLay0], by simp [PyData.depth], by simp [PyData.eqv]⟩
theorem k_col : (":" : Str).cps.all (· < 256) = true := by decide +kernel
theorem join2 (u v : Str) : Txt.join (":" : Str) [u, v] = u ++ (":" : Str) ++ v := by
  rw [join_eq]
  rfl
theorem free58_int (i : Int) : 58 ∉ tl (intT i) := by
  rw [tl_int]
  exact intL_free (by decide) (by decide)
theorem per_split (b : Int) (d : Option Int) : Txt.split (perT b d) (":" : Str) = [intT b, restT d] := by
  rw [perT_eq, ← join2]
  refine split_join tl_col k_col (by simp) fun p hp => ?_
  rcases List.mem_cons.mp hp with rfl | hp
  · exact free58_int b
  · rw [List.mem_singleton.mp hp]
    cases d with
    | none => decide +kernel
    | some i => exact free58_int i
theorem per_of_split {x u v : Str} (h : Txt.split x (":" : Str) = [u, v]) : x = u ++ (":" : Str) ++ v := by
  rw [← join2, ← h, join_back]
section
variable {P : Program} {w : World} {K : PySem.W.Frag} {mg : Str → Option Value} {base : Heap} {T : List (Addr × Str)}
abbrev sLList : Stmt := topS 67
abbrev nLList : List Str := ["_law_words_here", "_law_found", "_law_word"]
abbrev pLList : List Str := ["_law_words_here"]
theorem scLList : FnScope nLList pLList (defScope sLList) := ⟨rfl, rfl, rfl, by decide +kernel, rfl, by decide +kernel, by decide +kernel⟩
def spLList : Sp := fun vs H Q _ => ∃ (p : Addr) (ws : List Str), vs = [.ref p] ∧ H p = some (.lst (ws.map V.str)) ∧ ws.length ≤ 900 ∧ (∀ x ∈ ws, x.length ≤ 600 ∧ asc x) ∧ GO (fun ns : List Int => ws = ns.map intT) (fun ns t H' => H' t = some (.tup (ns.map V.int))) H Q
theorem ints_made {zs : List (V × Str)} (h : ∀ z ∈ zs, (∃ i : Int, z.1 = .int i ∧ z.2 = intT i) ∨ ((∀ i : Int, z.2 ≠ intT i) ∧ z.1 = .non)) (hn : V.non ∉ zs.map (·.1)) : ∃ ns : List Int, zs.map (·.1) = ns.map V.int ∧ zs.map (·.2) = ns.map intT := by
  induction zs with
  | nil => exact ⟨[], rfl, rfl⟩
  | cons z r ih =>
    obtain ⟨ns, h1, h2⟩ := ih (fun x hx => h x (List.mem_cons_of_mem _ hx)) fun hm => hn (List.mem_cons_of_mem _ hm)
    rcases h z List.mem_cons_self with ⟨i, e, e2⟩ | ⟨_, e⟩
    · exact ⟨i :: ns, by rw [List.map_cons, List.map_cons, h1, e], by rw [List.map_cons, List.map_cons, h2, e2]⟩
    · exact absurd (show V.non ∈ (z :: r).map (·.1) by rw [List.map_cons, e]; exact List.mem_cons_self) hn
theorem ok_LList {f : Addr} {fd : FuncData} {k : Nat} (F : Fun K "_law_list" "_law_list" sLList f fd) (C__law_number : CallOk P w K mg base k "_law_number" pLNumber spLNumber) (m_tuple : mg "tuple" = none) : FnOk P w K mg base CX0 (k + 1) f fd pLList spLList := by
  refine F.ok scLList (fun vs H Q E h => ?_) (fun cdv A outer s H vs Q E hr h => ?_)
  · obtain ⟨p, ws, rfl, _⟩ := h
    rfl
  · obtain ⟨p, ws, rfl, hp, hl, hs, qg, qn⟩ := h
    have nd := scLList.nd
    have h65 := Nat.lt_of_le_of_lt (Nat.add_le_add_left (show 65 ≤ 16 * k + 200 by omega) _) (show _ + (16 * k + 200) < cLine from by have h := hr.un; rw [Nat.add_assoc] at h; exact h)
    refine ⟨_, pss_cons (ps_setLc (i := 1) (own := [("_law_word", 2)]) (g := gName 2) (by rfl) nd rfl rfl (sw_true rfl rfl rfl (by decide +kernel)) (pi_list (pv 0)) (blkOk_by (own := [("_law_word", 2)]) (N := nLList) (sc := defScope sLList) (by decide +kernel)) (fun _ _ _ _ _ => (pg_name (i := 2) nd rfl (.inl rfl))) (fun _ _ _ _ _ => pts_nil)
          (fun _ _ _ _ _ => (pe_call C__law_number.ok hr (by rfl) C__law_number.g C__law_number.kp C__law_number.b .nil pass0 (pa_cons (pv 2) pa_nil))))
      (pss_cons (ps_if (pt_cmpR (op_inD h65) pe_non (pv 1) (by rfl)) (pss_one (ps_ret pe_non)) pss_nil)
      (pss_one (ps_ret (pe_callTy call_tuple_of (by rfl) m_tuple (by decide +kernel) (pa_cons (pv 1) pa_nil))))), ?_⟩
    refine ⟨_, rfl, _, rfl, ⟨_, SqL.of hp⟩, fun M1 nM1 => ?_⟩
    refine lc_newE (walk_list (xs := ws.map V.str)) ws (fun H y u => (∃ i : Int, u = .int i ∧ y = intT i) ∨ ((∀ i : Int, y ≠ intT i) ∧ u = .non)) (fun y u H3 H4 xs _ _ h => h) (by rw [List.length_map]) (by omega) nM1 (fun H s => SqL.of (s _ _ hp)) ?_ ?_
    · rintro i y x H3 H4 hy s3 _ ⟨rfl, hx1⟩ Q1 q1
      rw [List.getElem?_map, hy] at hx1
      injection hx1 with hx1
      subst hx1
      have my := hs y (List.mem_of_getElem? hy)
      exact ⟨rfl, _, rfl, y, rfl, my.1, my.2, fun i H' e s' => q1 _ H' s' (.inl ⟨i, rfl, e⟩), fun hn H' s' => q1 _ H' s' (.inr ⟨hn, rfl⟩)⟩
    intro H2 zs s2 eM hz hat
    obtain ⟨ds, hdp, hlay, hdep, hany⟩ := opt_list (K := K) (H := H2) (zs.map (·.1)) fun v hv => by
      obtain ⟨z, hm, rfl⟩ := List.mem_map.mp hv
      rcases hat z hm with ⟨i, e, _⟩ | ⟨_, e⟩
      · rw [e]
        exact optD_int i
      · rw [e]
        exact optD_non
    refine ⟨_, rfl, .none, ds, .non, .lst (SqL.of eM) hdp, by decide, shaped_opt hlay hdep, _, rfl, ?_⟩
    rw [hany]
    cases hN : (zs.map (·.1)).any fun v => decide (v = V.non) with
    | true =>
      refine iteT (qn (fun ns hns => ?_) H2 s2)
      obtain ⟨z, hm, hz0⟩ := List.mem_map.mp (any_non.mp hN)
      rcases hat z hm with ⟨i, e, _⟩ | ⟨hno, _⟩
      · rw [hz0] at e
        cases e
      · have hz2 : z.2 ∈ ws := by
          rw [← hz]
          exact List.mem_map_of_mem (f := (·.2)) hm
        rw [hns] at hz2
        obtain ⟨i, _, e⟩ := List.mem_map.mp hz2
        exact hno i e.symm
    | false =>
      refine iteF ?_
      obtain ⟨ns, e1, e2⟩ := ints_made hat (fun hm => by
        rw [any_non.mpr hm] at hN
        cases hN)
      rw [hz] at e2
      refine ⟨_, rfl, M1, _, rfl, .inl ⟨SqL.of eM, fun t3 nt3 => ?_⟩⟩
      exact qg ns t3 _ e2 (s2.trans (same_new nt3 _)) (by show (upd H2 t3 _) t3 = _; rw [upd_same, e1])
abbrev sLPerOf : Stmt := topS 68
abbrev nLPerOf : List Str := ["_law_word", "_law_parts", "_law_born"]
abbrev pLPerOf : List Str := ["_law_word"]
theorem scLPerOf : FnScope nLPerOf pLPerOf (defScope sLPerOf) := ⟨rfl, rfl, rfl, by decide +kernel, rfl, by decide +kernel, by decide +kernel⟩
def spLPerOf : Sp := fun vs H Q _ => ∃ x : Str, vs = [.str x] ∧ x.length ≤ 600 ∧ asc x ∧ GO (fun q : Int × Option Int => x = perT q.1 q.2) (fun q t H' => H' t = some (.tup [.int q.1, dV q.2])) H Q
theorem ok_LPerOf {f : Addr} {fd : FuncData} {k : Nat} (F : Fun K "_law_person_of" "_law_person_of" sLPerOf f fd) (C__law_number : CallOk P w K mg base k "_law_number" pLNumber spLNumber) (C__law_list : CallOk P w K mg base k "_law_list" pLList spLList) (m_len : mg "len" = none) : FnOk P w K mg base CX0 (k + 1) f fd pLPerOf spLPerOf := by
  refine F.ok scLPerOf (fun vs H Q E h => ?_) (fun cdv A outer s H vs Q E hr h => ?_)
  · obtain ⟨x, rfl, _⟩ := h
    rfl
  · obtain ⟨x, rfl, hl, ha, qg, qn⟩ := h
    have nd := scLPerOf.nd
    refine ⟨_, pss_cons (ps_set (i := 1) nd rfl (.inl rfl) (pe_bm PySem.F.plainAttrs_str PySem.F.slot_str_split PySem.F.type_str_split mt_split (pv 0) (pa_cons pe_str pa_nil)))
      (pss_cons (ps_if (pt_cmpR op_ne (pe_callB call_len_seq (by rfl) m_len (by decide +kernel) (pa_cons (pv 1) pa_nil)) pe_int (nomark _)) (pss_one (ps_ret pe_non)) pss_nil)
      (pss_cons (ps_if (pt_cmpR op_eq (pe_ix ix_list (pv 1) pe_int (fun _ _ => rfl)) pe_str (nomark _)) (pss_cons (ps_set (i := 2) nd rfl (.inl rfl) (pe_call C__law_number.ok hr (by rfl) C__law_number.g C__law_number.kp C__law_number.b .nil pass0 (pa_cons (pe_ix ix_list (pv 1) pe_int (fun _ _ => rfl)) pa_nil)))
      (pss_one (ps_ret (pe_ifExp (pt_cmpR op_isN (pv 2) pe_non (nomark _)) pe_non (pe_tup (pa_cons (pv 2) (pa_cons pe_non pa_nil))))))) pss_nil)
      (pss_one (ps_ret (pe_call C__law_list.ok hr (by rfl) C__law_list.g C__law_list.kp C__law_list.b .nil pass0 (pa_cons (pv 1) pa_nil)))))), ?_⟩
    have hw := split_lens x (":" : Str) l_col
    have hwa := asc_split tl_col ha
    refine ⟨_, rfl, rfl, x, _, rfl, rfl, by decide +kernel, by rw [sizeLine_eq]; omega, fun p np => ?_⟩
    have gsp : ∀ q : Int × Option Int, x = perT q.1 q.2 → Txt.split x (":" : Str) = [intT q.1, restT q.2] := fun q e => by rw [e]; exact per_split _ _
    generalize hL : Txt.split x (":" : Str) = L at hw hwa gsp
    have s1 := same_new np (.lst (L.map V.str))
    have e1 : (upd H p (.lst (L.map V.str))) p = some (.lst (L.map V.str)) := upd_same
    generalize (upd H p (.lst (L.map V.str))) = H1 at s1 e1
    refine ⟨_, rfl, p, _, rfl, .inl (SqL.of e1), rfl, _, rfl, ?_⟩
    rw [List.length_map]
    by_cases h2 : L.length = 2
    rotate_left
    · rw [show decide (V.int (L.length : Nat) = V.int 2) = false from decide_eq_false fun z => h2 (by injection z with z; omega)]
      refine iteT (qn (fun q hq => h2 ?_) H1 s1)
      rw [gsp q hq]
      rfl
    rw [show decide (V.int (L.length : Nat) = V.int 2) = true from decide_eq_true (by rw [h2]; rfl)]
    refine iteF ?_
    obtain ⟨u, v, rfl⟩ : ∃ u v, L = [u, v] := by
      match L, h2 with
      | [a, b], _ => exact ⟨a, b, rfl⟩
    have hu1 := hw.2 u (by simp)
    have hv1 := hw.2 v (by simp)
    have hu2 := hwa u (by simp)
    have hv2 := hwa v (by simp)
    refine ⟨_, rfl, p, _, _, _, rfl, rfl, SqL.of e1, (atI_nat (j := 1) rfl), rfl, _, rfl, ?_⟩
    rw [dec_dash]
    by_cases hd : v = dash
    · rw [decide_eq_true hd]
      refine iteT ?_
      subst hd
      refine ⟨_, rfl, p, _, _, _, rfl, rfl, SqL.of e1, (atI_nat (j := 0) rfl), u, rfl, by omega, hu2, fun i H2 ei s2 => ?_, fun hn H2 s2 => ?_⟩
      · subst ei
        refine ⟨_, rfl, rfl, _, rfl, ?_⟩
        refine iteF ?_
        refine ⟨_, rfl, (by show 2 ≤ sizeLine; decide), fun t nt => ?_⟩
        exact qg (i, none) t _ (by show x = perT i none; rw [per_of_split hL, perT_eq]; rfl) (s1.trans (s2.trans (same_new nt _))) upd_same
      · refine ⟨_, rfl, rfl, _, rfl, ?_⟩
        refine iteT (qn (fun q hq => ?_) H2 (s1.trans s2))
        have := gsp q hq
        injection this with this _
        exact hn _ this
    · rw [decide_eq_false hd]
      refine iteF ?_
      refine ⟨_, rfl, p, [u, v], rfl, e1, by show 2 ≤ 900; decide, fun y hy => ?_, fun ns t H2 hns s2 ht => ?_, fun hn H2 s2 => ?_⟩
      · rcases List.mem_cons.mp hy with rfl | hy
        · exact ⟨by omega, hu2⟩
        · rw [List.mem_singleton.mp hy]
          exact ⟨by omega, hv2⟩
      · match ns, hns with
        | [b, i], hns =>
          injection hns with n1 hns
          injection hns with n2 _
          exact qg (b, some i) t H2 (by show x = perT b (some i); rw [per_of_split hL, perT_eq, n1, n2]; rfl) (s1.trans s2) ht
        | [], hns => cases hns
        | [_], hns => cases hns
        | _ :: _ :: _ :: _, hns => cases hns
      · refine qn (fun q hq => ?_) H2 (s1.trans s2)
        obtain ⟨b, d⟩ := q
        have := gsp (b, d) hq
        injection this with n1 this
        injection this with n2 _
        cases d with
        | none => exact hd n2
        | some i => exact hn [b, i] (by rw [n1, n2]; rfl)
abbrev sLFolkOf : Stmt := topS 69
abbrev nLFolkOf : List Str := ["_law_words_here", "_law_found", "_law_word"]
abbrev pLFolkOf : List Str := ["_law_words_here"]
theorem scLFolkOf : FnScope nLFolkOf pLFolkOf (defScope sLFolkOf) := ⟨rfl, rfl, rfl, by decide +kernel, rfl, by decide +kernel, by decide +kernel⟩
def FolkL (ws : List Str) (ps : List (Int × Option Int)) : Prop := ps ≠ [] ∧ ws = ps.map fun q => perT q.1 q.2
def spLFolkOf : Sp := fun vs H Q _ => ∃ (p : Addr) (ws : List Str), vs = [.ref p] ∧ H p = some (.lst (ws.map V.str)) ∧ ws.length ≤ 900 ∧ (∀ x ∈ ws, x.length ≤ 600 ∧ asc x) ∧ GO (FolkL ws) FolkO H Q
theorem paired_perL {ws : List Str} {ps : List (Int × Option Int)} (h : Paired (fun (w : Str) (q : Int × Option Int) => w = perT q.1 q.2) ws ps) : ws = ps.map fun q => perT q.1 q.2 := by
  induction h with
  | nil => rfl
  | cons a _ ih => rw [List.map_cons, ← ih, a]
theorem ok_LFolkOf {f : Addr} {fd : FuncData} {k : Nat} (F : Fun K "_law_folk_of" "_law_folk_of" sLFolkOf f fd) (C__law_person_of : CallOk P w K mg base k "_law_person_of" pLPerOf spLPerOf) (m_tuple : mg "tuple" = none) : FnOk P w K mg base CX0 (k + 1) f fd pLFolkOf spLFolkOf := by
  refine F.ok scLFolkOf (fun vs H Q E h => ?_) (fun cdv A outer s H vs Q E hr h => ?_)
  · obtain ⟨p, ws, rfl, _⟩ := h
    rfl
  · obtain ⟨p, ws, rfl, hp, hl, hs, qg, qn⟩ := h
    have nd := scLFolkOf.nd
    have h65 := Nat.lt_of_le_of_lt (Nat.add_le_add_left (show 65 ≤ 16 * k + 200 by omega) _) (show _ + (16 * k + 200) < cLine from by have h := hr.un; rw [Nat.add_assoc] at h; exact h)
    refine ⟨_, pss_cons (ps_setLc (i := 1) (own := [("_law_word", 2)]) (g := gName 2) (by rfl) nd rfl rfl (sw_true rfl rfl rfl (by decide +kernel)) (pi_list (pv 0)) (blkOk_by (own := [("_law_word", 2)]) (N := nLFolkOf) (sc := defScope sLFolkOf) (by decide +kernel)) (fun _ _ _ _ _ => (pg_name (i := 2) nd rfl (.inl rfl))) (fun _ _ _ _ _ => pts_nil)
          (fun _ _ _ _ _ => (pe_call C__law_person_of.ok hr (by rfl) C__law_person_of.g C__law_person_of.kp C__law_person_of.b .nil pass0 (pa_cons (pv 2) pa_nil))))
      (pss_cons (ps_if (PW.pt (pw_or (pt_cmpR (op_eqD hr.units) (pv 1) (pe_lst pa_nil) (nomark _)) (pw_or1 (pt_cmpR (op_inD h65) pe_non (pv 1) (by rfl))))) (pss_one (ps_ret pe_non)) pss_nil)
      (pss_one (ps_ret (pe_callTy call_tuple_of (by rfl) m_tuple (by decide +kernel) (pa_cons (pv 1) pa_nil))))), ?_⟩
    refine ⟨_, rfl, _, rfl, ⟨_, SqL.of hp⟩, fun M1 nM1 => ?_⟩
    refine lc_newE (walk_list (xs := ws.map V.str)) ws (fun H y u => (∃ (q : Int × Option Int) (t : Addr), u = .ref t ∧ y = perT q.1 q.2 ∧ H t = some (.tup [.int q.1, dV q.2])) ∨ ((∀ q : Int × Option Int, ¬ (y = perT q.1 q.2)) ∧ u = .non)) ?_ (by rw [List.length_map]) (by omega) nM1 (fun H s => SqL.of (s _ _ hp)) ?_ ?_
    · rintro y u H3 H4 xs hD k3 (⟨q, t, e, hq, ht⟩ | h)
      · exact .inl ⟨q, t, e, hq, k3 _ _ (fun z => by rw [z, hD] at ht; cases ht) ht⟩
      · exact .inr h
    · rintro i y x H3 H4 hy s3 _ ⟨rfl, hx1⟩ Q1 q1
      rw [List.getElem?_map, hy] at hx1
      injection hx1 with hx1
      subst hx1
      have my := hs y (List.mem_of_getElem? hy)
      refine ⟨rfl, _, rfl, y, rfl, my.1, my.2, fun q t H' hq s' e' => ?_, fun hn H' s' => ?_⟩
      · exact q1 _ H' s' (.inl ⟨q, t, rfl, hq, e'⟩)
      · exact q1 _ H' s' (.inr ⟨hn, rfl⟩)
    intro H2 zs s2 eM hz hat
    obtain ⟨ds, hdp, hlay, hdep, hany⟩ := opt_list (K := K) (H := H2) (zs.map (·.1)) fun v hv => by
      obtain ⟨z, hm, rfl⟩ := List.mem_map.mp hv
      rcases hat z hm with ⟨q, t, e, _, ht⟩ | ⟨_, e⟩
      · rw [e]
        exact optD_per ht
      · rw [e]
        exact optD_non
    have hdl : ds.length = ws.length := by
      have := dpAll_len hdp
      rw [← hz, List.length_map]
      rw [List.length_map] at this
      exact this
    refine ⟨_, rfl, Nat.zero_le _, fun l2 nl2 => ?_⟩
    have s3 := same_new nl2 (.lst [])
    have e3 : (upd H2 l2 (.lst [])) l2 = some (.lst []) := upd_same
    have hdp' : DpAll K (upd H2 l2 (.lst [])) (zs.map (·.1)) ds := DpAll.sameH s3 hdp
    generalize (upd H2 l2 (.lst [])) = H3 at s3 e3 hdp'
    have eM3 := s3 _ _ eM
    have s23 := s2.trans s3
    refine ⟨_, _, .lst (SqL.of eM3) hdp', .lst (SqL.of e3) .nil, shaped_opt hlay hdep, shaped_nil, _, rfl, ?_⟩
    rw [eqv_nil]
    by_cases h0 : ws = []
    · rw [show ds.isEmpty = true from by rw [List.isEmpty_iff, ← List.length_eq_zero_iff, hdl, h0]; rfl]
      refine iteT (qn (fun ps hps => hps.1 ?_) H3 s23)
      have := hps.2
      rw [h0] at this
      exact List.map_eq_nil_iff.mp this.symm
    rw [show ds.isEmpty = false from by
      rw [Bool.eq_false_iff]
      intro z
      rw [List.isEmpty_iff, ← List.length_eq_zero_iff, hdl] at z
      exact h0 (List.eq_nil_of_length_eq_zero z)]
    refine iteF ?_
    refine ⟨_, rfl, .none, ds, .non, .lst (SqL.of eM3) hdp', by decide, shaped_opt hlay hdep, _, rfl, ?_⟩
    rw [hany]
    cases hN : (zs.map (·.1)).any fun v => decide (v = V.non) with
    | true =>
      refine iteT (qn (fun ps hps => ?_) H3 s23)
      obtain ⟨z, hm, hz0⟩ := List.mem_map.mp (any_non.mp hN)
      rcases hat z hm with ⟨q, t, e, _, _⟩ | ⟨hno, _⟩
      · rw [hz0] at e
        cases e
      · have hz2 : z.2 ∈ ws := by
          rw [← hz]
          exact List.mem_map_of_mem (f := (·.2)) hm
        rw [hps.2] at hz2
        obtain ⟨q, hq, e⟩ := List.mem_map.mp hz2
        exact hno q e.symm
    | false =>
      refine iteF ?_
      obtain ⟨pz, e1, e2, e4⟩ := all_made (R := fun (y : Str) (q : Int × Option Int) => y = perT q.1 q.2) (O := fun q t => H2 t = some (.tup [.int q.1, dV q.2])) hat (fun hm => by
        rw [any_non.mpr hm] at hN
        cases hN)
      rw [hz] at e4
      have e5 := paired_perL e4
      refine ⟨_, rfl, M1, _, rfl, .inl ⟨SqL.of eM3, fun t3 nt3 => ?_⟩⟩
      have s4 := same_new nt3 (.tup (zs.map (·.1)))
      exact qg (pz.map (·.2)) t3 _ ⟨fun z => h0 (by rw [e5, z]; rfl), e5⟩ (s23.trans s4) ⟨pz, by rw [upd_same, e1], rfl, fun z hm => s4 _ _ (s3 _ _ (e2 z hm))⟩
abbrev sLListed : Stmt := topS 70
abbrev nLListed : List Str := ["_law_word"]
abbrev pLListed : List Str := ["_law_word"]
theorem scLListed : FnScope nLListed pLListed (defScope sLListed) := ⟨rfl, rfl, rfl, by decide +kernel, rfl, by decide +kernel, by decide +kernel⟩
def spLListed : Sp := fun vs H Q _ => ∃ x : Str, vs = [.str x] ∧ x.length ≤ 600 ∧ asc x ∧ GO (fun ns : List Int => x = rowT ns) (fun ns t H' => H' t = some (.tup (ns.map V.int))) H Q
theorem ok_LListed {f : Addr} {fd : FuncData} {k : Nat} (F : Fun K "_law_listed" "_law_listed" sLListed f fd) (C__law_list : CallOk P w K mg base k "_law_list" pLList spLList) : FnOk P w K mg base CX0 (k + 1) f fd pLListed spLListed := by
  refine F.ok scLListed (fun vs H Q E h => ?_) (fun cdv A outer s H vs Q E hr h => ?_)
  · obtain ⟨x, rfl, _⟩ := h
    rfl
  · obtain ⟨x, rfl, hl, ha, qg, qn⟩ := h
    have nd := scLListed.nd
    refine ⟨_, pss_cons (ps_if (pt_cmpR op_eq (pv 0) pe_str (nomark _)) (pss_one (ps_ret (pe_tup pa_nil))) pss_nil)
      (pss_one (ps_ret (pe_call C__law_list.ok hr (by rfl) C__law_list.g C__law_list.kp C__law_list.b .nil pass0 (pa_cons (pe_bm PySem.F.plainAttrs_str PySem.F.slot_str_split PySem.F.type_str_split mt_split (pv 0) (pa_cons pe_str pa_nil)) pa_nil)))), ?_⟩
    refine ⟨_, rfl, rfl, _, rfl, ?_⟩
    rw [dec_dash]
    by_cases hd : x = dash
    · rw [decide_eq_true hd]
      exact iteT ⟨Nat.zero_le _, fun t1 nt1 => qg [] t1 _ (by rw [hd]; exact rowT_nil.symm) (same_new nt1 _) upd_same⟩
    · rw [decide_eq_false hd]
      refine iteF ?_
      have hw := split_lens x com l_com
      have hwa := asc_split tl_com ha
      refine ⟨_, rfl, rfl, x, _, rfl, rfl, by decide +kernel, by rw [sizeLine_eq]; omega, fun p np => ?_⟩
      have s1 := same_new np (.lst ((Txt.split x com).map V.str))
      refine ⟨p, _, rfl, upd_same, Nat.le_trans hw.1 (by omega), fun y hy => ⟨Nat.le_trans (hw.2 y hy) (by omega), hwa y hy⟩, fun ns t H2 hns s2 ht => ?_, fun hn H2 s2 => ?_⟩
      · have hne : ns ≠ [] := fun z => split_ne x com (by rw [show Txt.split x com = ns.map intT from hns, z]; rfl)
        refine qg ns t H2 ?_ (s1.trans s2) ht
        show x = rowT ns
        rw [rowT_ne hne, ← show Txt.split x com = ns.map intT from hns, join_back]
      · refine qn (fun ns hns => ?_) H2 (s1.trans s2)
        have hne : ns ≠ [] := fun z => hd (by rw [hns, z]; exact rowT_nil)
        refine hn ns ?_
        show Txt.split x com = ns.map intT
        rw [hns, rowT_ne hne]
        exact split_row hne
end
end Deed

namespace Deed
open PySem PySem.Spec PyProof.Rows L2 LamX TL TX
def GoodE (ws : List Str) (e : En) : Prop := ws = wordsE e ∧ ActW e
theorem four_of {ns : List Int} {a b c d : Str} (h : [a, b, c, d] = ns.map intT) : ∃ n1 n2 n3 n4, ns = [n1, n2, n3, n4] ∧ a = intT n1 ∧ b = intT n2 ∧ c = intT n3 ∧ d = intT n4 := by
  match ns, h with
  | [n1, n2, n3, n4], h =>
    injection h with h1 h
    injection h with h2 h
    injection h with h3 h
    injection h with h4 _
    exact ⟨n1, n2, n3, n4, rfl, h1, h2, h3, h4⟩
  | [], h => cases h
  | [_], h => cases h
  | [_, _], h => cases h
  | [_, _, _], h => cases h
  | _ :: _ :: _ :: _ :: _ :: _, h => cases h
theorem two_of {ns : List Int} {a b : Str} (h : [a, b] = ns.map intT) : ∃ n1 n2, ns = [n1, n2] ∧ a = intT n1 ∧ b = intT n2 := by
  match ns, h with
  | [n1, n2], h =>
    injection h with h1 h
    injection h with h2 _
    exact ⟨n1, n2, rfl, h1, h2⟩
  | [], h => cases h
  | [_], h => cases h
  | _ :: _ :: _ :: _, h => cases h
section
variable {P : Program} {w : World} {K : PySem.W.Frag} {mg : Str → Option Value} {base : Heap} {T : List (Addr × Str)}
abbrev sLEntryOf : Stmt := topS 71
abbrev nLEntryOf : List Str := ["_law_words_here", "_law_head", "_law_last", "_law_both", "_law_rests", "_law_witnesses"]
abbrev pLEntryOf : List Str := ["_law_words_here"]
theorem scLEntryOf : FnScope nLEntryOf pLEntryOf (defScope sLEntryOf) := ⟨rfl, rfl, rfl, by decide +kernel, rfl, by decide +kernel, by decide +kernel⟩
def spLEntryOf : Sp := fun vs H Q _ => ∃ (p : Addr) (ws : List Str), vs = [.ref p] ∧ H p = some (.lst (ws.map V.str)) ∧ ws.length ≤ 900 ∧ (∀ x ∈ ws, x.length ≤ 600 ∧ asc x) ∧ GO (GoodE ws) (fun e o H => EntAt H o e) H Q
theorem ok_LEntryOf {f : Addr} {fd : FuncData} {k : Nat} (F : Fun K "_law_entry_of" "_law_entry_of" sLEntryOf f fd) (C__law_list : CallOk P w K mg base k "_law_list" pLList spLList) (C__law_listed : CallOk P w K mg base k "_law_listed" pLListed spLListed) (m_len : mg "len" = none) : FnOk P w K mg base CX0 (k + 1) f fd pLEntryOf spLEntryOf := by
  refine F.ok scLEntryOf (fun vs H Q E h => ?_) (fun cdv A outer s H vs Q E hr h => ?_)
  · obtain ⟨p, ws, rfl, _⟩ := h
    rfl
  · obtain ⟨p, ws, rfl, hp, hl, hs, qg, qn⟩ := h
    have nd := scLEntryOf.nd
    refine ⟨_, pss_cons (ps_if (PW.pt (pw_or (pt_cmpR op_lt (pe_callB call_len_seq (by rfl) m_len (by decide +kernel) (pa_cons (pv 0) pa_nil)) pe_int (nomark _)) (pw_or1 (pt_cmpR op_notIn_seq (pe_ix ix_list (pv 0) pe_int (fun _ _ => rfl)) (pe_tup (pa_cons pe_str (pa_cons pe_str (pa_cons pe_str (pa_cons pe_str pa_nil))))) (by rfl))))) (pss_one (ps_ret pe_non)) pss_nil)
      (pss_cons (ps_set (i := 1) nd rfl (.inl rfl) (pe_call C__law_list.ok hr (by rfl) C__law_list.g C__law_list.kp C__law_list.b .nil pass0 (pa_cons (pe_slice sl_list (pv 0) po_none (po_some pe_int)) pa_nil)))
      (pss_cons (ps_if (pt_cmpR op_ne (pe_ix ix_list (pv 0) pe_int (fun _ _ => rfl)) pe_str (nomark _)) (pss_cons (ps_set (i := 2) nd rfl (.inl rfl) (pe_call C__law_list.ok hr (by rfl) C__law_list.g C__law_list.kp C__law_list.b .nil pass0 (pa_cons (pe_slice sl_list (pv 0) (po_some pe_int) po_none) pa_nil)))
      (pss_cons (ps_if (PW.pt (pw_or (pt_cmpR op_isN (pv 1) pe_non (nomark _)) (pw_or (pt_cmpR op_isN (pv 2) pe_non (nomark _)) (pw_or1 (pt_cmpR op_ne (pe_callB call_len_seq (by rfl) m_len (by decide +kernel) (pa_cons (pv 2) pa_nil)) pe_int (nomark _)))))) (pss_one (ps_ret pe_non)) pss_nil)
      (pss_one (ps_ret (pe_op op_catA (pe_op op_catA (pv 1) (pe_tup (pa_cons (pe_ix ix_list (pv 0) pe_int (fun _ _ => rfl)) pa_nil))) (pv 2)))))) pss_nil)
      (pss_cons (ps_if (pt_cmpR op_ne (pe_callB call_len_seq (by rfl) m_len (by decide +kernel) (pa_cons (pv 0) pa_nil)) pe_int (nomark _)) (pss_one (ps_ret pe_non)) pss_nil)
      (pss_cons (ps_set (i := 3) nd rfl (.inl rfl) (pe_call C__law_list.ok hr (by rfl) C__law_list.g C__law_list.kp C__law_list.b .nil pass0 (pa_cons (pe_slice sl_list (pv 0) (po_some pe_int) (po_some pe_int)) pa_nil)))
      (pss_cons (ps_par (i := 4) (j := 5) (by rfl) nd rfl rfl (by decide) rfl rfl (pa_cons (pe_call C__law_listed.ok hr (by rfl) C__law_listed.g C__law_listed.kp C__law_listed.b .nil pass0 (pa_cons (pe_ix ix_list (pv 0) pe_int (fun _ _ => rfl)) pa_nil)) (pa_cons (pe_call C__law_listed.ok hr (by rfl) C__law_listed.g C__law_listed.kp C__law_listed.b .nil pass0 (pa_cons (pe_ix ix_list (pv 0) pe_int (fun _ _ => rfl)) pa_nil)) pa_nil)) (by rfl))
      (pss_cons (ps_if (PW.pt (pw_or (pt_cmpR op_isN (pv 1) pe_non (nomark _)) (pw_or (pt_cmpR op_isN (pv 3) pe_non (nomark _)) (pw_or (pt_cmpR op_isN (pv 4) pe_non (nomark _)) (pw_or1 (pt_cmpR op_isN (pv 5) pe_non (nomark _))))))) (pss_one (ps_ret pe_non)) pss_nil)
      (pss_one (ps_ret (pe_op op_catA (pe_op op_catA (pe_op op_catA (pv 1) (pe_tup (pa_cons pe_str pa_nil))) (pv 3)) (pe_tup (pa_cons (pv 4) (pa_cons (pv 5) pa_nil)))))))))))), ?_⟩
    refine ⟨_, rfl, p, _, rfl, .inl (SqL.of hp), _, _, rfl, rfl, _, rfl, ?_⟩
    rw [List.length_map]
    by_cases h6 : 6 ≤ ws.length
    rotate_left
    · rw [decide_eq_true (show (ws.length : Int) < 6 by omega)]
      refine iteT (qn (fun e he => h6 ?_) H (same_refl _))
      rw [he.1]
      exact wordsE_len e
    rw [decide_eq_false (show ¬ (ws.length : Int) < 6 by omega)]
    refine iteF ?_
    obtain ⟨a, b, c, d, x, rest, rfl⟩ : ∃ a b c d x rest, ws = a :: b :: c :: d :: x :: rest := by
      match ws, h6 with
      | a :: b :: c :: d :: x :: rest, _ => exact ⟨a, b, c, d, x, rest, rfl⟩
      | [_, _, _, _], h => exact absurd h (by simp)
      | [_, _, _], h => exact absurd h (by simp)
      | [_, _], h => exact absurd h (by simp)
      | [_], h => exact absurd h (by simp)
      | [], h => exact absurd h (by simp)
    have hcut : cutV ((a :: b :: c :: d :: x :: rest).map V.str) none (some 4) = [a, b, c, d].map V.str := by
      rw [cutTake V.str (a :: b :: c :: d :: x :: rest) (by decide)]
      rfl
    have hdrop : cutV ((a :: b :: c :: d :: x :: rest).map V.str) (some 5) none = rest.map V.str := cutDrop V.str (a :: b :: c :: d :: x :: rest) 5
    have hat4 : ((a :: b :: c :: d :: x :: rest).map V.str)[4]? = some (.str x) := rfl
    have parts : ∀ e : En, GoodE (a :: b :: c :: d :: x :: rest) e → [a, b, c, d] = [e.num, e.day, e.wri, e.hand].map intT ∧ x = e.word ∧ rest = tailP e := fun e he => by
      have := he.1
      unfold wordsE at this
      injection this with g1 this
      injection this with g2 this
      injection this with g3 this
      injection this with g4 this
      injection this with g5 g6
      exact ⟨by rw [g1, g2, g3, g4]; rfl, g5, g6⟩
    refine ⟨_, rfl, p, _, _, _, rfl, rfl, SqL.of hp, (atI_nat (j := 4) hat4), (by show 4 ≤ sizeLine; decide), fun t1 nt1 => ?_⟩
    have s1 := same_new nt1 (.tup [.str ("deed" : Str), .str ("paid" : Str), .str ("void" : Str), .str ("undone" : Str)])
    have e1 : (upd H t1 (.tup [.str ("deed" : Str), .str ("paid" : Str), .str ("void" : Str), .str ("undone" : Str)])) t1 = some (.tup [.str ("deed" : Str), .str ("paid" : Str), .str ("void" : Str), .str ("undone" : Str)]) := upd_same
    generalize (upd H t1 (.tup [.str ("deed" : Str), .str ("paid" : Str), .str ("void" : Str), .str ("undone" : Str)])) = H1 at s1 e1
    refine ⟨t1, _, rfl, .inr (SqT.of e1), rfl, rfl, _, rfl, ?_⟩
    show if (!inV (V.str x) ((([("deed" : Str), "paid", "void", "undone"] : List Str)).map V.str)) = true then _ else _
    rw [mem_inS]
    by_cases hx : x ∈ [("deed" : Str), "paid", "void", "undone"]
    rotate_left
    · rw [decide_eq_false hx]
      refine iteT (qn (fun e he => hx ?_) H1 s1)
      rw [(parts e he).2.1]
      simp only [List.mem_cons, List.not_mem_nil, or_false]
      exact he.2.word
    rw [decide_eq_true hx]
    refine iteF ?_
    have hp1 := s1 _ _ hp
    refine ⟨_, rfl, ?_⟩
    dsimp only [tNoPart]
    refine ⟨_, rfl, p, _, rfl, SqL.of hp1, fun q2 nq2 => ?_⟩
    rw [hcut]
    have s2 := same_new nq2 (.lst ([a, b, c, d].map V.str))
    have e2 : (upd H1 q2 (.lst ([a, b, c, d].map V.str))) q2 = some (.lst ([a, b, c, d].map V.str)) := upd_same
    generalize (upd H1 q2 (.lst ([a, b, c, d].map V.str))) = H2 at s2 e2
    refine ⟨q2, _, rfl, e2, by show 4 ≤ 900; decide, fun y hy => hs y ?_, GO.of fun vh H3 s3 hvh => ?_⟩
    · simp only [List.mem_cons, List.not_mem_nil, or_false] at hy ⊢
      rcases hy with rfl | rfl | rfl | rfl <;> simp
    have s03 := s1.trans (s2.trans s3)
    have hp3 := s03 _ _ hp
    refine ⟨_, rfl, p, _, _, _, rfl, rfl, SqL.of hp3, (atI_nat (j := 4) hat4), rfl, _, rfl, ?_⟩
    by_cases hd : x = ("deed" : Str)
    rotate_left
    · -- an act
      rw [show decide (V.str x = V.str ("deed" : Str)) = false from decide_eq_false fun z => hd (by injection z)]
      refine iteT ?_
      have acts : ∀ e : En, GoodE (a :: b :: c :: d :: x :: rest) e → ∃ o, rest = [intT o] := fun e he => by
        obtain ⟨_, g5, g6⟩ := parts e he
        unfold tailP at g6
        unfold En.word at g5
        cases hk : e.kd with
        | deed g t rs us =>
          rw [hk] at g5
          exact absurd g5 hd
        | act y o =>
          rw [hk] at g6
          exact ⟨o, g6⟩
      refine ⟨_, rfl, _, rfl, ?_⟩
      dsimp only [tNoPart]
      refine ⟨p, _, rfl, SqL.of hp3, fun q4 nq4 => ?_⟩
      rw [hdrop]
      have s4 := same_new nq4 (.lst (rest.map V.str))
      have e4 : (upd H3 q4 (.lst (rest.map V.str))) q4 = some (.lst (rest.map V.str)) := upd_same
      generalize (upd H3 q4 (.lst (rest.map V.str))) = H4 at s4 e4
      refine ⟨q4, _, rfl, e4, by simp only [List.length_cons] at hl; omega, fun y hy => hs y (by simp [hy]), GO.of fun vl H5 s5 hvl => ?_⟩
      have s35 := s4.trans s5
      have s05 := s03.trans s35
      rcases hvh with ⟨ns, th, rfl, hns, hth⟩ | ⟨hno, rfl⟩
      rotate_left
      · refine ⟨_, rfl, rfl, _, rfl, ?_⟩
        exact iteT (qn (fun e he => hno _ (parts e he).1) H5 s05)
      refine ⟨_, rfl, rfl, _, rfl, ?_⟩
      refine iteF ?_
      rcases hvl with ⟨ms, tl', rfl, hms, htl⟩ | ⟨hno, rfl⟩
      rotate_left
      · refine ⟨_, rfl, rfl, _, rfl, ?_⟩
        refine iteT (qn (fun e he => ?_) H5 s05)
        obtain ⟨o, ho⟩ := acts e he
        exact hno [o] ho
      refine ⟨_, rfl, rfl, _, rfl, ?_⟩
      refine iteF ?_
      refine ⟨_, rfl, tl', _, rfl, .inr (SqT.of htl), rfl, _, rfl, ?_⟩
      rw [List.length_map]
      by_cases h1 : ms.length = 1
      rotate_left
      · rw [show decide (V.int (ms.length : Nat) = V.int 1) = false from decide_eq_false fun z => h1 (by injection z with z; omega)]
        refine iteT (qn (fun e he => h1 ?_) H5 s05)
        obtain ⟨o, ho⟩ := acts e he
        have := congrArg List.length (hms.symm.trans ho)
        rw [List.length_map] at this
        exact this
      rw [show decide (V.int (ms.length : Nat) = V.int 1) = true from decide_eq_true (by rw [h1]; rfl)]
      refine iteF ?_
      obtain ⟨o, rfl⟩ : ∃ o, ms = [o] := by
        match ms, h1 with
        | [o], _ => exact ⟨o, rfl⟩
      have hms' : rest = [intT o] := hms
      obtain ⟨n1, n2, n3, n4, rfl, rfl, rfl, rfl, rfl⟩ := four_of hns
      refine ⟨_, rfl, ?_⟩
      refine ⟨_, rfl, p, _, _, _, rfl, rfl, SqL.of (s05 _ _ hp), (atI_nat (j := 4) hat4), (by show 1 ≤ sizeLine; decide), fun t6 nt6 => ?_⟩
      have s6 := same_new nt6 (.tup [.str x])
      have e6 : (upd H5 t6 (.tup [.str x])) t6 = some (.tup [.str x]) := upd_same
      generalize (upd H5 t6 (.tup [.str x])) = H6 at s6 e6
      have hth6 := s6 _ _ (s35 _ _ hth)
      refine catA_same hth6 e6 (by show 5 ≤ 1000; decide) fun t7 H7 s7 e7 => ?_
      refine ⟨_, rfl, ?_⟩
      refine catA_same e7 (s7 _ _ (s6 _ _ htl)) (by show 6 ≤ 1000; decide) fun t8 H8 s8 e8 => ?_
      refine qg ⟨n1, n2, n3, n4, .act x o⟩ t8 H8 ⟨by rw [hms']; rfl, fun y o' hk => ?_⟩ (s05.trans (s6.trans (s7.trans s8))) e8
      injection hk with hk _
      subst hk
      simp only [List.mem_cons, List.not_mem_nil, or_false] at hx
      exact hx.resolve_left hd
    -- a deed
    subst hd
    rw [decide_eq_true rfl]
    refine iteF ?_
    have deeds : ∀ e : En, GoodE (a :: b :: c :: d :: ("deed" : Str) :: rest) e → ∃ g t rs us, rest = [intT g, intT t, rowT rs, rowT us] := fun e he => by
      obtain ⟨_, g5, g6⟩ := parts e he
      unfold tailP at g6
      unfold En.word at g5
      cases hk : e.kd with
      | deed g t rs us =>
        rw [hk] at g6
        exact ⟨g, t, rs, us, g6⟩
      | act y o =>
        rw [hk] at g5
        exact absurd g5.symm (he.2.ne y o hk)
    refine ⟨_, rfl, p, _, rfl, .inl (SqL.of hp3), rfl, _, rfl, ?_⟩
    rw [List.length_map]
    by_cases h9 : rest.length = 4
    rotate_left
    · rw [show decide (V.int ((a :: b :: c :: d :: ("deed" : Str) :: rest).length : Nat) = V.int 9) = false from decide_eq_false fun z => h9 (by injection z with z; simp only [List.length_cons] at z; omega)]
      refine iteT (qn (fun e he => h9 ?_) H3 s03)
      obtain ⟨g, t, rs, us, ho⟩ := deeds e he
      rw [ho]
      rfl
    rw [show decide (V.int ((a :: b :: c :: d :: ("deed" : Str) :: rest).length : Nat) = V.int 9) = true from decide_eq_true (by simp only [List.length_cons, h9]; rfl)]
    refine iteF ?_
    obtain ⟨g, t, r, u, rfl⟩ : ∃ g t r u, rest = [g, t, r, u] := by
      match rest, h9 with
      | [g, t, r, u], _ => exact ⟨g, t, r, u, rfl⟩
    refine ⟨_, rfl, _, rfl, _, rfl, ?_⟩
    refine ⟨p, _, rfl, SqL.of hp3, fun q4 nq4 => ?_⟩
    rw [show cutV ([a, b, c, d, ("deed" : Str), g, t, r, u].map V.str) (some 5) (some 7) = [g, t].map V.str from rfl]
    have s4 := same_new nq4 (.lst ([g, t].map V.str))
    have e4 : (upd H3 q4 (.lst ([g, t].map V.str))) q4 = some (.lst ([g, t].map V.str)) := upd_same
    generalize (upd H3 q4 (.lst ([g, t].map V.str))) = H4 at s4 e4
    refine ⟨q4, _, rfl, e4, by show 2 ≤ 900; decide, fun y hy => hs y ?_, GO.of fun vb H5 s5 hvb => ?_⟩
    · simp only [List.mem_cons, List.not_mem_nil, or_false] at hy ⊢
      rcases hy with rfl | rfl <;> simp
    have s35 := s4.trans s5
    have s05 := s03.trans s35
    have hsr := hs r (by simp)
    have hsu := hs u (by simp)
    refine ⟨_, rfl, p, _, _, _, rfl, rfl, SqL.of (s05 _ _ hp), (atI_nat (j := 7) rfl), r, rfl, hsr.1, hsr.2, GO.of fun vr H6 s6 hvr => ?_⟩
    have s06 := s05.trans s6
    refine ⟨_, rfl, p, _, _, _, rfl, rfl, SqL.of (s06 _ _ hp), (atI_nat (j := 8) rfl), u, rfl, hsu.1, hsu.2, GO.of fun vu H7 s7 hvu => ?_⟩
    have s07 := s06.trans s7
    have dparts : ∀ e : En, GoodE [a, b, c, d, ("deed" : Str), g, t, r, u] e → ∃ g' t' rs us, [g, t] = [g', t'].map intT ∧ r = rowT rs ∧ u = rowT us := fun e he => by
      obtain ⟨g', t', rs, us, ho⟩ := deeds e he
      injection ho with o1 ho
      injection ho with o2 ho
      injection ho with o3 ho
      injection ho with o4 _
      exact ⟨g', t', rs, us, by rw [o1, o2]; rfl, o3, o4⟩
    refine ⟨_, _, rfl, ?_⟩
    rcases hvh with ⟨ns, th, rfl, hns, hth⟩ | ⟨hno, rfl⟩
    rotate_left
    · refine ⟨_, rfl, rfl, _, rfl, ?_⟩
      exact iteT (qn (fun e he => hno _ (parts e he).1) H7 s07)
    refine ⟨_, rfl, rfl, _, rfl, ?_⟩
    refine iteF ?_
    rcases hvb with ⟨ms, tb, rfl, hms, htb⟩ | ⟨hno, rfl⟩
    rotate_left
    · refine ⟨_, rfl, rfl, _, rfl, ?_⟩
      refine iteT (qn (fun e he => ?_) H7 s07)
      obtain ⟨g', t', _, _, h, _, _⟩ := dparts e he
      exact hno _ h
    refine ⟨_, rfl, rfl, _, rfl, ?_⟩
    refine iteF ?_
    rcases hvr with ⟨rs, tr, rfl, hrs, htr⟩ | ⟨hno, rfl⟩
    rotate_left
    · refine ⟨_, rfl, rfl, _, rfl, ?_⟩
      refine iteT (qn (fun e he => ?_) H7 s07)
      obtain ⟨_, _, rs, _, _, h, _⟩ := dparts e he
      exact hno _ h
    refine ⟨_, rfl, rfl, _, rfl, ?_⟩
    refine iteF ?_
    rcases hvu with ⟨us, tu, rfl, hus, htu⟩ | ⟨hno, rfl⟩
    rotate_left
    · refine ⟨_, rfl, rfl, _, rfl, ?_⟩
      refine iteT (qn (fun e he => ?_) H7 s07)
      obtain ⟨_, _, _, us, _, _, h⟩ := dparts e he
      exact hno _ h
    refine ⟨_, rfl, rfl, _, rfl, ?_⟩
    refine iteF ?_
    obtain ⟨n1, n2, n3, n4, rfl, rfl, rfl, rfl, rfl⟩ := four_of hns
    obtain ⟨gi, ti, rfl, rfl, rfl⟩ := two_of hms
    subst hrs
    subst hus
    have s37 := s35.trans (s6.trans s7)
    have hth7 := s37 _ _ hth
    have htb7 := (s6.trans s7) _ _ htb
    have htr7 := s7 _ _ htr
    refine ⟨_, rfl, (by show 1 ≤ sizeLine; decide), fun t8 nt8 => ?_⟩
    have s8 := same_new nt8 (.tup [.str ("deed" : Str)])
    have e8 : (upd H7 t8 (.tup [.str ("deed" : Str)])) t8 = some (.tup [.str ("deed" : Str)]) := upd_same
    generalize (upd H7 t8 (.tup [.str ("deed" : Str)])) = H8 at s8 e8
    refine catA_same (s8 _ _ hth7) e8 (by show 5 ≤ 1000; decide) fun t9 H9 s9 e9 => ?_
    have s79 := s8.trans s9
    refine ⟨_, rfl, ?_⟩
    refine catA_same e9 (s79 _ _ htb7) (by show 7 ≤ 1000; decide) fun ta Ha sa ea => ?_
    refine ⟨_, rfl, _, rfl, (by show 2 ≤ sizeLine; decide), fun tc ntc => ?_⟩
    have sc := same_new ntc (.tup [.ref tr, .ref tu])
    have ec : (upd Ha tc (.tup [.ref tr, .ref tu])) tc = some (.tup [.ref tr, .ref tu]) := upd_same
    generalize (upd Ha tc (.tup [.ref tr, .ref tu])) = Hc at sc ec
    refine catA_same (sc _ _ ea) ec (by show 9 ≤ 1000; decide) fun td Hd sd ed => ?_
    have s7d := s79.trans (sa.trans (sc.trans sd))
    exact qg ⟨n1, n2, n3, n4, .deed gi ti rs us⟩ td Hd ⟨rfl, fun y o hk => by cases hk⟩ (s07.trans s7d) ⟨tr, tu, ed, s7d _ _ htr7, s7d _ _ htu⟩
end
end Deed

namespace Deed
open PySem PySem.Spec PyProof.Rows L2 LamX TL TX
theorem optD_ent {K : PySem.W.Frag} {H : Hp} {a : Addr} {e : En} (h : EntAt H a e) (hw : ActW e) : OptD K H (.ref a) := by
  refine ⟨entD e, h.dp, ?_, by have := depth_ent e; omega, ?_⟩
  · unfold entD
    cases hk : e.kd with
    | deed g t rs ws =>
      simp [PyData.canLay0, PyData.canLayAll0, lay_ints]
      decide +kernel
    | act x o =>
      rcases hw x o hk with rfl | rfl | rfl <;> simp [PyData.canLay0, PyData.canLayAll0] <;> decide +kernel
  · unfold entD
    cases e.kd <;> simp [PyData.eqv]
theorem paired_entL {ws : List (List Str)} {es : List En} (h : Paired GoodE ws es) : ws = es.map wordsE ∧ ∀ e ∈ es, ActW e := by
  induction h with
  | nil => exact ⟨rfl, (fun _ h => (nomatch h))⟩
  | cons a _ ih =>
    obtain ⟨rfl, ha⟩ := a
    obtain ⟨rfl, hb⟩ := ih
    refine ⟨rfl, fun q hq => ?_⟩
    rcases List.mem_cons.mp hq with rfl | hq
    · exact ha
    · exact hb q hq
theorem le_lt_nd {es : List En} (h : (es.map (·.num)).Pairwise (· ≤ ·)) (nd : (es.map (·.num)).Nodup) : upE es := by
  unfold upE
  induction es with
  | nil => exact .nil
  | cons e r ih =>
    rw [List.map_cons, List.pairwise_cons] at h
    rw [List.map_cons, List.nodup_cons] at nd
    refine List.pairwise_cons.mpr ⟨fun u hu => ?_, ih h.2 nd.2⟩
    have h1 := h.1 u.num (List.mem_map_of_mem hu)
    have h2 : e.num ≠ u.num := fun z => nd.1 (by rw [z]; exact List.mem_map_of_mem hu)
    omega
theorem sorted_eq {ns ms : List Int} (h : ns.Pairwise (· ≤ ·)) (p : ms.Perm ns) (hm : ms.Pairwise (· ≤ ·)) : ns = ms :=
  (p.symm.eq_of_pairwise (fun a b _ _ h1 h2 => by omega) h hm)
def NumV (na : Str) (va : V) : Prop := (∃ i : Int, va = V.int i ∧ na = intT i) ∨ ((∀ i : Int, na ≠ intT i) ∧ va = V.non)
theorem NumV.of {na : Str} {H : Hp} {Q : VK} (h : ∀ va H', Same H H' → NumV na va → Q va H') : NumO na H Q :=
  ⟨fun i H' e s => h _ H' s (.inl ⟨i, rfl, e⟩), fun hn H' s => h _ H' s (.inr ⟨hn, rfl⟩)⟩
section
variable {P : Program} {w : World} {K : PySem.W.Frag} {mg : Str → Option Value} {base : Heap} {T : List (Addr × Str)}
abbrev sLBookOf : Stmt := topS 72
abbrev nLBookOf : List Str := ["_law_text", "_law_rows", "_law_folk_here", "_law_age", "_law_entries", "_law_book_here", "_law_row_here", "_law_one"]
abbrev pLBookOf : List Str := ["_law_text"]
theorem scLBookOf : FnScope nLBookOf pLBookOf (defScope sLBookOf) := ⟨rfl, rfl, rfl, by decide +kernel, rfl, by decide +kernel, by decide +kernel⟩
def spLBookOf : Sp := fun vs H Q _ => ∃ x : Str, vs = [.str x] ∧ x.length ≤ 600 ∧ asc x ∧ GO (WB (.str x)) PartsO H Q
theorem ok_LBookOf {f : Addr} {fd : FuncData} {k : Nat} (F : Fun K "_law_book_of" "_law_book_of" sLBookOf f fd) (C__law_folk_of : CallOk P w K mg base k "_law_folk_of" pLFolkOf spLFolkOf) (C__law_number : CallOk P w K mg base k "_law_number" pLNumber spLNumber) (C__law_entry_of : CallOk P w K mg base k "_law_entry_of" pLEntryOf spLEntryOf) (C_is_book : CallOk P w K mg base k "is_book" pIsBk (spB1 isBookT)) (m_len : mg "len" = none) (m_sorted : mg "sorted" = none) (m_tuple : mg "tuple" = none) : FnOk P w K mg base CX0 (k + 1) f fd pLBookOf spLBookOf := by
  refine F.ok scLBookOf (fun vs H Q E h => ?_) (fun cdv A outer s H vs Q E hr h => ?_)
  · obtain ⟨x, rfl, _⟩ := h
    rfl
  · obtain ⟨x, rfl, hl, ha, qg, qn⟩ := h
    have nd := scLBookOf.nd
    have h65 := Nat.lt_of_le_of_lt (Nat.add_le_add_left (show 65 ≤ 16 * k + 200 by omega) _) (show _ + (16 * k + 200) < cLine from by have h := hr.un; rw [Nat.add_assoc] at h; exact h)
    refine ⟨_, pss_cons (ps_setLc (i := 1) (own := [("_law_row_here", 6)]) (g := gName 6) (by rfl) nd rfl rfl (sw_true rfl rfl rfl (by decide +kernel)) (pi_list (pe_bm PySem.F.plainAttrs_str PySem.F.slot_str_split PySem.F.type_str_split mt_split (pv 0) (pa_cons pe_str pa_nil))) (blkOk_by (own := [("_law_row_here", 6)]) (N := nLBookOf) (sc := defScope sLBookOf) (by decide +kernel)) (fun _ _ _ _ _ => (pg_name (i := 6) nd rfl (.inl rfl))) (fun _ _ _ _ _ => pts_nil)
          (fun _ _ _ _ _ => (bmK (K := K) (by rfl) (pe_bm PySem.F.plainAttrs_str PySem.F.slot_str_split PySem.F.type_str_split mt_split (pv 6) (pa_cons pe_str pa_nil)))))
      (pss_cons (ps_if (PW.pt (pw_or (pt_cmpR op_lt (pe_callB call_len_seq (by rfl) m_len (by decide +kernel) (pa_cons (pv 1) pa_nil)) pe_int (nomark _)) (pw_or (pt_cmpR op_ne (pe_ix ix_list (pe_ix ix_list (pv 1) pe_int (fun _ _ => rfl)) pe_int (fun _ _ => rfl)) pe_str (nomark _)) (pw_or (pt_cmpR op_ne (pe_ix ix_list (pe_ix ix_list (pv 1) pe_int (fun _ _ => rfl)) pe_int (fun _ _ => rfl)) pe_str (nomark _)) (pw_or1 (pt_cmpR op_ne (pe_callB call_len_seq (by rfl) m_len (by decide +kernel) (pa_cons (pe_ix ix_list (pv 1) pe_int (fun _ _ => rfl)) pa_nil)) pe_int (nomark _))))))) (pss_one (ps_ret pe_non)) pss_nil)
      (pss_cons (ps_par (i := 2) (j := 3) (by rfl) nd rfl rfl (by decide) rfl rfl (pa_cons (pe_call C__law_folk_of.ok hr (by rfl) C__law_folk_of.g C__law_folk_of.kp C__law_folk_of.b .nil pass0 (pa_cons (pe_slice sl_list (pe_ix ix_list (pv 1) pe_int (fun _ _ => rfl)) (po_some pe_int) po_none) pa_nil)) (pa_cons (pe_call C__law_number.ok hr (by rfl) C__law_number.g C__law_number.kp C__law_number.b .nil pass0 (pa_cons (pe_ix ix_list (pe_ix ix_list (pv 1) pe_int (fun _ _ => rfl)) pe_int (fun _ _ => rfl)) pa_nil)) pa_nil)) (by rfl))
      (pss_cons (ps_setLc (i := 4) (own := [("_law_row_here", 6)]) (g := gName 6) (by rfl) nd rfl rfl (sw_true rfl rfl rfl (by decide +kernel)) (pi_list (pe_slice sl_list (pv 1) (po_some pe_int) po_none)) (blkOk_by (own := [("_law_row_here", 6)]) (N := nLBookOf) (sc := defScope sLBookOf) (by decide +kernel)) (fun _ _ _ _ _ => (pg_name (i := 6) nd rfl (.inl rfl))) (fun _ _ _ _ _ => pts_nil)
          (fun _ _ _ _ _ => (pe_call C__law_entry_of.ok hr (by rfl) C__law_entry_of.g C__law_entry_of.kp C__law_entry_of.b .nil pass0 (pa_cons (pv 6) pa_nil))))
      (pss_cons (ps_if (PW.pt (pw_or (pt_cmpR op_isN (pv 2) pe_non (nomark _)) (pw_or (pt_cmpR op_isN (pv 3) pe_non (nomark _)) (pw_or1 (pt_cmpR (op_inD h65) pe_non (pv 4) (by rfl)))))) (pss_one (ps_ret pe_non)) pss_nil)
      (pss_cons (ps_if (pt_cmpR (op_neD hr.units) (pe_lc (own := [("_law_one", 7)]) (g := gName 7) (by rfl) nd (pi_list (pv 4)) (blkOk_by (own := [("_law_one", 7)]) (N := nLBookOf) (sc := defScope sLBookOf) (by decide +kernel)) (fun _ _ _ _ _ => (pg_name (i := 7) nd rfl (.inl rfl))) (fun _ _ _ _ _ => pts_nil)
          (fun _ _ _ _ _ => (pe_ix (ix_tupK (K := K) (by rfl)) (pv 7) pe_int (fun _ _ => rfl)))) (pe_callB cr_sortedI (by rfl) m_sorted (by decide +kernel) (pa_cons (pe_lc (own := [("_law_one", 7)]) (g := gName 7) (by rfl) nd (pi_list (pv 4)) (blkOk_by (own := [("_law_one", 7)]) (N := nLBookOf) (sc := defScope sLBookOf) (by decide +kernel)) (fun _ _ _ _ _ => (pg_name (i := 7) nd rfl (.inl rfl))) (fun _ _ _ _ _ => pts_nil)
          (fun _ _ _ _ _ => (pe_ix (ix_tupK (K := K) (by rfl)) (pv 7) pe_int (fun _ _ => rfl)))) pa_nil)) (nomark _)) (pss_one (ps_ret pe_non)) pss_nil)
      (pss_cons (ps_set (i := 5) nd rfl (.inl rfl) (pe_tup (pa_cons (pv 2) (pa_cons (pv 3) (pa_cons (pe_callTy call_tuple_of (by rfl) m_tuple (by decide +kernel) (pa_cons (pv 4) pa_nil)) pa_nil)))))
      (pss_one (ps_ret (pe_ifExp (pt_val (pe_call C_is_book.ok hr (by rfl) C_is_book.g C_is_book.kp C_is_book.b .nil pass0 (pa_cons (pv 5) pa_nil))) (pv 5) pe_non))))))))), ?_⟩
    have grows := fun b (h : WB (.str x) b) => h.good.rows
    have hL := split_lens x ("\n" : Str) l_nl
    have hLa := asc_split tl_nl ha
    have hLn := split_ne x ("\n" : Str)
    refine ⟨_, rfl, rfl, x, _, rfl, rfl, by decide +kernel, by rw [sizeLine_eq]; omega, fun p0 np0 => ?_⟩
    generalize hLe : Txt.split x ("\n" : Str) = L at hL hLa hLn grows
    have s1 := same_new np0 (.lst (L.map V.str))
    have e1 : (upd H p0 (.lst (L.map V.str))) p0 = some (.lst (L.map V.str)) := upd_same
    generalize (upd H p0 (.lst (L.map V.str))) = H1 at s1 e1
    refine ⟨p0, rfl, ⟨_, SqL.of e1⟩, fun M1 nM1 => ?_⟩
    refine lc_newG (walk_list (xs := L.map V.str)) L (fun l t H => t ≠ M1 ∧ H t = some (.lst ((Txt.split l (" " : Str)).map V.str))) (fun y t H H' xs _ k o => ⟨o.1, k _ _ o.1 o.2⟩) (by rw [List.length_map]) (by omega) nM1 (fun H s => SqL.of (s _ _ e1)) ?_ ?_
    · rintro i y z H3 H4 hy s3 ⟨xs, hD⟩ ⟨rfl, hx1⟩ Q1 q1
      rw [List.getElem?_map, hy] at hx1
      injection hx1 with hx1
      subst hx1
      have my := hL.2 y (List.mem_of_getElem? hy)
      refine ⟨rfl, _, rfl, rfl, y, _, rfl, rfl, by decide +kernel, by rw [sizeLine_eq]; omega, fun t nt => ?_⟩
      exact q1 t _ (same_new nt _) ⟨(ne_of_none hD nt).symm, upd_same⟩
    intro H2 zr s2 eM hz hat
    have s02 := s1.trans s2
    refine ⟨_, rfl, M1, _, rfl, .inl (SqL.of eM), _, _, rfl, rfl, _, rfl, ?_⟩
    rw [List.length_map]
    match zr, hz, hat, eM with
    | [], hz, hat, eM => exact absurd hz.symm hLn
    | [z0], hz, hat, eM =>
      rw [decide_eq_true (show (([z0] : List (Addr × Str)).length : Int) < 2 from (by show (1 : Int) < 2; decide))]
      refine iteT (qn (fun b hb => ?_) H2 s02)
      have := grows b hb
      rw [← hz] at this
      unfold rowsT at this
      injection this with _ this
      cases this
    | z0 :: z1 :: zt, hz, hat, eM =>
    rw [decide_eq_false (show ¬ (((z0 :: z1 :: zt : List (Addr × Str)).length : Nat) : Int) < 2 by rw [List.length_cons, List.length_cons]; omega)]
    refine iteF ?_
    rw [← hz] at grows hL hLa
    have eM' : H2 M1 = some (.lst (.ref z0.1 :: .ref z1.1 :: zt.map fun z => V.ref z.1)) := eM
    have e0 := (hat z0 List.mem_cons_self).2
    have e1' := (hat z1 (List.mem_cons_of_mem _ List.mem_cons_self)).2
    have l0 := hL.2 z0.2 (by simp)
    have l1 := hL.2 z1.2 (by simp)
    have w0l := split_lens z0.2 (" " : Str) l_spc
    have w1l := split_lens z1.2 (" " : Str) l_spc
    have w0a := asc_split tl_spc (hLa z0.2 (by simp))
    have w1a := asc_split tl_spc (hLa z1.2 (by simp))
    have grow : ∀ b, WB (.str x) b → Txt.split z0.2 (" " : Str) = ("folk" : Str) :: (b.1.map fun q => perT q.1 q.2) ∧ Txt.split z1.2 (" " : Str) = [("age" : Str), intT b.2.1] ∧ (zt.map fun z => Txt.split z.2 (" " : Str)) = b.2.2.map wordsE := fun b hb => by
      have := grows b hb
      unfold rowsT at this
      injection this with g1 this
      injection this with g2 g3
      rw [List.map_map] at g3
      exact ⟨g1, g2, g3⟩
    obtain ⟨h0, w0, hw0⟩ : ∃ h0 w0, Txt.split z0.2 (" " : Str) = h0 :: w0 := by
      cases hc : Txt.split z0.2 (" " : Str) with
      | nil => exact absurd hc (split_ne _ _)
      | cons a r => exact ⟨a, r, rfl⟩
    obtain ⟨h1, w1, hw1⟩ : ∃ h1 w1, Txt.split z1.2 (" " : Str) = h1 :: w1 := by
      cases hc : Txt.split z1.2 (" " : Str) with
      | nil => exact absurd hc (split_ne _ _)
      | cons a r => exact ⟨a, r, rfl⟩
    rw [hw0] at e0 grow w0l w0a
    rw [hw1] at e1' grow w1l w1a
    refine ⟨_, rfl, M1, _, _, _, rfl, rfl, SqL.of eM', (atI_nat (j := 0) rfl), z0.1, _, _, _, rfl, rfl, SqL.of e0, (atI_nat (j := 0) rfl), rfl, _, rfl, ?_⟩
    by_cases hf : h0 = ("folk" : Str)
    rotate_left
    · rw [show decide (V.str h0 = V.str ("folk" : Str)) = false from decide_eq_false fun z => hf (by injection z)]
      refine iteT (qn (fun b hb => hf ?_) H2 s02)
      have := (grow b hb).1
      injection this
    subst hf
    rw [decide_eq_true rfl]
    refine iteF ?_
    refine ⟨_, rfl, M1, _, _, _, rfl, rfl, SqL.of eM', (atI_nat (j := 1) rfl), z1.1, _, _, _, rfl, rfl, SqL.of e1', (atI_nat (j := 0) rfl), rfl, _, rfl, ?_⟩
    by_cases hg : h1 = ("age" : Str)
    rotate_left
    · rw [show decide (V.str h1 = V.str ("age" : Str)) = false from decide_eq_false fun z => hg (by injection z)]
      refine iteT (qn (fun b hb => hg ?_) H2 s02)
      have := (grow b hb).2.1
      injection this
    subst hg
    rw [decide_eq_true rfl]
    refine iteF ?_
    refine ⟨_, rfl, M1, _, _, _, rfl, rfl, SqL.of eM', (atI_nat (j := 1) rfl), z1.1, _, rfl, .inl (SqL.of e1'), rfl, _, rfl, ?_⟩
    rw [List.length_map]
    by_cases h2 : w1.length = 1
    rotate_left
    · rw [show decide (V.int ((("age" : Str) :: w1).length : Nat) = V.int 2) = false from decide_eq_false fun z => h2 (by injection z with z; rw [List.length_cons] at z; omega)]
      refine iteT (qn (fun b hb => h2 ?_) H2 s02)
      have := (grow b hb).2.1
      injection this with _ this
      rw [this]
      rfl
    rw [show decide (V.int ((("age" : Str) :: w1).length : Nat) = V.int 2) = true from decide_eq_true (by rw [List.length_cons, h2]; rfl)]
    refine iteF ?_
    obtain ⟨na, rfl⟩ : ∃ na, w1 = [na] := by
      match w1, h2 with
      | [b], _ => exact ⟨b, rfl⟩
    have nal := w1l.2 na (by simp)
    have naa := w1a na (by simp)
    refine ⟨_, rfl, M1, _, _, _, rfl, rfl, SqL.of eM', (atI_nat (j := 0) rfl), _, rfl, ?_⟩
    dsimp only [tNoPart]
    refine ⟨z0.1, _, rfl, SqL.of e0, fun q4 nq4 => ?_⟩
    rw [show cutV ((("folk" : Str) :: w0).map V.str) (some 1) none = w0.map V.str from cutDrop V.str (("folk" : Str) :: w0) 1]
    have s4 := same_new nq4 (.lst (w0.map V.str))
    have e4 : (upd H2 q4 (.lst (w0.map V.str))) q4 = some (.lst (w0.map V.str)) := upd_same
    generalize (upd H2 q4 (.lst (w0.map V.str))) = H4 at s4 e4
    refine ⟨q4, w0, rfl, e4, by have := w0l.1; rw [List.length_cons] at this; omega, fun y hy => ⟨Nat.le_trans (w0l.2 y (by simp [hy])) (by omega), w0a y (by simp [hy])⟩, GO.of fun vf H5 s5 hvf => ?_⟩
    have s25 := s4.trans s5
    have eM5 := s25 _ _ eM'
    refine ⟨_, rfl, M1, _, _, _, rfl, rfl, SqL.of eM5, (atI_nat (j := 1) rfl), z1.1, _, _, _, rfl, rfl, SqL.of (s25 _ _ e1'), (atI_nat (j := 1) rfl), na, rfl, by omega, naa, NumV.of fun va H6 s6 hva => ?_⟩
    have s26 := s25.trans s6
    have eM6 := s6 _ _ eM5
    refine ⟨_, _, rfl, ?_⟩
    refine ⟨_, rfl, _, rfl, ?_⟩
    dsimp only [tNoPart]
    refine ⟨M1, _, rfl, SqL.of eM6, fun q6 nq6 => ?_⟩
    rw [show cutV (.ref z0.1 :: .ref z1.1 :: zt.map fun z => V.ref z.1) (some 2) none = zt.map fun z => V.ref z.1 from cutDrop (fun z : Addr × Str => V.ref z.1) (z0 :: z1 :: zt) 2]
    have s7 := same_new nq6 (.lst (zt.map fun z => V.ref z.1))
    have e7 : (upd H6 q6 (.lst (zt.map fun z => V.ref z.1))) q6 = some (.lst (zt.map fun z => V.ref z.1)) := upd_same
    generalize (upd H6 q6 (.lst (zt.map fun z => V.ref z.1))) = H7 at s7 e7
    have s27 := s26.trans s7
    have hzl : zt.length ≤ 601 := by
      have := hL.1
      rw [List.length_map, List.length_cons, List.length_cons] at this
      omega
    refine ⟨q6, rfl, ⟨_, SqL.of e7⟩, fun M8 nM8 => ?_⟩
    refine lc_newE (walk_list (xs := zt.map fun z => V.ref z.1)) (zt.map fun z => Txt.split z.2 (" " : Str)) (fun H y u => GOv (GoodE y) (fun e o H => EntAt H o e) u H) ?_ (by rw [List.length_map, List.length_map]) (by rw [List.length_map]; omega) nM8 (fun H s => SqL.of (s _ _ e7)) ?_ ?_
    · rintro y u H8 H9 xs hD k8 (⟨e, t, eu, he, ho⟩ | h)
      · exact .inl ⟨e, t, eu, he, ho.kp fun c xs' q => k8 _ _ (fun z => by rw [z, hD] at q; cases q) q⟩
      · exact .inr h
    · rintro i y z H8 H9 hy s8 _ ⟨rfl, hx1⟩ Q1 q1
      rw [List.getElem?_map] at hx1 hy
      cases hzi : zt[i]? with
      | none => rw [hzi] at hx1; cases hx1
      | some zz =>
      rw [hzi] at hx1 hy
      injection hx1 with hx1
      injection hy with hy
      subst hx1
      subst hy
      have mz := List.mem_of_getElem? hzi
      have ez := (hat zz (List.mem_cons_of_mem _ (List.mem_cons_of_mem _ mz))).2
      have mzz : zz.2 ∈ (z0 :: z1 :: zt).map (·.2) := by
        simp only [List.map_cons, List.mem_cons]
        exact .inr (.inr (List.mem_map_of_mem (f := (·.2)) mz))
      have lz := hL.2 zz.2 mzz
      have wl := split_lens zz.2 (" " : Str) l_spc
      have wa := asc_split tl_spc (hLa zz.2 mzz)
      refine ⟨rfl, _, rfl, zz.1, _, rfl, s8 _ _ (s27 _ _ ez), by omega, fun y hy => ⟨Nat.le_trans (wl.2 y hy) (by omega), wa y hy⟩, GO.of fun ve H10 s10 hve => ?_⟩
      exact q1 ve H10 s10 hve
    intro H8 zs s8 eM8 hzs hents
    have s28 := s27.trans s8
    have s08 : Same H H8 := s02.trans s28
    rcases hvf with ⟨ps, fk, rfl, hps, hfo⟩ | ⟨hno, rfl⟩
    rotate_left
    · refine ⟨_, rfl, rfl, _, rfl, ?_⟩
      refine iteT (qn (fun b hb => hno b.1 ⟨fun z => ?_, ?_⟩) H8 s08)
      · have := hb.2.1.n1
        rw [z] at this
        exact absurd this (by decide)
      · have := (grow b hb).1
        injection this
    refine ⟨_, rfl, rfl, _, rfl, ?_⟩
    refine iteF ?_
    have s58 := s6.trans (s7.trans s8)
    have hfo8 := hfo.kp (Same.tup s58)
    rcases hva with ⟨age, rfl, hna⟩ | ⟨hno, rfl⟩
    rotate_left
    · refine ⟨_, rfl, rfl, _, rfl, ?_⟩
      refine iteT (qn (fun b hb => hno b.2.1 ?_) H8 s08)
      have := (grow b hb).2.1
      injection this with _ this
      injection this
    refine ⟨_, rfl, rfl, _, rfl, ?_⟩
    refine iteF ?_
    obtain ⟨ds, hdp, hlay, hdep, hany⟩ := opt_list (K := K) (H := H8) (zs.map (·.1)) fun v hv => by
      obtain ⟨z, hm, rfl⟩ := List.mem_map.mp hv
      rcases hents z hm with ⟨e, t, eu, he, ho⟩ | ⟨_, eu⟩
      · rw [eu]
        exact optD_ent ho he.2
      · rw [eu]
        exact optD_non
    refine ⟨_, rfl, .none, ds, .non, .lst (SqL.of eM8) hdp, by decide, shaped_opt hlay hdep, _, rfl, ?_⟩
    rw [hany]
    cases hN : (zs.map (·.1)).any fun v => decide (v = V.non) with
    | true =>
      refine iteT (qn (fun b hb => ?_) H8 s08)
      obtain ⟨z, hm, hz0⟩ := List.mem_map.mp (any_non.mp hN)
      have hz2 : z.2 ∈ b.2.2.map wordsE := by
        rw [← (grow b hb).2.2, ← hzs]
        exact List.mem_map_of_mem (f := (·.2)) hm
      obtain ⟨e, he, ee⟩ := List.mem_map.mp hz2
      rcases hents z hm with ⟨e', t, eu, _, _⟩ | ⟨hne, _⟩
      · rw [hz0] at eu
        cases eu
      · exact hne e ⟨ee.symm, hb.2.1.act e he⟩
    | false =>
    refine iteF ?_
    obtain ⟨pz, g1, g2, g3⟩ := all_madeL (R := GoodE) (O := fun e t => EntAt H8 t e) hents (fun hm => by
      rw [any_non.mpr hm] at hN
      cases hN)
    obtain ⟨g4, g5⟩ := paired_entL g3
    rw [hzs] at g4
    have g5' : ∀ e ∈ ens pz, ActW e := g5
    have hrows : x = bookT ps age (ens pz) := by
      refine (rows_book fun e he => (g5' e he).word).mp ?_
      rw [hLe, ← hz, List.map_cons, List.map_cons, List.map_cons, List.map_cons, hw0, hw1, List.map_map]
      show _ :: _ :: (zt.map fun z => Txt.split z.2 (" " : Str)) = _
      rw [g4, hps.2, hna]
      rfl
    have only : ∀ b, WB (.str x) b → b = (ps, age, ens pz) := fun b hb => by
      have := hb.good.1
      rw [hrows] at this
      obtain ⟨q1, q2, q3⟩ := bookT_inj g5' hb.2.1.act this
      exact (Prod.ext q1 (Prod.ext q2 q3)).symm
    have hpl : pz.length = zt.length := by
      have := congrArg List.length g4
      rw [List.length_map, List.length_map, List.length_map] at this
      exact this.symm
    rw [g1] at eM8
    refine ⟨_, rfl, _, rfl, ⟨_, SqL.of eM8⟩, fun M9 nM9 => ?_⟩
    refine lc_sameM (walk_list (xs := pz.map fun z => V.ref z.1)) pz (fun z => .int z.2.num) (by rw [List.length_map]) (by omega) nM9 (fun H s => SqL.of (s _ _ eM8)) ?_ ?_
    · rintro i y z Ha Hb hy s3 ⟨rfl, hx1⟩ Q1 q1
      rw [List.getElem?_map, hy] at hx1
      injection hx1 with hx1
      subst hx1
      obtain ⟨xs, h1, h2, _⟩ := ((g2 y (List.mem_of_getElem? hy)).kp (Same.tup s3)).tup
      exact ⟨rfl, _, rfl, y.1, xs, 0, _, rfl, rfl, SqT.of h1, h2, q1 _ (same_refl _)⟩
    intro H9 s9 eM9
    have eM8' := s9 _ _ eM8
    refine ⟨_, rfl, _, rfl, ⟨_, SqL.of eM8'⟩, fun Ma nMa => ?_⟩
    refine lc_sameM (walk_list (xs := pz.map fun z => V.ref z.1)) pz (fun z => .int z.2.num) (by rw [List.length_map]) (by omega) nMa (fun H s => SqL.of (s _ _ eM8')) ?_ ?_
    · rintro i y z Ha Hb hy s3 ⟨rfl, hx1⟩ Q1 q1
      rw [List.getElem?_map, hy] at hx1
      injection hx1 with hx1
      subst hx1
      obtain ⟨xs, h1, h2, _⟩ := ((g2 y (List.mem_of_getElem? hy)).kp (Same.tup (s9.trans s3))).tup
      exact ⟨rfl, _, rfl, y.1, xs, 0, _, rfl, rfl, SqT.of h1, h2, q1 _ (same_refl _)⟩
    intro Ha sa eMa
    have enum : (pz.map fun z => V.int z.2.num) = ((ens pz).map (·.num)).map V.int := by
      rw [List.map_map, List.map_map]
      rfl
    rw [enum] at eM9 eMa
    refine ⟨Ma, _, rfl, SqL.of eMa, fun ns' pb pm so npb => ?_⟩
    have sb := same_new npb (.lst (ns'.map V.int))
    have eb : (upd Ha pb (.lst (ns'.map V.int))) pb = some (.lst (ns'.map V.int)) := upd_same
    generalize (upd Ha pb (.lst (ns'.map V.int))) = Hb at sb eb
    have s9b := sa.trans sb
    refine ⟨_, _, .lst (SqL.of (s9b _ _ eM9)) (dp_ints _), .lst (SqL.of eb) (dp_ints _), shaped_ints _, shaped_ints _, _, rfl, ?_⟩
    rw [eqv_ints]
    have s8b := s9.trans s9b
    have s0b : Same H Hb := s08.trans s8b
    by_cases hso : (ens pz).map (·.num) = ns'
    rotate_left
    · rw [decide_eq_false hso]
      refine iteT (qn (fun b hb => hso ?_) Hb s0b)
      have := hb.2.2
      rw [only b hb] at this
      refine sorted_eq ?_ pm so
      exact List.pairwise_map.mpr (this.imp fun h => Int.le_of_lt h)
    rw [decide_eq_true hso]
    refine iteF ?_
    rw [← hso] at so
    refine ⟨_, rfl, _, rfl, _, rfl, M8, _, rfl, .inl ⟨SqL.of (s8b _ _ eM8), fun tc ntc => ?_⟩⟩
    have sc := same_new ntc (.tup (pz.map fun z => V.ref z.1))
    have ec : (upd Hb tc (.tup (pz.map fun z => V.ref z.1))) tc = some (.tup (pz.map fun z => V.ref z.1)) := upd_same
    generalize (upd Hb tc (.tup (pz.map fun z => V.ref z.1))) = Hc at sc ec
    refine ⟨(by show 3 ≤ sizeLine; decide), fun o no => ?_⟩
    have sd := same_new no (.tup [.ref fk, .int age, .ref tc])
    have ed : (upd Hc o (.tup [.ref fk, .int age, .ref tc])) o = some (.tup [.ref fk, .int age, .ref tc]) := upd_same
    generalize (upd Hc o (.tup [.ref fk, .int age, .ref tc])) = Hd at sd ed
    have s8d := s8b.trans (sc.trans sd)
    have hO : PartsO (ps, age, ens pz) o Hd := ⟨fk, tc, pz, ed, hfo8.kp (Same.tup s8d), sd _ _ ec, rfl, fun z hz => (g2 z hz).kp (Same.tup s8d)⟩
    have s0d : Same H Hd := s08.trans s8d
    refine ⟨_, rfl, o, _, _, rfl, hO.tg, fun He se => ⟨_, rfl, ?_⟩⟩
    cases hib : isBookT (treeB ps age (ens pz)) with
    | false =>
      refine iteF (qn (fun b hb => ?_) He (s0d.trans se))
      have h3 := (isBook_iff g5').mpr (by have := hb.2.1; rw [only b hb] at this; exact this)
      rw [hib] at h3
      cases h3
    | true =>
      have hbk := (isBook_iff g5').mp hib
      refine iteT ⟨_, rfl, qg (ps, age, ens pz) o He ⟨by rw [hrows], hbk, le_lt_nd so hbk.ok.nd⟩ (s0d.trans se) (hO.kp (Same.tup se))⟩
end
end Deed

namespace Deed
open PySem PySem.Spec PyProof.Rows L2 LamX TL TX
/-- numbers, texts, None and tuples of such, n deep -/
def okT : Nat → Tg → Prop
  | _, .non => True
  | _, .int _ => True
  | _, .str _ => True
  | n + 1, .tup ts => ts.length ≤ 900 ∧ ∀ t ∈ ts, okT n t
  | _, _ => False
theorem okT.leaf {n : Nat} {t : Tg} (h : okT n t) (ht : t.isT = false) : t = .non ∨ (∃ i, t = .int i) ∨ ∃ x, t = .str x := by
  cases t with
  | non => exact .inl rfl
  | int i => exact .inr (.inl ⟨i, rfl⟩)
  | str x => exact .inr (.inr ⟨x, rfl⟩)
  | tup ts => cases ht
  | lst => cases n <;> exact h.elim
  | dct => cases n <;> exact h.elim
  | bl b => cases n <;> exact h.elim
section
variable {P : Program} {w : World} {K : PySem.W.Frag} {mg : Str → Option Value} {base : Heap} {T : List (Addr × Str)}
abbrev sLSame : Stmt := topS 64
abbrev nLSame : List Str := ["_law_one", "_law_other", "_law_a", "_law_b"]
abbrev pLSame : List Str := ["_law_one", "_law_other"]
theorem scLSame : FnScope nLSame pLSame (defScope sLSame) := ⟨rfl, rfl, rfl, by decide +kernel, rfl, by decide +kernel, by decide +kernel⟩
def spLSame (n : Nat) : Sp := fun vs H Q _ => ∃ (p1 p2 : Addr) (v1 v2 : V) (t : Tg), vs = [v1, v2] ∧ TgAt p1 H v1 t ∧ TgAt p2 H v2 t ∧ okT n t ∧ ∀ H', Same H H' → Q (.bl true) H'
theorem ok_LSame {f : Addr} {fd : FuncData} {k : Nat} (D : Df K mg "_law_same" sLSame pLSame f fd) (m_isinstance : mg "isinstance" = none) (m_tuple : mg "tuple" = none) (m_len : mg "len" = none) (m_zip : mg "zip" = none) (m_all : mg "all" = none) (m_bool : mg "bool" = none) : ∀ n : Nat, FnOk P w K mg base CX0 (k + n + 1) f fd pLSame (spLSame n) := by
  intro n
  induction n with
  | zero =>
    have F := D.F
    refine F.ok scLSame (fun vs H Q E h => ?_) (fun cdv A outer s H vs Q E hr h => ?_)
    · obtain ⟨p1, p2, v1, v2, t, rfl, _⟩ := h
      rfl
    · obtain ⟨p1, p2, v1, v2, t, rfl, h1, h2, ho, q⟩ := h
      have nd := scLSame.nd
      refine ⟨_, pss_cons (ps_if (PW.pt (pw_and (pt_val (pe_callB call_isi (by rfl) m_isinstance (by decide +kernel) (pa_cons (pv 0) (pa_cons (pe_bltn (v := .ty "tuple") (by rfl) m_tuple (by decide +kernel) rfl) pa_nil)))) (pw_and1 (pt_val (pe_callB call_isi (by rfl) m_isinstance (by decide +kernel) (pa_cons (pv 1) (pa_cons (pe_bltn (v := .ty "tuple") (by rfl) m_tuple (by decide +kernel) rfl) pa_nil))))))) pss_never pss_nil)
        (pss_cons (ps_if (pt_cmpR op_ne (pe_callB call_isi (by rfl) m_isinstance (by decide +kernel) (pa_cons (pv 0) (pa_cons (pe_bltn (v := .ty "bool") (by rfl) m_bool (by decide +kernel) rfl) pa_nil))) (pe_callB call_isi (by rfl) m_isinstance (by decide +kernel) (pa_cons (pv 1) (pa_cons (pe_bltn (v := .ty "bool") (by rfl) m_bool (by decide +kernel) rfl) pa_nil))) (nomark _)) pss_never pss_nil)
        (pss_one (ps_ret (pe_cmpR op_eq (pv 0) (pv 1) (nomark _))))), ?_⟩
      have hc : t.isT = false := by
        cases t <;> first | rfl | exact ho.elim
      refine ⟨_, rfl, _, _, .type t.ty, .type "tuple", t.isT, rfl, .ty "tuple", h1.ty, kit_ty t.kT, _, rfl, ?_⟩
      rw [hc]
      refine iteF ?_
      rcases ho.leaf hc with rfl | ⟨i, rfl⟩ | ⟨x, rfl⟩
      · cases h1
        cases h2
        refine ⟨_, rfl, _, _, .type "NoneType", .type "bool", false, rfl, .ty "bool", .base .non, kit_ty (by decide +kernel), _, rfl, _, _, .type "NoneType", .type "bool", false, rfl, .ty "bool", .base .non, kit_ty (by decide +kernel), rfl, _, rfl, ?_⟩
        refine iteF ?_
        exact ⟨_, rfl, _, rfl, rfl, q _ (same_refl _)⟩
      · cases h1
        cases h2
        refine ⟨_, rfl, _, _, .type "int", .type "bool", false, rfl, .ty "bool", .base (.int i), kit_ty (by decide +kernel), _, rfl, _, _, .type "int", .type "bool", false, rfl, .ty "bool", .base (.int i), kit_ty (by decide +kernel), rfl, _, rfl, ?_⟩
        refine iteF ?_
        refine ⟨_, rfl, _, rfl, rfl, ?_⟩
        rw [decide_eq_true rfl]
        exact q _ (same_refl _)
      · cases h1
        cases h2
        refine ⟨_, rfl, _, _, .type "str", .type "bool", false, rfl, .ty "bool", .base (.str x), kit_ty (by decide +kernel), _, rfl, _, _, .type "str", .type "bool", false, rfl, .ty "bool", .base (.str x), kit_ty (by decide +kernel), rfl, _, rfl, ?_⟩
        refine iteF ?_
        refine ⟨_, rfl, _, rfl, rfl, ?_⟩
        rw [decide_eq_true rfl]
        exact q _ (same_refl _)
  | succ n ih =>
    have F := D.F
    have C__law_same : CallOk P w K mg base (k + n + 1) "_law_same" pLSame (spLSame n) := D.call ih
    refine F.ok scLSame (fun vs H Q E h => ?_) (fun cdv A outer s H vs Q E hr h => ?_)
    · obtain ⟨p1, p2, v1, v2, t, rfl, _⟩ := h
      rfl
    · obtain ⟨p1, p2, v1, v2, t, rfl, h1, h2, ho, q⟩ := h
      have nd := scLSame.nd
      refine ⟨_, pss_cons (ps_if (PW.pt (pw_and (pt_val (pe_callB call_isi (by rfl) m_isinstance (by decide +kernel) (pa_cons (pv 0) (pa_cons (pe_bltn (v := .ty "tuple") (by rfl) m_tuple (by decide +kernel) rfl) pa_nil)))) (pw_and1 (pt_val (pe_callB call_isi (by rfl) m_isinstance (by decide +kernel) (pa_cons (pv 1) (pa_cons (pe_bltn (v := .ty "tuple") (by rfl) m_tuple (by decide +kernel) rfl) pa_nil))))))) (pss_one (ps_ret (pe_and (pe_cmpR op_eq (pe_callB call_len_seq (by rfl) m_len (by decide +kernel) (pa_cons (pv 0) pa_nil)) (pe_callB call_len_seq (by rfl) m_len (by decide +kernel) (pa_cons (pv 1) pa_nil)) (nomark _)) (pe_one (pe_callB (cr_all rfl) (by rfl) m_all (by decide +kernel) (pa_cons (pe_lc (own := [("_law_a", 2), ("_law_b", 3)]) (g := gTup K 2 (gCons (gName 2) (gCons (gName 3) gNil))) (by rfl) nd (pi_zipB false false (by rfl) m_zip (pa_cons (pv 0) (pa_cons (pv 1) pa_nil))) (blkOk_by (own := [("_law_a", 2), ("_law_b", 3)]) (N := nLSame) (sc := defScope sLSame) (by decide +kernel)) (fun _ _ _ _ _ => (pg_tup (by rfl) (pgs_cons (pg_name (i := 2) nd rfl (.inl rfl)) (pgs_cons (pg_name (i := 3) nd rfl (.inl rfl)) pgs_nil)))) (fun _ _ _ _ _ => pts_nil)
          (fun _ _ _ _ _ => (pe_call C__law_same.ok hr (by rfl) C__law_same.g C__law_same.kp C__law_same.b .nil pass0 (pa_cons (pv 2) (pa_cons (pv 3) pa_nil))))) pa_nil)))))) pss_nil)
        (pss_cons (ps_if (pt_cmpR op_ne (pe_callB call_isi (by rfl) m_isinstance (by decide +kernel) (pa_cons (pv 0) (pa_cons (pe_bltn (v := .ty "bool") (by rfl) m_bool (by decide +kernel) rfl) pa_nil))) (pe_callB call_isi (by rfl) m_isinstance (by decide +kernel) (pa_cons (pv 1) (pa_cons (pe_bltn (v := .ty "bool") (by rfl) m_bool (by decide +kernel) rfl) pa_nil))) (nomark _)) pss_never pss_nil)
        (pss_one (ps_ret (pe_cmpR op_eq (pv 0) (pv 1) (nomark _))))), ?_⟩
      cases hc : t.isT with
      | false =>
        refine ⟨_, rfl, _, _, .type t.ty, .type "tuple", t.isT, rfl, .ty "tuple", h1.ty, kit_ty t.kT, _, rfl, ?_⟩
        rw [hc]
        refine iteF ?_
        rcases ho.leaf hc with rfl | ⟨i, rfl⟩ | ⟨x, rfl⟩
        · cases h1
          cases h2
          refine ⟨_, rfl, _, _, .type "NoneType", .type "bool", false, rfl, .ty "bool", .base .non, kit_ty (by decide +kernel), _, rfl, _, _, .type "NoneType", .type "bool", false, rfl, .ty "bool", .base .non, kit_ty (by decide +kernel), rfl, _, rfl, ?_⟩
          refine iteF ?_
          exact ⟨_, rfl, _, rfl, rfl, q _ (same_refl _)⟩
        · cases h1
          cases h2
          refine ⟨_, rfl, _, _, .type "int", .type "bool", false, rfl, .ty "bool", .base (.int i), kit_ty (by decide +kernel), _, rfl, _, _, .type "int", .type "bool", false, rfl, .ty "bool", .base (.int i), kit_ty (by decide +kernel), rfl, _, rfl, ?_⟩
          refine iteF ?_
          refine ⟨_, rfl, _, rfl, rfl, ?_⟩
          rw [decide_eq_true rfl]
          exact q _ (same_refl _)
        · cases h1
          cases h2
          refine ⟨_, rfl, _, _, .type "str", .type "bool", false, rfl, .ty "bool", .base (.str x), kit_ty (by decide +kernel), _, rfl, _, _, .type "str", .type "bool", false, rfl, .ty "bool", .base (.str x), kit_ty (by decide +kernel), rfl, _, rfl, ?_⟩
          refine iteF ?_
          refine ⟨_, rfl, _, rfl, rfl, ?_⟩
          rw [decide_eq_true rfl]
          exact q _ (same_refl _)
      | true =>
        obtain ⟨a1, xs1, ts, rfl, rfl, ea1, hts1⟩ := h1.tupOf hc
        obtain ⟨a2, xs2, ts', rfl, ets, ea2, hts2⟩ := h2.tupOf hc
        injection ets with ets
        subst ets
        obtain ⟨hl, hall⟩ := ho
        have l1 := hts1.length
        have l2 := hts2.length
        refine ⟨_, rfl, _, _, .type "tuple", .type "tuple", true, rfl, .ty "tuple", .base (.tup ea1), kit_ty (by decide +kernel), _, rfl, ?_⟩
        refine iteT ?_
        refine ⟨_, rfl, _, _, .type "tuple", .type "tuple", true, rfl, .ty "tuple", .base (.tup ea2), kit_ty (by decide +kernel), _, rfl, ?_⟩
        refine iteT ?_
        refine ⟨_, rfl, a1, _, rfl, .inr (SqT.of ea1), _, rfl, a2, _, rfl, .inr (SqT.of ea2), rfl, _, rfl, ?_⟩
        rw [show decide (V.int (xs1.length : Nat) = V.int (xs2.length : Nat)) = true from decide_eq_true (by rw [l1, l2])]
        refine iteT ?_
        refine ⟨_, rfl, _, rfl, a1, a2, _, _, rfl, SqT.of ea1, SqT.of ea2, fun M1 nM1 => ?_⟩
        refine lc_sameM (walk_zipB (n := ts.length) (xs := xs1) (ys := xs2) l1 l2) ts (fun y => .bl true) rfl (by omega) nM1 (fun H s => ⟨SqT.of (s _ _ ea1), SqT.of (s _ _ ea2)⟩) ?_ ?_
        · rintro i y x1 H3 H4 hy s3 ⟨T1, w1, w2, rfl, nT, rfl, g1, g2⟩ Q1 q1
          have s4 := same_new nT (.tup [w1, w2])
          refine ⟨T1, _, rfl, SqT.of upd_same, rfl, _, _, rfl, _, _, rfl, rfl, ?_⟩
          refine ⟨rfl, _, rfl, _, rfl, p1, p2, w1, w2, y, rfl, TgAt.same (s3.trans s4) _ _ (hts1.at g1 hy), TgAt.same (s3.trans s4) _ _ (hts2.at g2 hy), hall y (List.mem_of_getElem? hy), fun H5 s5 => q1 H5 (s4.trans s5)⟩
        intro H2 s2 eM
        refine ⟨M1, ts.map (fun _ => true), rfl, SqL.of (by rw [eM, List.map_map]; rfl), ?_⟩
        rw [show (ts.map fun _ => true).all id = true from List.all_eq_true.mpr fun b hb => by
          obtain ⟨_, _, rfl⟩ := List.mem_map.mp hb
          rfl]
        exact q _ s2
theorem okT_ints (n : Nat) (ns : List Int) (h : ns.length ≤ 900) : okT (n + 1) (.tup (ns.map Tg.int)) := ⟨by rw [List.length_map]; exact h, fun t ht => by
  obtain ⟨i, _, rfl⟩ := List.mem_map.mp ht
  cases n <;> trivial⟩
theorem okT_book {ps : List (Int × Option Int)} {age : Int} {es : List En} (h : BkS ps age es) : okT 4 (treeB ps age es) := by
  refine ⟨by show 3 ≤ 900; decide, fun t ht => ?_⟩
  simp only [List.mem_cons, List.not_mem_nil, or_false] at ht
  rcases ht with rfl | rfl | rfl
  · refine ⟨by rw [List.length_map]; have := h.n6; omega, fun u hu => ?_⟩
    obtain ⟨q, _, rfl⟩ := List.mem_map.mp hu
    refine ⟨by show 2 ≤ 900; decide, fun z hz => ?_⟩
    simp only [List.mem_cons, List.not_mem_nil, or_false] at hz
    rcases hz with rfl | rfl
    · trivial
    · cases q.2 <;> trivial
  · trivial
  · refine ⟨by rw [List.length_map]; have := h.len; omega, fun u hu => ?_⟩
    obtain ⟨e, he, rfl⟩ := List.mem_map.mp hu
    have ho := (h.ok.ok e he).2.2.2
    unfold entT
    cases hk : e.kd with
    | deed g t rs ws =>
      rw [hk] at ho
      refine ⟨by show 9 ≤ 900; decide, fun z hz => ?_⟩
      simp only [List.mem_cons, List.not_mem_nil, or_false] at hz
      rcases hz with rfl | rfl | rfl | rfl | rfl | rfl | rfl | rfl | rfl
      · trivial
      · trivial
      · trivial
      · trivial
      · trivial
      · trivial
      · trivial
      · exact okT_ints 0 rs (by have := ho.2.2.2.1; omega)
      · exact okT_ints 0 ws (by have := ho.2.2.2.2.2.2.1; omega)
    | act x o =>
      refine ⟨by show 6 ≤ 900; decide, fun z hz => ?_⟩
      simp only [List.mem_cons, List.not_mem_nil, or_false] at hz
      rcases hz with rfl | rfl | rfl | rfl | rfl | rfl <;> trivial
abbrev sLReadSo : Stmt := topS 65
abbrev nLReadSo : List Str := ["_law_text", "_law_due", "_law_turn", "_law_found"]
abbrev pLReadSo : List Str := ["_law_text", "_law_due"]
theorem scLReadSo : FnScope nLReadSo pLReadSo (defScope sLReadSo) := ⟨rfl, rfl, rfl, by decide +kernel, rfl, by decide +kernel, by decide +kernel⟩
/-- the due of a text: its book, or None -/
def DueV (v d : V) (H : Hp) : Prop := GOv (WB v) PartsO d H
def spLReadSo (T : List (Addr × Str)) : Sp := fun vs H Q _ => ∃ v d : V, vs = [v, d] ∧ TextV H v ∧ DueV v d H ∧ Tabs T H ∧ ∀ H', ExtN H H' → Tabs T H' → Q (.bl true) H'
theorem TextV.ext {H H' : Hp} {v : V} (h : TextV H v) (k : ExtN H H') : TextV H' v := by
  rcases h with h | ⟨p, t, h, hs⟩
  · exact .inl h
  · exact .inr ⟨p, t, TgAt.ext k _ _ h, hs⟩
theorem WB.uniq {v : V} {b c : Bok} (h : WB v b) (h' : WB v c) : b = c := by
  obtain ⟨rfl, h2, _⟩ := h
  have e := h'.1
  injection e with e
  obtain ⟨q1, q2, q3⟩ := bookT_inj h2.act h'.2.1.act e
  exact Prod.ext q1 (Prod.ext q2 q3)
theorem ok_LReadSo {f CT : Addr} {fd : FuncData} {k : Nat} (F : Fun K "_law_read_so" "_law_read_so" sLReadSo f fd) (N : ExcCl K mg "NoText" CT) (C_book_read : CallX P w K mg base k "book_read" pBookRd (spBookRdA CT T)) (C__law_same : CallOk P w K mg base k "_law_same" pLSame (spLSame 4)) (m_range : mg "range" = none) : FnOk P w K mg base CX0 (k + 1) f fd pLReadSo (spLReadSo T) := by
  refine F.ok scLReadSo (fun vs H Q E h => ?_) (fun cdv A outer s H vs Q E hr h => ?_)
  · obtain ⟨v, d, rfl, _⟩ := h
    rfl
  · obtain ⟨v, d, rfl, hv, hd, hT, q⟩ := h
    have nd := scLReadSo.nd
    refine ⟨_, pss_cons (ps_for PassesOwn.never rfl (pi_range1 rfl m_range (pa_cons pe_int pa_nil)) (pg_name (i := 2) nd rfl (.inl rfl))
        (pss_cons (ps_set (i := 3) nd rfl (.inl rfl) pe_non)
      (pss_cons (ps_try_only rfl rfl ⟨rfl, by decide, .inl N.gP⟩ L2.takes0 (fun W pn xe tk _ => pss_one (ps_set (i := 3) nd rfl (.inl rfl) (pe_callS C_book_read.ok hr rfl C_book_read.g C_book_read.kp C_book_read.b (fun σ => passAt tk σ) (pa_cons (pv 0) pa_nil)))) (fun a oe cls d pn _ _ => pss_one (ps_set (i := 3) nd rfl (.inl rfl) pe_non)))
      (pss_one (ps_if (pt_not (pt_val (pe_call C__law_same.ok hr (by rfl) C__law_same.g C__law_same.kp C__law_same.b .nil pass0 (pa_cons (pv 3) (pa_cons (pv 1) pa_nil))))) (pss_one (ps_ret pe_bl)) pss_nil)))))
      (pss_one (ps_ret pe_bl)), ?_⟩
    refine ⟨_, rfl, by decide, by decide, ?_⟩
    refine for_range (lo := 0) (n := 2) (fun i σ H' => ∃ y2 y3, σ = [some v, some d, y2, y3] ∧ ExtN H H' ∧ Tabs T H') ⟨_, _, rfl, ExtN.refl _, hT⟩ ?_ ?_
    · rintro i σ H1 hi ⟨y2, y3, rfl, e1, T1⟩
      refine ⟨_, rfl, v, rfl, hv.ext e1, T1, fun b o H2 hb e2 T2 ho => ?_, fun hno H2 e2 T2 => ⟨true, N.eP, fun _ a ha => ?_, fun z => nomatch z⟩⟩
      · have e02 := e1.trans e2
        rcases hd with ⟨b', t, rfl, hb', ho'⟩ | ⟨hno, rfl⟩
        rotate_left
        · exact absurd hb (hno b)
        have eb := hb.uniq hb'
        subst eb
        refine ⟨_, rfl, _, rfl, 0, 0, _, _, _, rfl, ho.tg, (ho'.kp (ExtN.tup e02)).tg, okT_book hb.2.1, fun H3 s3 => ⟨_, rfl, ?_⟩⟩
        refine iteF ?_
        exact ⟨_, _, rfl, e02.trans (.of s3), T2.ext s3⟩
      · have e02 := e1.trans e2
        rcases hd with ⟨b', t, rfl, hb', ho'⟩ | ⟨_, rfl⟩
        · exact absurd hb' (hno b')
        refine ⟨_, rfl, _, rfl, 0, 0, _, _, .non, rfl, .non, .non, trivial, fun H3 s3 => ⟨_, rfl, ?_⟩⟩
        refine iteF ?_
        exact ⟨_, _, rfl, e02.trans (.of s3), T2.ext s3⟩
    · rintro σ H1 ⟨y2, y3, rfl, e1, T1⟩
      exact q H1 e1 T1
end
end Deed

namespace Deed
open PySem PySem.Spec PyProof.Rows L2 LamX TL TX
theorem catL {H : Hp} {a b : Addr} {xs ys : List V} {Q : VK} (ha : H a = some (.lst xs)) (hb : H b = some (.lst ys)) (hl : xs.length + ys.length ≤ 1000) (q : ∀ t H', Same H H' → H' t = some (.lst (xs ++ ys)) → Q (.ref t) H') : rCat (.ref a) (.ref b) H Q :=
  ⟨a, b, xs, ys, rfl, rfl, ha, hb, Nat.le_of_lt (small1000 hl), fun p np => q p _ (same_new np _) upd_same⟩
theorem slL {K : PySem.W.Frag} {H : Hp} {a : Addr} {xs : List V} {lo hi : Option Int} {Q : VK} (ha : H a = some (.lst xs)) (q : ∀ t H', Same H H' → H' t = some (.lst (cutV xs lo hi)) → Q (.ref t) H') : rSlL K (.ref a) lo hi H Q :=
  ⟨a, xs, rfl, SqL.of ha, fun p np => q p _ (same_new np _) upd_same⟩
theorem cutMid {α : Type} (f : α → V) (l : List α) (a b : Nat) : cutV (l.map f) (some (a : Int)) (some (b : Int)) = ((l.take b).drop a).map f := by
  unfold cutV
  rw [HT.sIx_nat, HT.sIx_nat, List.length_map, ← List.map_drop, ← List.map_take]
  congr 1
  rw [List.drop_take]
  rcases Nat.le_total a l.length with h | h
  · rw [Nat.min_eq_left h]
    rcases Nat.le_total b l.length with h2 | h2
    · rw [Nat.min_eq_left h2]
    · rw [Nat.min_eq_right h2, List.take_of_length_le (by rw [List.length_drop]; omega), List.take_of_length_le (by rw [List.length_drop]; omega)]
  · rw [Nat.min_eq_right h, List.drop_of_length_le (Nat.le_refl _), List.drop_of_length_le h, List.take_nil, List.take_nil]
/-- how long lines are, joined -/
def wt (L : List Str) : Nat := (L.map fun x => x.length + 1).sum
theorem wt_app (L M : List Str) : wt (L ++ M) = wt L + wt M := by
  unfold wt
  rw [List.map_append, List.sum_append]
theorem wt_split (L : List Str) (k : Nat) : wt (L.take k) + wt (L.drop k) = wt L := by
  rw [← wt_app, List.take_append_drop]
theorem wt_one (x : Str) : wt [x] = x.length + 1 := by
  unfold wt
  simp
theorem wt_drop (L : List Str) (k : Nat) : wt (L.drop k) ≤ wt L := by
  have := wt_split L k
  omega
theorem wt_le {m : Nat} : ∀ {L : List Str}, (∀ x ∈ L, x.length ≤ m) → wt L ≤ L.length * (m + 1)
  | [], _ => Nat.zero_le _
  | x :: r, h => by
    have h1 := h x List.mem_cons_self
    have h2 := wt_le (L := r) fun y hy => h y (List.mem_cons_of_mem _ hy)
    have e : wt (x :: r) = (x.length + 1) + wt r := by unfold wt; rw [List.map_cons, List.sum_cons]
    rw [e, List.length_cons, Nat.succ_mul]
    omega
theorem join_wt {y : Str} {s : Nat} (ey : tl y = [s]) : ∀ L : List Str, (Txt.join y L).length ≤ wt L := by
  intro L
  rw [len_tl, join_eq, tl_join, ey]
  induction L with
  | nil => exact Nat.zero_le _
  | cons x r ih =>
    have e : wt (x :: r) = (x.length + 1) + wt r := by unfold wt; rw [List.map_cons, List.sum_cons]
    rw [e, len_tl x]
    cases r with
    | nil =>
      show (tl x).length ≤ _
      omega
    | cons z r =>
      show (tl x ++ ([s] ++ joinL [s] ((z :: r).map tl))).length ≤ _
      rw [List.length_append, List.length_append]
      show (tl x).length + (1 + (joinL [s] ((z :: r).map tl)).length) ≤ _
      omega
theorem wt_text {x y : Str} (hy : y.length = 1) : wt (Txt.split x y) ≤ x.length + 1 := by
  have h := PyProof.Rows.split_weight x y (by omega)
  have e : ∀ L : List Str, wt L = (L.map (·.length)).sum + L.length := by
    intro L
    induction L with
    | nil => rfl
    | cons a r ih =>
      have e : wt (a :: r) = (a.length + 1) + wt r := by unfold wt; rw [List.map_cons, List.sum_cons]
      rw [e, ih, List.map_cons, List.sum_cons, List.length_cons]
      omega
  rw [e]
  exact h
theorem sum_wt : ∀ Z : List Str, (Z.map (·.length)).sum ≤ wt Z
  | [] => Nat.zero_le _
  | a :: r => by
    have e : wt (a :: r) = (a.length + 1) + wt r := by unfold wt; rw [List.map_cons, List.sum_cons]
    have := sum_wt r
    rw [e, List.map_cons, List.sum_cons]
    omega
theorem wt_set {L : List Str} {i : Nat} (hi : i < L.length) (z : Str) : wt (L.set i z) ≤ wt L + z.length + 1 := by
  rw [List.set_eq_take_append_cons_drop, if_pos hi, wt_app, show z :: L.drop (i + 1) = [z] ++ L.drop (i + 1) from rfl, wt_app, wt_one]
  have h1 := wt_split L i
  have h2 := wt_drop (L.drop i) 1
  rw [List.drop_drop] at h2
  omega
theorem mem_set {L : List Str} {i : Nat} {z y : Str} (h : y ∈ L.set i z) : y ∈ L ∨ y = z := List.mem_or_eq_of_mem_set h
theorem asc_join {y : Str} {s : Nat} (ey : tl y = [s]) (hs : s < 128) {L : List Str} (h : ∀ x ∈ L, asc x) : asc (Txt.join y L) := by
  intro c hc
  rcases Nat.lt_or_ge c 128 with h1 | h1
  · exact h1
  · exfalso
    refine join_free ey (c := c) (by omega) (fun p hp hm => ?_) hc
    have := h p hp c hm
    omega
theorem asc_app {x y : Str} (hx : asc x) (hy : asc y) : asc (x ++ y) := fun c hc => by
  rw [tl_append] at hc
  rcases List.mem_append.mp hc with h | h
  · exact hx c h
  · exact hy c h
theorem sl_to {x : Str} {v : Int} (h : 0 ≤ v) (ha : asc x) : asc (cutS x none (some v)) ∧ (cutS x none (some v)).length = min v.toNat x.length := by
  obtain ⟨n, rfl⟩ : ∃ n : Nat, v = n := ⟨v.toNat, by omega⟩
  refine ⟨fun c hc => ?_, ?_⟩
  · rw [tl_cutTo] at hc
    exact ha c (List.mem_of_mem_take hc)
  · rw [len_tl, tl_cutTo, List.length_take, ← len_tl, Int.toNat_natCast]
theorem sl_from {x : Str} {v : Int} (h : 0 ≤ v) (ha : asc x) : asc (cutS x (some v) none) ∧ (cutS x (some v) none).length = x.length - v.toNat := by
  obtain ⟨n, rfl⟩ : ∃ n : Nat, v = n := ⟨v.toNat, by omega⟩
  refine ⟨fun c hc => ?_, ?_⟩
  · rw [tl_cutFrom] at hc
    exact ha c (List.mem_of_mem_drop hc)
  · rw [len_tl, tl_cutFrom, List.length_drop, ← len_tl, Int.toNat_natCast]
section
variable {P : Program} {w : World} {K : PySem.W.Frag} {mg : Str → Option Value} {base : Heap} {T : List (Addr × Str)}
abbrev sLOneSign : Stmt := topS 62
abbrev nLOneSign : List Str := ["_law_pen_here", "_law_text", "_law_at", "_law_signs", "_law_sign", "_law_way"]
abbrev pLOneSign : List Str := ["_law_pen_here", "_law_text"]
theorem scLOneSign : FnScope nLOneSign pLOneSign (defScope sLOneSign) := ⟨rfl, rfl, rfl, by decide +kernel, rfl, by decide +kernel, by decide +kernel⟩
def spLOneSign : Sp := fun vs H Q _ => ∃ (p : Addr) (x : Str), vs = [.ref p, .str x] ∧ PenAt H p ∧ x.length ≤ 598 ∧ asc x ∧ ∀ y H', Kp p H H' → PenAt H' p → y.length ≤ x.length + 1 → asc y → Q (.str y) H'
theorem ok_LOneSign {f : Addr} {fd : FuncData} {k : Nat} (F : Fun K "_law_one_sign" "_law_one_sign" sLOneSign f fd) (C__law_draw : CallOk P w K mg base k "_law_draw" ["_law_pen_here", "_law_bound"] spDraw) (m_len : mg "len" = none) : FnOk P w K mg base CX0 (k + 1) f fd pLOneSign spLOneSign := by
  refine F.ok scLOneSign (fun vs H Q E h => ?_) (fun cdv A outer s H vs Q E hr h => ?_)
  · obtain ⟨p, x, rfl, _⟩ := h
    rfl
  · obtain ⟨p, x, rfl, hP, hl, ha, q⟩ := h
    have nd := scLOneSign.nd
    refine ⟨_, pss_cons (ps_set (i := 2) nd rfl (.inl rfl) (pe_call C__law_draw.ok hr (by rfl) C__law_draw.g C__law_draw.kp C__law_draw.b .nil pass0 (pa_cons (pv 0) (pa_cons (pe_op op_add (pe_callB call_len_str (by rfl) m_len (by decide +kernel) (pa_cons (pv 1) pa_nil)) pe_int) pa_nil))))
      (pss_cons (ps_set (i := 3) nd rfl (.inl rfl) pe_str)
      (pss_cons (ps_set (i := 4) nd rfl (.inl rfl) (pe_ix ix_str (pv 3) (pe_call C__law_draw.ok hr (by rfl) C__law_draw.g C__law_draw.kp C__law_draw.b .nil pass0 (pa_cons (pv 0) (pa_cons (pe_callB call_len_str (by rfl) m_len (by decide +kernel) (pa_cons (pv 3) pa_nil)) pa_nil))) (fun _ _ => rfl)))
      (pss_cons (ps_set (i := 5) nd rfl (.inl rfl) (pe_call C__law_draw.ok hr (by rfl) C__law_draw.g C__law_draw.kp C__law_draw.b .nil pass0 (pa_cons (pv 0) (pa_cons pe_int pa_nil))))
      (pss_cons (ps_if (pt_cmpR op_eq (pv 5) pe_int (nomark _)) (pss_one (ps_ret (pe_op op_add_str (pe_op op_add_str (pe_slice sl_str (pv 1) po_none (po_some (pv 2))) (pv 4)) (pe_slice sl_str (pv 1) (po_some (pv 2)) po_none)))) pss_nil)
      (pss_one (ps_ret (pe_op op_add_str (pe_op op_add_str (pe_slice sl_str (pv 1) po_none (po_some (pv 2))) (pe_ix ix_list (pe_lst (pa_cons pe_str (pa_cons (pv 4) pa_nil))) (pe_op op_sub (pv 5) pe_int) (fun _ _ => rfl))) (pe_slice sl_str (pv 1) (po_some (pe_op op_add (pv 2) pe_int)) po_none)))))))), ?_⟩
    have hsz : x.length ≤ sizeLine := by rw [sizeLine_eq]; omega
    generalize hsg : ("00123456789,,::--   adefginopuv\n\tA" : Str) = sg
    have lsg : sg.length = 34 := by rw [← hsg]; decide +kernel
    have asg : ∀ c ∈ tl sg, c < 128 := by rw [← hsg]; decide +kernel
    refine ⟨_, rfl, _, rfl, x, rfl, hsz, _, _, rfl, rfl, p, _, rfl, hP, by omega, by omega, fun v H1 k1 P1 v0 v1 => ?_⟩
    refine ⟨_, rfl, _, rfl, _, rfl, sg, rfl, by rw [lsg, sizeLine_eq]; decide, p, _, rfl, P1, by rw [lsg]; decide, by rw [lsg]; decide, fun j H2 k2 P2 j0 j1 => ?_⟩
    rw [lsg] at j1
    obtain ⟨c, hc⟩ : ∃ c, (tl sg)[j.toNat]? = some c := ⟨_, List.getElem?_eq_getElem (by rw [← len_tl, lsg]; omega)⟩
    have hat : atI (tl sg) j = some c := by
      have e : j = ((j.toNat : Nat) : Int) := by omega
      rw [e]
      exact atI_nat hc
    have hca : c < 128 := asg c (List.mem_of_getElem? hc)
    refine ⟨sg, j, c, rfl, rfl, by rw [lsg, sizeLine_eq]; decide, hat, ?_⟩
    refine ⟨_, rfl, p, 3, rfl, P2, by decide, by decide, fun way H3 k3 P3 w0 w1 => ?_⟩
    have k03 := k1.trans (k2.trans k3)
    have lone : (⟨#[c]⟩ : Str).length = 1 := rfl
    have aone : asc ⟨#[c]⟩ := fun d hd => by
      rw [List.mem_singleton.mp hd]
      exact hca
    obtain ⟨a1, l1⟩ := sl_to v0 ha
    obtain ⟨a2, l2⟩ := sl_from v0 ha
    obtain ⟨a3, l3⟩ := sl_from (v := v + 1) (by omega) ha
    refine ⟨_, rfl, rfl, _, rfl, ?_⟩
    refine ite2 (fun c1 => ?_) (fun c1 => ?_)
    · refine ⟨_, rfl, _, rfl, _, rfl, ?_⟩
      refine ⟨x, rfl, hsz, _, rfl, _, _, rfl, rfl, by rw [sizeLine_eq]; omega, _, rfl, _, rfl, _, rfl, ?_⟩
      dsimp only [tNoPart]
      refine ⟨x, rfl, hsz, _, _, rfl, rfl, by rw [len_app, sizeLine_eq]; omega, ?_⟩
      exact q _ H3 k03 P3 (by rw [len_app, len_app, l1, l2, lone]; omega) (asc_app (asc_app a1 aone) a2)
    · have hw : ¬ way = 0 := fun z => c1 (by rw [z]; rfl)
      refine ⟨_, rfl, _, rfl, _, rfl, ?_⟩
      refine ⟨x, rfl, hsz, _, rfl, (by show 2 ≤ sizeLine; decide), fun l4 nl4 => ?_⟩
      have e4 : (upd H3 l4 (.lst [.str ("" : Str), .str ⟨#[c]⟩])) l4 = some (.lst [.str ("" : Str), .str ⟨#[c]⟩]) := upd_same
      have k4 : Kp p H3 (upd H3 l4 (.lst [.str ("" : Str), .str ⟨#[c]⟩])) := Kp.new nl4 _
      have P4 := P3.new nl4 (.lst [.str ("" : Str), .str ⟨#[c]⟩])
      generalize (upd H3 l4 (.lst [.str ("" : Str), .str ⟨#[c]⟩])) = H4 at e4 k4 P4
      obtain ⟨u, gu, z, rfl, hz1, hz2⟩ := pick (xs := [.str ("" : Str), .str ⟨#[c]⟩]) (i := way - 1) (fun u => ∃ z : Str, u = .str z ∧ z.length ≤ 1 ∧ asc z) (by omega) (by show way - 1 < 2; omega) (fun u hu => by
        rcases List.mem_cons.mp hu with rfl | hu
        · exact ⟨_, rfl, by decide +kernel, fun d hd => by rw [show tl ("" : Str) = [] by decide +kernel] at hd; cases hd⟩
        · rw [List.mem_singleton.mp hu]
          exact ⟨_, rfl, by rw [lone]; decide, aone⟩)
      refine ⟨_, rfl, _, _, rfl, rfl, l4, _, _, _, rfl, rfl, SqL.of e4, gu, _, _, rfl, rfl, by rw [sizeLine_eq]; omega, _, rfl, _, rfl, _, _, rfl, rfl, _, rfl, ?_⟩
      refine ⟨x, rfl, hsz, _, _, rfl, rfl, by rw [len_app, sizeLine_eq]; omega, ?_⟩
      exact q _ H4 (k03.trans k4) P4 (by rw [len_app, len_app, l1, l3]; omega) (asc_app (asc_app a1 hz2) a3)
end
end Deed

namespace Deed
open PySem PySem.Spec PyProof.Rows L2 LamX TL TX
section
variable {P : Program} {w : World} {K : PySem.W.Frag} {mg : Str → Option Value} {base : Heap} {T : List (Addr × Str)}
abbrev sLOneRow : Stmt := topS 63
abbrev nLOneRow : List Str := ["_law_pen_here", "_law_text", "_law_rows", "_law_at", "_law_way", "_law_ahead", "_law_rest", "_law_words_here", "_law_to"]
abbrev pLOneRow : List Str := ["_law_pen_here", "_law_text"]
theorem scLOneRow : FnScope nLOneRow pLOneRow (defScope sLOneRow) := ⟨rfl, rfl, rfl, by decide +kernel, rfl, by decide +kernel, by decide +kernel⟩
def spLOneRow : Sp := fun vs H Q _ => ∃ (p : Addr) (x : Str), vs = [.ref p, .str x] ∧ PenAt H p ∧ x.length ≤ 400 ∧ asc x ∧ (∀ l ∈ Txt.split x ("\n" : Str), l.length ≤ 80) ∧ ∀ y H', Kp p H H' → PenAt H' p → y.length ≤ 590 → asc y → Q (.str y) H'
theorem ok_LOneRow {f : Addr} {fd : FuncData} {k : Nat} (F : Fun K "_law_one_row" "_law_one_row" sLOneRow f fd) (C__law_draw : CallOk P w K mg base k "_law_draw" ["_law_pen_here", "_law_bound"] spDraw) (m_len : mg "len" = none) : FnOk P w K mg base CX0 (k + 1) f fd pLOneRow spLOneRow := by
  refine F.ok scLOneRow (fun vs H Q E h => ?_) (fun cdv A outer s H vs Q E hr h => ?_)
  · obtain ⟨p, x, rfl, _⟩ := h
    rfl
  · obtain ⟨p, x, rfl, hP, hl, ha, hlines, q⟩ := h
    have nd := scLOneRow.nd
    refine ⟨_, pss_cons (ps_set (i := 2) nd rfl (.inl rfl) (pe_bm PySem.F.plainAttrs_str PySem.F.slot_str_split PySem.F.type_str_split mt_split (pv 1) (pa_cons pe_str pa_nil)))
      (pss_cons (ps_set (i := 3) nd rfl (.inl rfl) (pe_call C__law_draw.ok hr (by rfl) C__law_draw.g C__law_draw.kp C__law_draw.b .nil pass0 (pa_cons (pv 0) (pa_cons (pe_callB call_len_seq (by rfl) m_len (by decide +kernel) (pa_cons (pv 2) pa_nil)) pa_nil))))
      (pss_cons (ps_set (i := 4) nd rfl (.inl rfl) (pe_call C__law_draw.ok hr (by rfl) C__law_draw.g C__law_draw.kp C__law_draw.b .nil pass0 (pa_cons (pv 0) (pa_cons pe_int pa_nil))))
      (C8.pss_cut (ps_if (pt_cmpR op_eq (pv 4) pe_int (nomark _)) (pss_one (ps_set (i := 2) nd rfl (.inl rfl) (pe_op op_cat (pe_op op_cat (pe_slice sl_list (pv 2) po_none (po_some (pv 3))) (pe_lst (pa_cons (pe_ix ix_list (pv 2) (pv 3) (fun _ _ => rfl)) pa_nil))) (pe_slice sl_list (pv 2) (po_some (pv 3)) po_none)))) (pss_one (ps_if (pt_cmpR op_eq (pv 4) pe_int (nomark _)) (pss_one (ps_set (i := 2) nd rfl (.inl rfl) (pe_op op_cat (pe_slice sl_list (pv 2) po_none (po_some (pv 3))) (pe_slice sl_list (pv 2) (po_some (pe_op op_add (pv 3) pe_int)) po_none)))) (pss_one (ps_if (pt_cmpR op_eq (pv 4) pe_int (nomark _)) (pss_cons (ps_par (i := 5) (j := 6) (by rfl) nd rfl rfl (by decide) rfl rfl (pa_cons (pe_op op_cat (pe_slice sl_list (pv 2) po_none (po_some (pv 3))) (pe_slice sl_list (pv 2) (po_some (pe_op op_add (pv 3) pe_int)) (po_some (pe_op op_add (pv 3) pe_int)))) (pa_cons (pe_slice sl_list (pv 2) (po_some (pe_op op_add (pv 3) pe_int)) po_none) pa_nil)) (by rfl))
      (pss_one (ps_set (i := 2) nd rfl (.inl rfl) (pe_op op_cat (pe_op op_cat (pv 5) (pe_lst (pa_cons (pe_ix ix_list (pv 2) (pv 3) (fun _ _ => rfl)) pa_nil))) (pv 6))))) (pss_cons (ps_set (i := 7) nd rfl (.inl rfl) (pe_bm PySem.F.plainAttrs_str PySem.F.slot_str_split PySem.F.type_str_split mt_split (pe_ix ix_list (pv 2) (pv 3) (fun _ _ => rfl)) (pa_cons pe_str pa_nil)))
      (pss_cons (ps_set (i := 8) nd rfl (.inl rfl) (pe_call C__law_draw.ok hr (by rfl) C__law_draw.g C__law_draw.kp C__law_draw.b .nil pass0 (pa_cons (pv 0) (pa_cons (pe_callB call_len_seq (by rfl) m_len (by decide +kernel) (pa_cons (pv 7) pa_nil)) pa_nil))))
      (pss_one (ps_asg (pe_bm PySem.F.plainAttrs_str PySem.F.slot_str_join PySem.F.type_str_join mt_join pe_str (pa_cons (pe_op op_cat (pe_slice sl_list (pv 7) po_none (po_some (pv 8))) (pe_slice sl_list (pv 7) (po_some (pe_op op_add (pv 8) pe_int)) po_none)) pa_nil)) (pg_sub (pv 2) (pv 3) set_list))))))))))
      (pss_one (ps_ret (pe_bm PySem.F.plainAttrs_str PySem.F.slot_str_join PySem.F.type_str_join mt_join pe_str (pa_cons (pv 2) pa_nil))))))), ?_⟩
    have hLl := (split_lens x ("\n" : Str) l_nl).1
    have hLw := wt_text (x := x) l_nl
    have hLa := asc_split tl_nl ha
    have hLn := split_ne x ("\n" : Str)
    refine ⟨_, rfl, rfl, x, _, rfl, rfl, by decide +kernel, by rw [sizeLine_eq]; omega, fun p0 np0 => ?_⟩
    generalize hLe : Txt.split x ("\n" : Str) = L at hLl hLw hLa hLn hlines
    have k1 : Kp p H (upd H p0 (.lst (L.map V.str))) := Kp.new np0 _
    have P1 := hP.new np0 (.lst (L.map V.str))
    have e1 : (upd H p0 (.lst (L.map V.str))) p0 = some (.lst (L.map V.str)) := upd_same
    generalize (upd H p0 (.lst (L.map V.str))) = H1 at k1 P1 e1
    have n0p : p0 ≠ p := hP.free np0
    have hpos : 0 < L.length := List.length_pos_iff.mpr hLn
    refine ⟨_, rfl, _, rfl, p0, _, rfl, .inl (SqL.of e1), p, _, rfl, P1, by rw [List.length_map]; omega, by rw [List.length_map]; omega, fun v H2 k2 P2 v0 v1 => ?_⟩
    rw [List.length_map] at v1
    have e2 := k2 _ _ n0p e1
    refine ⟨_, rfl, p, 4, rfl, P2, by decide, by decide, fun way H3 k3 P3 w0 w1 => ?_⟩
    have e3 := k3 _ _ n0p e2
    have k03 := k1.trans (k2.trans k3)
    obtain ⟨vn, rfl⟩ : ∃ n : Nat, v = n := ⟨v.toNat, by omega⟩
    have hvn : vn < L.length := by omega
    have hgv : L[vn]? = some L[vn] := List.getElem?_eq_getElem hvn
    generalize hlv : L[vn] = lv at hgv
    have mlv : lv ∈ L := List.mem_of_getElem? hgv
    have lvl := hlines lv mlv
    have hat : atI (L.map V.str) (vn : Int) = some (.str lv) := atI_nat (by rw [List.getElem?_map, hgv]; rfl)
    have cTo : cutV (L.map V.str) none (some (vn : Int)) = (L.take vn).map V.str := by
      have := cutTake V.str L (v := (vn : Int)) (by omega)
      rw [Int.toNat_natCast] at this
      exact this
    have hwt := wt_split L vn
    refine ⟨fun σ' H' => ∃ (l2 : Addr) (M : List Str) (z5 z6 z7 z8 : Option V), (∃ z3 z4, σ' = [some (.ref p), some (.str x), some (.ref l2), z3, z4, z5, z6, z7, z8]) ∧ H' l2 = some (.lst (M.map V.str)) ∧ wt M ≤ 590 ∧ M.length ≤ 900 ∧ (∀ y ∈ M, asc y) ∧ Kp p H H' ∧ PenAt H' p, ?_, ?_⟩
    · refine ⟨_, rfl, rfl, _, rfl, ?_⟩
      refine ite2 (fun c1 => ?_) (fun c1 => ?_)
      · -- twice
        refine ⟨_, rfl, _, rfl, _, rfl, ?_⟩
        refine slL e3 fun a4 H4 s4 e4 => ?_
        rw [cTo] at e4
        refine ⟨_, rfl, _, rfl, p0, _, _, _, rfl, rfl, SqL.of (s4 _ _ e3), hat, (by show 1 ≤ sizeLine; decide), fun a5 na5 => ?_⟩
        have s5 := same_new na5 (.lst [.str lv])
        have e5 : (upd H4 a5 (.lst [.str lv])) a5 = some (.lst ([lv].map V.str)) := upd_same
        generalize (upd H4 a5 (.lst [.str lv])) = H5 at s5 e5
        refine catL (s5 _ _ e4) e5 (by rw [List.length_map, List.length_map, List.length_take]; show min vn L.length + 1 ≤ 1000; omega) fun a6 H6 s6 e6 => ?_
        rw [← List.map_append] at e6
        have s46 := s4.trans (s5.trans s6)
        refine ⟨_, rfl, _, rfl, _, rfl, ?_⟩
        dsimp only [tNoPart]
        refine slL (s46 _ _ e3) fun a7 H7 s7 e7 => ?_
        rw [cutDropG V.str L vn] at e7
        refine catL (s7 _ _ e6) e7 (by rw [List.length_map, List.length_map, List.length_append, List.length_take, List.length_drop]; show min vn L.length + 1 + (L.length - vn) ≤ 1000; omega) fun a8 H8 s8 e8 => ?_
        rw [← List.map_append] at e8
        have s38 := s46.trans (s7.trans s8)
        refine ⟨a8, _, _, _, _, _, ⟨_, _, rfl⟩, e8, ?_, ?_, fun y hy => ?_, k03.trans (Kp.same s38), ?_⟩
        · rw [wt_app, wt_app, wt_one]
          omega
        · rw [List.length_append, List.length_append, List.length_take, List.length_drop]
          show min vn L.length + 1 + (L.length - vn) ≤ 900
          omega
        · rcases List.mem_append.mp hy with hy | hy
          · rcases List.mem_append.mp hy with hy | hy
            · exact hLa y (List.mem_of_mem_take hy)
            · rw [List.mem_singleton.mp hy]
              exact hLa _ mlv
          · exact hLa y (List.mem_of_mem_drop hy)
        · obtain ⟨i1, i2, i3, i4, g1, g2⟩ := P3
          exact ⟨i1, i2, i3, i4, s38 _ _ g1, g2⟩
      refine ⟨_, rfl, rfl, _, rfl, ?_⟩
      refine ite2 (fun c2 => ?_) (fun c2 => ?_)
      · -- gone
        refine ⟨_, rfl, _, rfl, _, rfl, ?_⟩
        refine slL e3 fun a4 H4 s4 e4 => ?_
        rw [cTo] at e4
        refine ⟨_, rfl, _, rfl, _, _, rfl, rfl, _, rfl, ?_⟩
        dsimp only [tNoPart]
        refine slL (s4 _ _ e3) fun a7 H7 s7 e7 => ?_
        rw [show (vn : Int) + 1 = ((vn + 1 : Nat) : Int) by omega, cutDropG V.str L (vn + 1)] at e7
        refine catL (s7 _ _ e4) e7 (by rw [List.length_map, List.length_map, List.length_take, List.length_drop]; omega) fun a8 H8 s8 e8 => ?_
        rw [← List.map_append] at e8
        have s38 := s4.trans (s7.trans s8)
        have hd := wt_drop (L.drop vn) 1
        rw [List.drop_drop] at hd
        refine ⟨a8, _, _, _, _, _, ⟨_, _, rfl⟩, e8, ?_, ?_, fun y hy => ?_, k03.trans (Kp.same s38), ?_⟩
        · rw [wt_app]
          omega
        · rw [List.length_append, List.length_take, List.length_drop]
          omega
        · rcases List.mem_append.mp hy with hy | hy
          · exact hLa y (List.mem_of_mem_take hy)
          · exact hLa y (List.mem_of_mem_drop hy)
        · obtain ⟨i1, i2, i3, i4, g1, g2⟩ := P3
          exact ⟨i1, i2, i3, i4, s38 _ _ g1, g2⟩
      refine ⟨_, rfl, rfl, _, rfl, ?_⟩
      refine ite2 (fun c3 => ?_) (fun c3 => ?_)
      · -- exchanged
        refine ⟨_, rfl, _, rfl, _, rfl, ?_⟩
        refine slL e3 fun a4 H4 s4 e4 => ?_
        rw [cTo] at e4
        refine ⟨_, rfl, _, rfl, _, _, rfl, rfl, _, rfl, _, rfl, _, _, rfl, rfl, _, rfl, ?_⟩
        refine slL (s4 _ _ e3) fun a5 H5 s5 e5 => ?_
        rw [show (vn : Int) + 1 = ((vn + 1 : Nat) : Int) by omega, show (vn : Int) + 2 = ((vn + 2 : Nat) : Int) by omega, cutMid V.str L (vn + 1) (vn + 2)] at e5
        have hmid : ((L.take (vn + 2)).drop (vn + 1)).length ≤ 1 := by
          rw [List.length_drop, List.length_take]
          omega
        have mmid : ∀ y ∈ (L.take (vn + 2)).drop (vn + 1), y ∈ L := fun y hy => List.mem_of_mem_take (List.mem_of_mem_drop hy)
        have wmid := wt_le (L := (L.take (vn + 2)).drop (vn + 1)) (m := 80) fun y hy => hlines y (mmid y hy)
        generalize (L.take (vn + 2)).drop (vn + 1) = mid at e5 hmid mmid wmid
        refine catL (s5 _ _ e4) e5 (by rw [List.length_map, List.length_map, List.length_take]; omega) fun a6 H6 s6 e6 => ?_
        rw [← List.map_append] at e6
        have s36 := s4.trans (s5.trans s6)
        refine ⟨_, rfl, _, rfl, _, _, rfl, rfl, _, rfl, ?_⟩
        dsimp only [tNoPart]
        refine slL (s36 _ _ e3) fun a7 H7 s7 e7 => ?_
        rw [show (vn : Int) + 2 = ((vn + 2 : Nat) : Int) by omega, cutDropG V.str L (vn + 2)] at e7
        have s37 := s36.trans s7
        refine ⟨_, _, rfl, ?_⟩
        refine ⟨_, rfl, _, rfl, _, rfl, p0, _, _, _, rfl, rfl, SqL.of (s37 _ _ e3), hat, (by show 1 ≤ sizeLine; decide), fun a8 na8 => ?_⟩
        have s8 := same_new na8 (.lst [.str lv])
        have e8 : (upd H7 a8 (.lst [.str lv])) a8 = some (.lst ([lv].map V.str)) := upd_same
        generalize (upd H7 a8 (.lst [.str lv])) = H8 at s8 e8
        refine catL (s8 _ _ (s7 _ _ e6)) e8 (by rw [List.length_map, List.length_map, List.length_append, List.length_take]; show min vn L.length + mid.length + 1 ≤ 1000; omega) fun a9 H9 s9 e9 => ?_
        rw [← List.map_append] at e9
        refine ⟨_, rfl, ?_⟩
        refine catL e9 (s9 _ _ (s8 _ _ e7)) (by rw [List.length_map, List.length_map, List.length_append, List.length_append, List.length_take, List.length_drop]; show min vn L.length + mid.length + 1 + (L.length - (vn + 2)) ≤ 1000; omega) fun aa Ha sa ea => ?_
        rw [← List.map_append] at ea
        have s3a := s37.trans (s8.trans (s9.trans sa))
        have hd := wt_drop (L.drop vn) 2
        rw [List.drop_drop] at hd
        refine ⟨aa, _, _, _, _, _, ⟨_, _, rfl⟩, ea, ?_, ?_, fun y hy => ?_, k03.trans (Kp.same s3a), ?_⟩
        · rw [wt_app, wt_app, wt_app, wt_one]
          have : mid.length * (80 + 1) ≤ 81 := by omega
          omega
        · rw [List.length_append, List.length_append, List.length_append, List.length_take, List.length_drop]
          show min vn L.length + mid.length + 1 + (L.length - (vn + 2)) ≤ 900
          omega
        · rcases List.mem_append.mp hy with hy | hy
          · rcases List.mem_append.mp hy with hy | hy
            · rcases List.mem_append.mp hy with hy | hy
              · exact hLa y (List.mem_of_mem_take hy)
              · exact hLa y (mmid y hy)
            · rw [List.mem_singleton.mp hy]
              exact hLa _ mlv
          · exact hLa y (List.mem_of_mem_drop hy)
        · obtain ⟨i1, i2, i3, i4, g1, g2⟩ := P3
          exact ⟨i1, i2, i3, i4, s3a _ _ g1, g2⟩
      · -- a word less
        have hwl := (split_lens lv (" " : Str) l_spc).1
        have hww := wt_text (x := lv) l_spc
        have hwa := asc_split tl_spc (hLa lv mlv)
        have hwn := split_ne lv (" " : Str)
        refine ⟨_, rfl, _, rfl, p0, _, _, _, rfl, rfl, SqL.of e3, hat, rfl, lv, _, rfl, rfl, by decide +kernel, by rw [sizeLine_eq]; omega, fun a4 na4 => ?_⟩
        generalize hWe : Txt.split lv (" " : Str) = W at hwl hww hwa hwn
        have s4 := same_new na4 (.lst (W.map V.str))
        have e4 : (upd H3 a4 (.lst (W.map V.str))) a4 = some (.lst (W.map V.str)) := upd_same
        have n4p : a4 ≠ p := P3.free na4
        have P4 := P3.new na4 (.lst (W.map V.str))
        generalize (upd H3 a4 (.lst (W.map V.str))) = H4 at s4 e4 P4
        have hwpos : 0 < W.length := List.length_pos_iff.mpr hwn
        refine ⟨_, rfl, _, rfl, a4, _, rfl, .inl (SqL.of e4), p, _, rfl, P4, by rw [List.length_map]; omega, by rw [List.length_map]; omega, fun u H5 k5 P5 u0 u1 => ?_⟩
        rw [List.length_map] at u1
        obtain ⟨un, rfl⟩ : ∃ n : Nat, u = n := ⟨u.toNat, by omega⟩
        have e5 := k5 _ _ n4p e4
        have e53 := k5 _ _ n0p (s4 _ _ e3)
        refine ⟨rfl, _, rfl, _, rfl, _, rfl, ?_⟩
        refine slL e5 fun a6 H6 s6 e6 => ?_
        rw [show cutV (W.map V.str) none (some (un : Int)) = (W.take un).map V.str from by
          have := cutTake V.str W (v := (un : Int)) (by omega)
          rw [Int.toNat_natCast] at this
          exact this] at e6
        refine ⟨_, rfl, _, rfl, _, _, rfl, rfl, _, rfl, ?_⟩
        dsimp only [tNoPart]
        refine slL (s6 _ _ e5) fun a7 H7 s7 e7 => ?_
        rw [show (un : Int) + 1 = ((un + 1 : Nat) : Int) by omega, cutDropG V.str W (un + 1)] at e7
        refine catL (s7 _ _ e6) e7 (by rw [List.length_map, List.length_map, List.length_take, List.length_drop]; omega) fun a8 H8 s8 e8 => ?_
        rw [← List.map_append] at e8
        have s58 := s6.trans (s7.trans s8)
        have hd := wt_drop (W.drop un) 1
        rw [List.drop_drop] at hd
        have hwt2 := wt_split W un
        have hwn2 : wt (W.take un ++ W.drop (un + 1)) ≤ 81 := by
          rw [wt_app]
          omega
        have hwa2 : ∀ y ∈ W.take un ++ W.drop (un + 1), asc y := fun y hy => by
          rcases List.mem_append.mp hy with hy | hy
          · exact hwa y (List.mem_of_mem_take hy)
          · exact hwa y (List.mem_of_mem_drop hy)
        have hjl := join_wt tl_spc (W.take un ++ W.drop (un + 1))
        have hja := asc_join tl_spc (by decide) hwa2
        have hjs := sum_wt (W.take un ++ W.drop (un + 1))
        have hzl : (W.take un ++ W.drop (un + 1)).length ≤ 900 := by
          rw [List.length_append, List.length_take, List.length_drop]
          omega
        generalize hZ : W.take un ++ W.drop (un + 1) = Z at e8 hwn2 hjl hja hjs hzl
        refine ⟨(" " : Str), a8, Z, rfl, rfl, .inl (SqL.of e8), ?_, ?_⟩
        · rw [l_spc]
          omega
        have e83 := s58 _ _ e53
        have hix : ixN (L.map V.str).length (vn : Int) = some vn := by
          unfold ixN
          rw [List.length_map, if_pos (by omega), if_pos (by omega)]
          simp
        refine ⟨_, rfl, _, rfl, p0, _, _, vn, rfl, rfl, e83, hix, ?_⟩
        have n03 : H p0 = none := np0
        refine ⟨p0, L.set vn (Txt.join (" " : Str) Z), _, _, _, _, ⟨_, _, rfl⟩, by rw [upd_same, List.map_set], ?_, by rw [List.length_set]; omega, fun y hy => ?_, ?_, ?_⟩
        · have := wt_set hvn (Txt.join (" " : Str) Z)
          omega
        · rcases mem_set hy with hy | rfl
          · exact hLa y hy
          · exact hja
        · exact Kp.over (k03.trans ((Kp.same s4).trans (k5.trans (Kp.same s58)))) n03 _
        · obtain ⟨i1, i2, i3, i4, g1, g2⟩ := P5
          exact PenAt.put ⟨i1, i2, i3, i4, s58 _ _ g1, g2⟩ n0p _
    · rintro σ' H' ⟨l2, M, z5, z6, z7, z8, ⟨z3, z4, rfl⟩, eM, hw590, hM9, hMa, kM, PM⟩
      have hms := sum_wt M
      refine ⟨rfl, _, rfl, ("\n" : Str), l2, M, rfl, rfl, .inl (SqL.of eM), ?_, ?_⟩
      · rw [l_nl]
        omega
      · exact q _ H' kM PM (Nat.le_trans (join_wt tl_nl M) hw590) (asc_join tl_nl (by decide) hMa)
end
end Deed

namespace Deed
open PySem PySem.Spec PyProof.Rows L2 LamX TL TX
/-! ### a reader that runs -/
def numV (l : List Nat) : Option Int := if numA l = true then some (if l[0]? = some 45 then -((valL (l.drop 1) : Nat) : Int) else ((valL l : Nat) : Int)) else none
theorem valL_num (n : Nat) : valL (numL n) = n := by
  have hc : (numL n)[0]? ≠ some 48 ∨ numL n = [48] := by
    by_cases h : (numL n)[0]? = some 48
    · right
      rw [numL_first n h]
      decide
    · exact .inl h
  exact numL_inj (numL_valL _ (numL n) rfl (numL_ne n) (numL_digits n) hc).1
theorem numV_int : ∀ i : Int, numV (intL i) = some i
  | .ofNat n => by
    unfold numV
    rw [if_pos (numA_int _), if_neg, show intL (.ofNat n) = numL n from rfl, valL_num]
    · rfl
    · intro h
      have := numL_digits n 45 (List.mem_of_getElem? h)
      omega
  | .negSucc n => by
    unfold numV
    rw [if_pos (numA_int _), if_pos (show (intL (.negSucc n))[0]? = some 45 from rfl), show (intL (.negSucc n)).drop 1 = numL (n + 1) from rfl, valL_num]
    rfl
def optAll {α : Type} : List (Option α) → Option (List α)
  | [] => some []
  | none :: _ => none
  | some a :: r => (optAll r).map (a :: ·)
theorem optAll_some {α β : Type} {f : α → Option β} {g : β → α} (h : ∀ b, f (g b) = some b) : ∀ l : List β, optAll ((l.map g).map f) = some l
  | [] => rfl
  | b :: r => by
    rw [List.map_cons, List.map_cons, h b]
    show (optAll ((r.map g).map f)).map (b :: ·) = _
    rw [optAll_some h r]
    rfl
theorem optAll_on {α β : Type} {f : α → Option β} {g : β → α} : ∀ {l : List β}, (∀ b ∈ l, f (g b) = some b) → optAll ((l.map g).map f) = some l
  | [], _ => rfl
  | b :: r, h => by
    rw [List.map_cons, List.map_cons, h b List.mem_cons_self]
    show (optAll ((r.map g).map f)).map (b :: ·) = _
    rw [optAll_on fun x hx => h x (List.mem_cons_of_mem _ hx)]
    rfl
def rowV (l : List Nat) : Option (List Int) := if l = [45] then some [] else optAll ((spl [44] 0 [] l).map numV)
theorem rowV_row (ns : List Int) : rowV (tl (rowT ns)) = some ns := by
  unfold rowV
  by_cases h : ns = []
  · rw [h, rowT_nil, tl_dash, if_pos rfl]
  · rw [rowT_ne h, if_neg, join_eq, tl_join, tl_com, spl_join (by simp [h]) fun p hp => ?_, List.map_map, List.map_map]
    · refine (congrArg optAll (List.map_congr_left (g := fun i => some i) fun i _ => ?_)).trans ?_
      · show numV (tl (intT i)) = some i
        rw [tl_int]
        exact numV_int i
      · have := optAll_some (f := fun i : Int => some i) (g := fun i => i) (fun _ => rfl) ns
        rw [List.map_id'] at this
        exact this
    · obtain ⟨z, hz, rfl⟩ := List.mem_map.mp hp
      obtain ⟨i, _, rfl⟩ := List.mem_map.mp hz
      rw [tl_int]
      exact intL_free (by decide) (by decide)
    · intro z
      exact row_dash h (ext_str (z.trans tl_dash.symm))
def perV (l : List Nat) : Option (Int × Option Int) := match spl [58] 0 [] l with
  | [u, v] => match numV u, (if v = [45] then some none else (numV v).map some) with
    | some b, some d => some (b, d)
    | _, _ => none
  | _ => none
theorem perV_per (b : Int) (d : Option Int) : perV (tl (perT b d)) = some (b, d) := by
  have h1 : spl [58] 0 [] (tl (perT b d)) = [intL b, tl (restT d)] := by
    have h2 := congrArg (List.map tl) (per_split b d)
    rw [split_spl (perT b d) (":" : Str) (by rw [tl_col]; simp) (kind_ok k_col), tl_col] at h2
    rw [h2]
    show [tl (intT b), tl (restT d)] = _
    rw [tl_int]
  unfold perV
  rw [h1]
  show (match numV (intL b), (if tl (restT d) = [45] then some none else (numV (tl (restT d))).map some) with | some b, some d => some (b, d) | _, _ => none) = _
  rw [numV_int]
  cases d with
  | none =>
    rw [if_pos (show tl (restT none) = [45] from tl_dash)]
  | some i =>
    rw [if_neg (show ¬ tl (restT (some i)) = [45] from fun z => intL_dash i (by rw [← tl_int]; exact z)), show tl (restT (some i)) = intL i from tl_int i, numV_int]
    rfl
def wD : List Nat := tl ("deed" : Str)
def entV : List (List Nat) → Option En
  | [a, b, c, d, x, g, t, r, u] => if x = wD then (match numV a, numV b, numV c, numV d, numV g, numV t, rowV r, rowV u with
    | some a, some b, some c, some d, some g, some t, some r, some u => some ⟨a, b, c, d, .deed g t r u⟩
    | _, _, _, _, _, _, _, _ => none) else none
  | [a, b, c, d, x, o] => match numV a, numV b, numV c, numV d, numV o with
    | some a, some b, some c, some d, some o => some ⟨a, b, c, d, .act ⟨x.toArray⟩ o⟩
    | _, _, _, _, _ => none
  | _ => none
theorem entV_ent (e : En) : entV ((wordsE e).map tl) = some e := by
  obtain ⟨n, d, w, a, k⟩ := e
  cases k with
  | deed g t rs ws =>
    show (if tl ("deed" : Str) = wD then (match numV (tl (intT n)), numV (tl (intT d)), numV (tl (intT w)), numV (tl (intT a)), numV (tl (intT g)), numV (tl (intT t)), rowV (tl (rowT rs)), rowV (tl (rowT ws)) with
      | some a, some b, some c, some d, some g, some t, some r, some u => some (⟨a, b, c, d, .deed g t r u⟩ : En)
      | _, _, _, _, _, _, _, _ => none) else none) = _
    rw [if_pos (show tl ("deed" : Str) = wD from rfl), tl_int, tl_int, tl_int, tl_int, tl_int, tl_int, numV_int, numV_int, numV_int, numV_int, numV_int, numV_int, rowV_row, rowV_row]
  | act x o =>
    show (match numV (tl (intT n)), numV (tl (intT d)), numV (tl (intT w)), numV (tl (intT a)), numV (tl (intT o)) with
      | some a, some b, some c, some d, some o => some (⟨a, b, c, d, .act ⟨(tl x).toArray⟩ o⟩ : En)
      | _, _, _, _, _ => none) = _
    rw [tl_int, tl_int, tl_int, tl_int, tl_int, numV_int, numV_int, numV_int, numV_int, numV_int]
def bookV (l : List Nat) : Option Bok := match (spl [10] 0 [] l).map (spl [32] 0 []) with
  | (f :: ps) :: [a, n] :: es => if f = tl ("folk" : Str) ∧ a = tl ("age" : Str) then (match optAll (ps.map perV), numV n, optAll (es.map entV) with
    | some p, some g, some e => some (p, g, e)
    | _, _, _ => none) else none
  | _ => none
theorem bookV_book {b : Bok} (hw : ∀ e ∈ b.2.2, ActW e) : bookV (tl (bookT b.1 b.2.1 b.2.2)) = some b := by
  have hr := (rows_book (x := bookT b.1 b.2.1 b.2.2) fun e he => (hw e he).word).mpr rfl
  have h1 : (spl [10] 0 [] (tl (bookT b.1 b.2.1 b.2.2))).map (spl [32] 0 []) = (rowsT b.1 b.2.1 b.2.2).map (List.map tl) := by
    have g1 := split_spl (bookT b.1 b.2.1 b.2.2) ("\n" : Str) (by rw [tl_nl]; simp) (kind_ok k_nl)
    rw [tl_nl] at g1
    rw [← g1, ← hr, List.map_map, List.map_map]
    refine List.map_congr_left fun l _ => ?_
    have g2 := split_spl l (" " : Str) (by rw [tl_spc]; simp) (kind_ok k_spc)
    rw [tl_spc] at g2
    exact g2.symm
  unfold bookV
  rw [h1]
  unfold rowsT
  show (if tl ("folk" : Str) = tl ("folk" : Str) ∧ tl ("age" : Str) = tl ("age" : Str) then (match optAll (((b.1.map fun q => perT q.1 q.2).map tl).map perV), numV (tl (intT b.2.1)), optAll (((b.2.2.map wordsE).map (List.map tl)).map entV) with
    | some p, some g, some e => some (p, g, e)
    | _, _, _ => none) else none) = _
  rw [if_pos ⟨rfl, rfl⟩, tl_int, numV_int, List.map_map (g := tl), List.map_map (g := List.map tl)]
  rw [optAll_some (f := perV) (g := tl ∘ fun q : Int × Option Int => perT q.1 q.2) (fun q => perV_per q.1 q.2), optAll_some (f := entV) (g := List.map tl ∘ wordsE) (fun e => entV_ent e)]
def upB : List En → Bool
  | [] => true
  | e :: r => (r.all fun u => decide (e.num < u.num)) && upB r
def isB (x : Str) : Bool := match bookV (tl x) with
  | some b => isBookT (treeB b.1 b.2.1 b.2.2) && upB b.2.2
  | none => false
theorem upB_of {es : List En} (h : upE es) : upB es = true := by
  induction es with
  | nil => rfl
  | cons e r ih =>
    have h := List.pairwise_cons.mp h
    show ((r.all fun u => decide (e.num < u.num)) && upB r) = true
    rw [ih h.2, Bool.and_true, List.all_eq_true]
    exact fun u hu => decide_eq_true (h.1 u hu)
theorem isB_of {x : Str} {b : Bok} (h : WB (.str x) b) : isB x = true := by
  have e := h.good.1
  have ha := h.2.1.act
  unfold isB
  rw [e, bookV_book ha]
  show (isBookT (treeB b.1 b.2.1 b.2.2) && upB b.2.2) = true
  rw [(isBook_iff ha).mpr h.2.1, upB_of h.2.2]
  rfl
def noneB (x : Str) : Bool := !isB x && (decide (x.length ≤ 600) && (tl x).all fun c => decide (c < 128))
theorem noneB_ok {x : Str} (h : noneB x = true) : (∀ b, ¬ WB (.str x) b) ∧ x.length ≤ 600 ∧ asc x := by
  unfold noneB at h
  rw [Bool.and_eq_true, Bool.and_eq_true, Bool.not_eq_true', decide_eq_true_eq, List.all_eq_true] at h
  refine ⟨fun b hb => ?_, h.2.1, fun c hc => of_decide_eq_true (h.2.2 c hc)⟩
  rw [isB_of hb] at h
  cases h.1
def hd82 : Str := "folk 0:- 0:9\nage 3"
def dd82 : Str := "0 0 0 0 deed 0 1 - -"
def wr82 : List Str := (([("" : Str), "folk", "folk 0:-", "folk\nage 0", "folk 0:-\nage", "folk 0:-\nage 10000", "folk 0:-\nage -1"] ++ (["folk 0:-\nage 0\n", " folk 0:-\nage 0", "folk 0:- \nage 0", "folk 00:-\nage 0"] : List Str)) ++ (["Folk 0:-\nage 0", "folk -0:-\nage 0", "folk 0:0\nage 0", "folk 0\nage 0"] : List Str)) ++ (["folk 0:1:2\nage 0", "age 0\nfolk 0:-"] : List Str)
def ro82 : List Str := (((([("0 0 0 0 deed 0 0 - -" : Str), "0 0 0 0 deed 0 2 - -", "0 0 0 0 deed 0 1 0 -", "0 0 0 0 deed 0 1 - 0"] ++ (["0 0 0 0 paid 0", "0 0 0 4 deed 0 1 - -", "31 0 0 0 deed 0 1 - -", "0 0 0 0 deed 0 1  -"] : List Str)) ++ ([dd82 ++ (" -" : Str)] : List Str)) ++ [((("1" : Str) ++ cutS dd82 (some 1) none) ++ ("\n" : Str)) ++ dd82, dd82 ++ ("\n1 0 0 0 undone 0" : Str), "0 0 0 0 Deed 0 1 - -"]) ++ [dd82 ++ ("\n0 1 0 0 paid 0" : Str), dd82 ++ ("\n1 0 0 0 paid 1" : Str), "0 0 0 0 deed 0 1 - ,"])
def al82 : List Str := wr82 ++ ro82.map fun r => (hd82 ++ ("\n" : Str)) ++ r
theorem al82_none : al82.all noneB = true := by decide +kernel
theorem ro82_len : ro82.length = 15 ∧ (∀ r ∈ ro82, r.length ≤ 60) ∧ wr82.length = 17 := by decide +kernel
end Deed

namespace Deed
open PySem PySem.Spec PyProof.Rows L2 LamX TL TX
theorem lenS : ∀ {x : Str}, x ∈ al82 → x.length ≤ 600 := fun {x} h => (noneB_ok (List.all_eq_true.mp al82_none x h)).2.1
def ro9 : List Str := ([("0 0 0 0 deed 0 0 - -" : Str), "0 0 0 0 deed 0 2 - -", "0 0 0 0 deed 0 1 0 -", "0 0 0 0 deed 0 1 - 0"] ++ (["0 0 0 0 paid 0", "0 0 0 4 deed 0 1 - -", "31 0 0 0 deed 0 1 - -", "0 0 0 0 deed 0 1  -"] : List Str)) ++ ([dd82 ++ (" -" : Str)] : List Str)
def b82 : Bok := ([(0, none), (0, some 9)], 3, [])
theorem b82_ok : WB (.str hd82) b82 := by
  refine ⟨by rw [show bookT b82.1 b82.2.1 b82.2.2 = hd82 from by decide +kernel], ⟨by decide, by decide, fun q hq => ?_, by decide, by decide, by decide, ⟨List.nodup_nil, (fun _ h => (nomatch h)), (fun _ h => (nomatch h))⟩⟩, .nil⟩
  rcases List.mem_cons.mp hq with rfl | hq
  · exact ⟨by decide, by decide, fun i z => nomatch z⟩
  · rw [List.mem_singleton.mp hq]
    refine ⟨by decide, by decide, fun i z => ?_⟩
    injection z with z
    subst z
    exact ⟨by decide, by decide⟩
theorem catLn {H : Hp} {a b : Addr} {xs ys : List V} {Q : VK} (ha : H a = some (.lst xs)) (hb : H b = some (.lst ys)) (hl : xs.length + ys.length ≤ 1000) (q : ∀ t H', Same H H' → H t = none → H' t = some (.lst (xs ++ ys)) → Q (.ref t) H') : rCat (.ref a) (.ref b) H Q :=
  ⟨a, b, xs, ys, rfl, rfl, ha, hb, Nat.le_of_lt (small1000 hl), fun p np => q p _ (same_new np _) np upd_same⟩
section
variable {P : Program} {w : World} {K : PySem.W.Frag} {mg : Str → Option Value} {base : Heap} {T : List (Addr × Str)}
abbrev sLWrittenSo : Stmt := topS 73
abbrev nLWrittenSo : List Str := ["_law_head", "_law_wrong", "_law_deed_here", "_law_rows", "_law_text", "_law_row_here"]
abbrev pLWrittenSo : List Str := []
theorem scLWrittenSo : FnScope nLWrittenSo pLWrittenSo (defScope sLWrittenSo) := ⟨rfl, rfl, rfl, by decide +kernel, rfl, by decide +kernel, by decide +kernel⟩
def spLWrittenSo (T : List (Addr × Str)) : Sp := fun vs H Q _ => vs = [] ∧ Tabs T H ∧ ∀ H', ExtN H H' → Tabs T H' → Q (.bl true) H'
theorem ok_LWrittenSo {f : Addr} {fd : FuncData} {k : Nat} (F : Fun K "_law_written_so" "_law_written_so" sLWrittenSo f fd) (C__law_book_of : CallOk P w K mg base k "_law_book_of" pLBookOf spLBookOf) (C__law_read_so : CallOk P w K mg base k "_law_read_so" pLReadSo (spLReadSo T)) : FnOk P w K mg base CX0 (k + 1) f fd pLWrittenSo (spLWrittenSo T) := by
  refine F.ok scLWrittenSo (fun vs H Q E h => ?_) (fun cdv A outer s H vs Q E hr h => ?_)
  · obtain ⟨rfl, _⟩ := h
    rfl
  · obtain ⟨rfl, hT, q⟩ := h
    have nd := scLWrittenSo.nd
    refine ⟨_, pss_cons (ps_set (i := 0) nd rfl (.inr rfl) pe_str)
      (pss_cons (ps_set (i := 1) nd rfl (.inl rfl) (pe_lst (pa_cons pe_str (pa_cons pe_str (pa_cons pe_str (pa_cons pe_str (pa_cons pe_str (pa_cons pe_str (pa_cons pe_str pa_nil)))))))))
      (pss_cons (ps_set (i := 1) nd rfl (.inl rfl) (pe_op op_cat (pv 1) (pe_lst (pa_cons pe_str (pa_cons pe_str (pa_cons pe_str (pa_cons pe_str pa_nil)))))))
      (pss_cons (ps_set (i := 1) nd rfl (.inl rfl) (pe_op op_cat (pv 1) (pe_lst (pa_cons pe_str (pa_cons pe_str (pa_cons pe_str (pa_cons pe_str pa_nil)))))))
      (pss_cons (ps_set (i := 1) nd rfl (.inl rfl) (pe_op op_cat (pv 1) (pe_lst (pa_cons pe_str (pa_cons pe_str pa_nil)))))
      (pss_cons (ps_set (i := 2) nd rfl (.inl rfl) pe_str)
      (pss_cons (ps_set (i := 3) nd rfl (.inl rfl) (pe_lst (pa_cons pe_str (pa_cons pe_str (pa_cons pe_str (pa_cons pe_str pa_nil))))))
      (pss_cons (ps_set (i := 3) nd rfl (.inl rfl) (pe_op op_cat (pv 3) (pe_lst (pa_cons pe_str (pa_cons pe_str (pa_cons pe_str (pa_cons pe_str pa_nil)))))))
      (pss_cons (ps_expr (pe_bm PySem.F.plainAttrs_list PySem.F.slot_list_append PySem.F.type_list_append mt_append (pv 3) (pa_cons (pe_op op_add_str (pv 2) pe_str) pa_nil)))
      (pss_cons (ps_set (i := 3) nd rfl (.inl rfl) (pe_op op_cat (pv 3) (pe_lst (pa_cons (pe_op op_add_str (pe_op op_add_str (pe_op op_add_str pe_str (pe_slice sl_str (pv 2) (po_some pe_int) po_none)) pe_str) (pv 2)) (pa_cons (pe_op op_add_str (pv 2) pe_str) (pa_cons pe_str pa_nil))))))
      (pss_cons (ps_set (i := 3) nd rfl (.inl rfl) (pe_op op_cat (pv 3) (pe_lst (pa_cons (pe_op op_add_str (pv 2) pe_str) (pa_cons (pe_op op_add_str (pv 2) pe_str) (pa_cons pe_str pa_nil))))))
      (pss_cons (ps_for PassesOwn.never rfl (pi_list (pe_op op_cat (pv 1) (pe_lc (own := [("_law_row_here", 5)]) (g := gName 5) (by rfl) nd (pi_list (pv 3)) (blkOk_by (own := [("_law_row_here", 5)]) (N := nLWrittenSo) (sc := defScope sLWrittenSo) (by decide +kernel)) (fun _ _ _ _ _ => (pg_name (i := 5) nd rfl (.inl rfl))) (fun _ _ _ _ _ => pts_nil)
          (fun _ _ _ _ _ => (pe_op op_add_str (pe_op op_add_str (pv 0) pe_str) (pv 5)))))) (pg_name (i := 4) nd rfl (.inl rfl))
        (pss_one (ps_if (PW.pt (pw_or (pt_cmpR op_notN (pe_call C__law_book_of.ok hr (by rfl) C__law_book_of.g C__law_book_of.kp C__law_book_of.b .nil pass0 (pa_cons (pv 4) pa_nil)) pe_non (nomark _)) (pw_or1 (pt_not (pt_val (pe_call C__law_read_so.ok hr (by rfl) C__law_read_so.g C__law_read_so.kp C__law_read_so.b .nil pass0 (pa_cons (pv 4) (pa_cons pe_non pa_nil)))))))) (pss_one (ps_ret pe_bl)) pss_nil)))
      (pss_one (ps_ret (pe_call C__law_read_so.ok hr (by rfl) C__law_read_so.g C__law_read_so.kp C__law_read_so.b .nil pass0 (pa_cons (pv 0) (pa_cons (pe_tup (pa_cons (pe_tup (pa_cons (pe_tup (pa_cons pe_int (pa_cons pe_non pa_nil))) (pa_cons (pe_tup (pa_cons pe_int (pa_cons pe_int pa_nil))) pa_nil))) (pa_cons pe_int (pa_cons (pe_tup pa_nil) pa_nil)))) pa_nil)))))))))))))))), ?_⟩
    have dl : dd82.length = 20 := by decide +kernel
    have gl : ∀ x : Str, x.length ≤ 100 → (20 : Nat) + x.length ≤ sizeLine := fun x h => by rw [sizeLine_eq]; omega
    -- the wrong ones
    refine ⟨(by show 7 ≤ sizeLine; decide), fun a1 na1 => ?_⟩
    refine ⟨_, rfl, (by show 4 ≤ sizeLine; decide), fun a2 na2 => ?_⟩
    refine catL ((same_new na2 _) _ _ upd_same) upd_same (by decide) fun b1 H1 s1 e1 => ?_
    have S1 : Same H H1 := (same_new na1 _).trans ((same_new na2 _).trans s1)
    refine ⟨_, rfl, (by show 4 ≤ sizeLine; decide), fun a3 na3 => ?_⟩
    refine catL ((same_new na3 _) _ _ e1) upd_same (by decide) fun b2 H2 s2 e2 => ?_
    have S2 : Same H H2 := S1.trans ((same_new na3 _).trans s2)
    refine ⟨_, rfl, (by show 2 ≤ sizeLine; decide), fun a4 na4 => ?_⟩
    refine catL ((same_new na4 _) _ _ e2) upd_same (by decide) fun b3 H3 s3 e3 => ?_
    have S3 : Same H H3 := S2.trans ((same_new na4 _).trans s3)
    have e3' : H3 b3 = some (.lst (wr82.map V.str)) := e3
    clear e3 e2 e1
    -- the rows
    refine ⟨(by show 4 ≤ sizeLine; decide), fun a5 na5 => ?_⟩
    refine ⟨_, rfl, (by show 4 ≤ sizeLine; decide), fun a6 na6 => ?_⟩
    refine catLn ((same_new na6 _) _ _ upd_same) upd_same (by decide) fun b4 H4 s4 n4 e4 => ?_
    have n4' : H b4 = none := none_back (S3.trans ((same_new na5 _).trans (same_new na6 _))) n4
    have n34 : H3 b4 = none := none_back ((same_new na5 _).trans (same_new na6 _)) n4
    have n43 : b4 ≠ b3 := fun z => by
      rw [z, e3'] at n34
      cases n34
    have S4 : Same H H4 := S3.trans ((same_new na5 _).trans ((same_new na6 _).trans s4))
    have e34 := ((same_new na5 _).trans ((same_new na6 _).trans s4)) _ _ e3'
    refine ⟨_, rfl, .inl ⟨rfl, _, SqL.of e4⟩, _, rfl, _, _, rfl, rfl, gl _ (by decide +kernel), b4, _, _, rfl, rfl, e4, small1000 (by decide), ?_⟩
    have S5 : Same H (upd H4 b4 (.lst (ro9.map V.str))) := same_put n4' S4 _
    have e35 : (upd H4 b4 (.lst (ro9.map V.str))) b3 = some (.lst (wr82.map V.str)) := (upd_ne n43.symm).trans e34
    have e5 : (upd H4 b4 (.lst (ro9.map V.str))) b4 = some (.lst (ro9.map V.str)) := upd_same
    refine ⟨_, rfl, _, rfl, _, rfl, ?_⟩
    dsimp only [tNoPart]
    have cl : (cutS dd82 (some 1) none).length = 19 := by decide +kernel
    refine ⟨dd82, rfl, by rw [dl, sizeLine_eq]; decide, _, _, rfl, rfl, by rw [cl, sizeLine_eq]; decide, _, _, rfl, rfl, by decide +kernel, _, rfl, _, _, rfl, rfl, by decide +kernel, _, rfl, _, _, rfl, rfl, gl _ (by decide +kernel), (by show 3 ≤ sizeLine; decide), fun a7 na7 => ?_⟩
    refine catLn ((same_new na7 _) _ _ e5) upd_same (by decide) fun b5 H6 s6 n6 e6 => ?_
    have S6 : Same H H6 := S5.trans ((same_new na7 _).trans s6)
    have e36 : H6 b3 = some (.lst (wr82.map V.str)) := s6 _ _ ((same_new na7 _) _ _ e35)
    refine ⟨_, rfl, _, rfl, _, _, rfl, rfl, gl _ (by decide +kernel), _, rfl, _, _, rfl, rfl, gl _ (by decide +kernel), (by show 3 ≤ sizeLine; decide), fun a8 na8 => ?_⟩
    refine catLn ((same_new na8 _) _ _ e6) upd_same (by decide) fun b6 H7 s7 n7 e7 => ?_
    have S7 : Same H H7 := S6.trans ((same_new na8 _).trans s7)
    have e37 : H7 b3 = some (.lst (wr82.map V.str)) := s7 _ _ ((same_new na8 _) _ _ e36)
    have e7' : H7 b6 = some (.lst (ro82.map V.str)) := e7
    clear e7 e6
    obtain ⟨rl1, rl2, rl3⟩ := ro82_len
    -- all of them
    refine ⟨_, rfl, _, rfl, _, rfl, ⟨_, SqL.of e7'⟩, fun M1 nM1 => ?_⟩
    refine lc_sameM (walk_list (xs := ro82.map V.str)) ro82 (fun r => .str ((hd82 ++ ("\n" : Str)) ++ r)) (by rw [List.length_map]) (by rw [rl1]; decide) nM1 (fun H s => SqL.of (s _ _ e7')) ?_ ?_
    · rintro i y z Ha Hb hy s3 ⟨rfl, hx1⟩ Q1 q1
      rw [List.getElem?_map, hy] at hx1
      injection hx1 with hx1
      subst hx1
      have hly := rl2 y (List.mem_of_getElem? hy)
      have hdl : hd82.length = 18 := by decide +kernel
      have hnl : ("\n" : Str).length = 1 := by decide +kernel
      refine ⟨rfl, _, rfl, _, _, rfl, rfl, by rw [show (Str.ofString "folk 0:- 0:9\nage 3").length = 18 from hdl, hnl, sizeLine_eq]; decide, _, rfl, _, _, rfl, rfl, by rw [len_app, show (Str.ofString "folk 0:- 0:9\nage 3").length = 18 from hdl, hnl, sizeLine_eq]; omega, q1 _ (same_refl _)⟩
    intro H8 s8 eM8
    have eM8' : H8 M1 = some (.lst ((ro82.map fun r => (hd82 ++ ("\n" : Str)) ++ r).map V.str)) := by rw [eM8, List.map_map]; rfl
    refine catL (s8 _ _ e37) eM8' (by rw [List.length_map, List.length_map, List.length_map, rl1, rl3]; decide) fun b7 H9 s9 e9 => ?_
    rw [← List.map_append] at e9
    have e9' : H9 b7 = some (.lst (al82.map V.str)) := e9
    have S9 : Same H H9 := S7.trans (s8.trans s9)
    refine ⟨b7, rfl, ⟨_, SqL.of e9'⟩, ?_⟩
    refine for_list (xs := al82.map V.str) (fun i σ H' => ∃ y4, σ = [some (.str hd82), some (.ref b3), some (.str dd82), some (.ref b6), y4, none] ∧ ExtN H9 H' ∧ Tabs T H') ⟨_, rfl, ExtN.refl _, hT.ext S9⟩ (fun i σ H' _ h => ?_) ?_ ?_
    · obtain ⟨_, _, x, _⟩ := h
      exact SqL.of (x _ _ e9' fun ps z => by cases z)
    · rintro i v σ Ha hv ⟨y4, rfl, xa, Ta⟩
      obtain ⟨x, hx, rfl⟩ : ∃ x, al82[i]? = some x ∧ v = .str x := by
        rw [List.getElem?_map] at hv
        cases hz : al82[i]? with
        | none => rw [hz] at hv; cases hv
        | some x =>
          rw [hz] at hv
          injection hv with hv
          exact ⟨x, rfl, hv.symm⟩
      obtain ⟨h1, h2, h3⟩ := noneB_ok (List.all_eq_true.mp al82_none x (List.mem_of_getElem? hx))
      refine ⟨_, rfl, x, rfl, h2, h3, fun b t Hb hb => absurd hb (h1 b), fun _ Hb sb => ?_⟩
      refine ⟨rfl, _, rfl, ?_⟩
      refine iteF ?_
      refine ⟨_, rfl, _, _, rfl, .inl ⟨x, rfl, h2⟩, .inr ⟨h1, rfl⟩, Ta.ext sb, fun Hc ec Tc => ⟨_, rfl, ?_⟩⟩
      refine iteF ?_
      exact ⟨_, rfl, xa.trans ((ExtN.of sb).trans ec), Tc⟩
    · rintro σ Ha ⟨y4, rfl, xa, Ta⟩
      refine ⟨_, rfl, (by show 2 ≤ sizeLine; decide), fun t1 nt1 => ⟨(by show 2 ≤ sizeLine; decide), fun t2 nt2 => ⟨(by show 2 ≤ sizeLine; decide), fun t3 nt3 => ⟨Nat.zero_le _, fun t4 nt4 => ⟨(by show 3 ≤ sizeLine; decide), fun t5 nt5 => ?_⟩⟩⟩⟩⟩
      have q1 := same_new nt1 (.tup [.int 0, .non])
      have q2 := same_new nt2 (.tup [.int 0, .int 9])
      have q3 := same_new nt3 (.tup [.ref t1, .ref t2])
      have q4 := same_new nt4 (.tup [])
      have q5 := same_new nt5 (.tup [.ref t3, .int 3, .ref t4])
      have qa := q1.trans (q2.trans (q3.trans (q4.trans q5)))
      have hO : PartsO b82 t5 _ := ⟨t3, t4, [], upd_same, ⟨[(t1, 0, none), (t2, 0, some 9)], q5 _ _ (q4 _ _ upd_same), rfl, fun z hz => by
        rcases List.mem_cons.mp hz with rfl | hz
        · exact (q2.trans (q3.trans (q4.trans q5))) _ _ upd_same
        · rw [List.mem_singleton.mp hz]
          exact (q3.trans (q4.trans q5)) _ _ upd_same⟩, q5 _ _ upd_same, rfl, (fun _ h => (nomatch h))⟩
      refine ⟨_, _, rfl, .inl ⟨hd82, rfl, by decide +kernel⟩, .inl ⟨b82, t5, rfl, b82_ok, hO⟩, Ta.ext qa, fun Hc ec Tc => ?_⟩
      exact q Hc ((ExtN.of S9).trans (xa.trans ((ExtN.of qa).trans ec))) Tc
end
end Deed

namespace Deed
open PySem PySem.Spec PyProof.Rows L2 LamX TL TX
/-! ### how long a drawn book's text is -/
instance ascDec (x : Str) : Decidable (asc x) := inferInstanceAs (Decidable (∀ c ∈ tl x, c < 128))
theorem perK_of {H : Hp} {fk : Addr} {n : Nat} {pz : List (Addr × Int × Option Int)} (hF : FolkAt H fk n) (hz : FolkZ H fk pz) : pz.length = n ∧ ∀ q ∈ pz.map (·.2), PerK q := by
  obtain ⟨xs, ex, hl, hx⟩ := hF
  have h1 := hz.at_
  rw [ex] at h1
  injection h1 with h1
  injection h1 with h1
  refine ⟨by rw [← hl, h1, List.length_map], fun q hq => ?_⟩
  obtain ⟨z, hm, rfl⟩ := List.mem_map.mp hq
  obtain ⟨a, b, d, e1, e2, e3, e4, e5⟩ := hx (V.ref z.1) (by rw [h1]; exact List.mem_map_of_mem (f := fun z : Addr × Int × Option Int => V.ref z.1) hm)
  have h2 := (hz.per z hm).1
  injection e1 with e1
  rw [e1, e2] at h2
  injection h2 with h2
  injection h2 with h2
  injection h2 with h3 h4
  injection h3 with h3
  injection h4 with h4 _
  refine ⟨by omega, by omega, fun i hi => ?_⟩
  rw [hi] at h4
  rcases e5 with e5 | ⟨j, e5, e6, e7⟩
  · rw [e5] at h4
    cases h4
  · rw [e5] at h4
    injection h4 with h4
    omega
theorem len_lt (k : Nat) {i : Int} (hk : 0 < k) (h : i.natAbs < 10 ^ k) : (intT i).length ≤ k + 1 := numT_len hk h
theorem row_wt {ns : List Int} {c m : Nat} (hc : 0 < c) (hn : ns.length ≤ c) (h : ∀ i ∈ ns, (intT i).length ≤ m) : (rowT ns).length ≤ c * (m + 1) := by
  by_cases h0 : ns = []
  · rw [h0, rowT_nil]
    have h1 : dash.length = 1 := by decide +kernel
    have h2 := Nat.mul_le_mul hc (show 1 ≤ m + 1 by omega)
    omega
  · rw [rowT_ne h0]
    have h1 := join_wt tl_com (ns.map intT)
    have h2 := wt_le (L := ns.map intT) (m := m) fun x hx => by
      obtain ⟨i, hi, rfl⟩ := List.mem_map.mp hx
      exact h i hi
    rw [List.length_map] at h2
    have h3 := Nat.mul_le_mul_right (m + 1) hn
    omega
theorem wt_cons (x : Str) (r : List Str) : wt (x :: r) = (x.length + 1) + wt r := by
  unfold wt
  rw [List.map_cons, List.sum_cons]
theorem wt_nil : wt [] = 0 := rfl
theorem per_le {q : Int × Option Int} (h : PerK q) : (perT q.1 q.2).length ≤ 11 := by
  obtain ⟨b, d⟩ := q
  have hb : (intT b).length ≤ 5 := len_lt 4 (by decide) (by have := h.1; have := h.2.1; show b.natAbs < 10000; omega)
  have hc : (":" : Str).length = 1 := l_col
  show (perT b d).length ≤ 11
  rw [perT_eq, len_app, len_app, hc]
  cases d with
  | none =>
    have : (restT none).length = 1 := by decide +kernel
    omega
  | some i =>
    have h3 := h.2.2 i rfl
    have : (restT (some i)).length ≤ 5 := len_lt 4 (by decide) (by have := h.1; show i.natAbs < 10000; omega)
    omega
theorem line_le {n : Nat} {es : List En} (hb : BkOk n es) (hn : n ≤ 6) {e : En} (he : e ∈ es) : (lineT e).length ≤ 49 := by
  unfold lineT
  rw [← words_pts]
  refine Nat.le_trans (join_wt tl_spc _) ?_
  have hr := hb.rng e he
  obtain ⟨⟨a1, a2⟩, ⟨b1, b2⟩, ⟨c1, c2⟩, hk⟩ := hb.ok e he
  have in_dn : ∀ x ∈ dn es, 0 ≤ x ∧ x ≤ 30 := fun x hx => by
    obtain ⟨e', h1, h2⟩ := mem_dn.mp hx
    have := hb.rng e' h1
    rw [h2.2] at this
    exact this
  have in_an : ∀ x ∈ an es, 0 ≤ x ∧ x ≤ 30 := fun x hx => by
    obtain ⟨e', h1, h2⟩ := mem_an.mp hx
    have := hb.rng e' h1
    rw [h2.2] at this
    exact this
  have l2 : ∀ {i : Int}, 0 ≤ i → i ≤ 30 → (intT i).length ≤ 3 := fun {i} h0 h1 => len_lt 2 (by decide) (by show i.natAbs < 100; omega)
  have l4 : ∀ {i : Int}, 0 ≤ i → i ≤ 9999 → (intT i).length ≤ 5 := fun {i} h0 h1 => len_lt 4 (by decide) (by show i.natAbs < 10000; omega)
  have l1 : ∀ {i : Int}, 0 ≤ i → i ≤ 9 → (intT i).length ≤ 2 := fun {i} h0 h1 => len_lt 1 (by decide) (by show i.natAbs < 10; omega)
  have e1 := l2 hr.1 hr.2
  have e2 := l4 a1 a2
  have e3 := l4 b1 b2
  have e4 := l1 c1 (by omega)
  unfold wordsE tailP En.word
  cases hd : e.kd with
  | deed g t rs ws =>
    rw [hd] at hk
    obtain ⟨⟨g1, g2⟩, ⟨t1, t2⟩, _, r1, _, r2, w1, _, w2⟩ := hk
    have e5 := l1 g1 (by omega)
    have e6 := l1 t1 (by omega)
    have e7 := row_wt (c := 2) (m := 3) (by decide) r1 fun i hi => l2 (in_dn i (r2 i hi).1).1 (in_dn i (r2 i hi).1).2
    have e8 := row_wt (c := 3) (m := 2) (by decide) w1 fun i hi => l1 (w2 i hi).1 (by have := (w2 i hi).2.1; omega)
    have e9 : ("deed" : Str).length = 4 := by decide +kernel
    show wt (intT e.num :: intT e.day :: intT e.wri :: intT e.hand :: ("deed" : Str) :: intT g :: intT t :: rowT rs :: rowT ws :: []) ≤ 49
    simp only [wt_cons, wt_nil]
    omega
  | act x o =>
    rw [hd] at hk
    have ho : 0 ≤ o ∧ o ≤ 30 := by
      rcases hk.1 with ⟨_, h⟩ | ⟨_, h⟩
      · exact in_an o h
      · exact in_dn o h
    have e5 := l2 ho.1 ho.2
    have e6 : x.length ≤ 6 := by
      rcases hk.1 with ⟨h, _⟩ | ⟨h | h, _⟩ <;> rw [h] <;> decide +kernel
    show wt (intT e.num :: intT e.day :: intT e.wri :: intT e.hand :: x :: intT o :: []) ≤ 49
    simp only [wt_cons, wt_nil]
    omega
theorem asc_per (b : Int) (d : Option Int) : asc (perT b d) := by
  rw [perT_eq]
  refine asc_app (asc_app (asc_int b) (by decide +kernel)) ?_
  cases d with
  | none => decide +kernel
  | some i => exact asc_int i
theorem asc_row (ns : List Int) : asc (rowT ns) := by
  by_cases h : ns = []
  · rw [h, rowT_nil]
    decide +kernel
  · rw [rowT_ne h]
    refine asc_join tl_com (by decide) fun x hx => ?_
    obtain ⟨i, _, rfl⟩ := List.mem_map.mp hx
    exact asc_int i
theorem asc_words {e : En} (hw : ActW e) : ∀ x ∈ wordsE e, asc x := by
  intro x hx
  unfold wordsE at hx
  rcases List.mem_append.mp hx with hx | hx
  · simp only [List.mem_cons, List.not_mem_nil, or_false] at hx
    rcases hx with rfl | rfl | rfl | rfl | rfl
    · exact asc_int _
    · exact asc_int _
    · exact asc_int _
    · exact asc_int _
    · rcases hw.word with z | z | z | z <;> rw [z] <;> decide +kernel
  · unfold tailP at hx
    split at hx
    · simp only [List.mem_cons, List.not_mem_nil, or_false] at hx
      rcases hx with rfl | rfl | rfl | rfl
      · exact asc_int _
      · exact asc_int _
      · exact asc_row _
      · exact asc_row _
    · rw [List.mem_singleton.mp hx]
      exact asc_int _
theorem book_small {ps : List (Int × Option Int)} {age : Int} {es : List En} (h : BkS ps age es) (hl : es.length ≤ 6) : (bookT ps age es).length ≤ 400 ∧ asc (bookT ps age es) ∧ ∀ l ∈ Txt.split (bookT ps age es) ("\n" : Str), l.length ≤ 80 := by
  have hact := h.act
  have hw : ∀ e ∈ es, WordOk e := fun e he => (hact e he).word
  have h1 : (headT ps).length ≤ 77 := by
    unfold headT
    refine Nat.le_trans (join_wt tl_spc _) ?_
    rw [wt_cons]
    have h2 := wt_le (L := ps.map fun q => perT q.1 q.2) (m := 11) fun x hx => by
      obtain ⟨q, hq, rfl⟩ := List.mem_map.mp hx
      exact per_le (h.per q hq)
    rw [List.length_map] at h2
    have h3 : ("folk" : Str).length = 4 := by decide +kernel
    have h4 := Nat.mul_le_mul_right 12 h.n6
    omega
  have h2 : (ageTx age).length ≤ 9 := by
    have h3 : (intT age).length ≤ 5 := len_lt 4 (by decide) (by have := h.age0; have := h.age1; show age.natAbs < 10000; omega)
    rw [len_tl, tl_int] at h3
    have h4 : (tl ("age " : Str)).length = 4 := by decide +kernel
    rw [len_tl]
    show (tl ("age " : Str) ++ intL age).length ≤ 9
    rw [List.length_append, h4]
    omega
  have h3 : ∀ x ∈ es.map lineT, x.length ≤ 49 := fun x hx => by
    obtain ⟨e, he, rfl⟩ := List.mem_map.mp hx
    exact line_le h.ok h.n6 he
  refine ⟨?_, ?_, fun l hlm => ?_⟩
  · unfold bookT
    refine Nat.le_trans (join_wt tl_nl _) ?_
    rw [wt_cons, wt_cons]
    have h4 := wt_le h3
    rw [List.length_map] at h4
    have h5 := Nat.mul_le_mul_right 50 hl
    omega
  · rw [book_rows]
    refine asc_join tl_nl (by decide) fun x hx => ?_
    obtain ⟨r, hr, rfl⟩ := List.mem_map.mp hx
    refine asc_join tl_spc (by decide) fun y hy => ?_
    unfold rowsT at hr
    rcases List.mem_cons.mp hr with rfl | hr
    · rcases List.mem_cons.mp hy with rfl | hy
      · decide +kernel
      · obtain ⟨q, _, rfl⟩ := List.mem_map.mp hy
        exact asc_per _ _
    rcases List.mem_cons.mp hr with rfl | hr
    · rcases List.mem_cons.mp hy with rfl | hy
      · decide +kernel
      · rw [List.mem_singleton.mp hy]
        exact asc_int _
    · obtain ⟨e, he, rfl⟩ := List.mem_map.mp hr
      exact asc_words (hact e he) y hy
  · have hb : bookT ps age es = Txt.join ("\n" : Str) (headT ps :: ageTx age :: es.map lineT) := rfl
    have hsp : Txt.split (bookT ps age es) ("\n" : Str) = headT ps :: ageTx age :: es.map lineT := by
      rw [split_book hw]
      unfold rowsT headT lineT
      rw [age_join, List.map_cons, List.map_cons, List.map_map]
      congr 2
      exact List.map_congr_left fun e _ => by rw [← words_pts]; rfl
    rw [hsp] at hlm
    rcases List.mem_cons.mp hlm with rfl | hlm
    · omega
    rcases List.mem_cons.mp hlm with rfl | hlm
    · omega
    · have := h3 l hlm
      omega
end Deed

namespace Deed
open PySem PySem.Spec PyProof.Rows L2 LamX
section
variable {p : Addr} {H : Hp}
/-- a list of things -/
def ThL (p : Addr) (H : Hp) (L : Addr) (n : Nat) : Prop := L ≠ p ∧ ∃ vs ts, H L = some (.lst vs) ∧ TgAll p H vs ts ∧ vs.length = n
theorem ThL.kp {H' : Hp} {L : Addr} {n : Nat} (h : ThL p H L n) (k : Kp p H H') (P : PenAt H p) : ThL p H' L n := by
  obtain ⟨h1, vs, ts, h2, h3, h4⟩ := h
  exact ⟨h1, vs, ts, k _ _ h1 h2, TgAll.kp k P _ _ h3, h4⟩
/-- two lists of things put together -/
theorem ThL.cat {L M : Addr} {m n : Nat} {Q : VK} (h1 : ThL p H L m) (h2 : ThL p H M n) (P : PenAt H p) (hmn : m + n ≤ 1000) (q : ∀ N H', Kp p H H' → PenAt H' p → H N = none → ThL p H' N (m + n) → Q (.ref N) H') : rCat (.ref L) (.ref M) H Q := by
  obtain ⟨a1, vs, ts, a2, a3, a4⟩ := h1
  obtain ⟨b1, us, rs, b2, b3, b4⟩ := h2
  refine ⟨L, M, vs, us, rfl, rfl, a2, b2, Nat.le_of_lt (small1000 (by omega)), fun N nN => ?_⟩
  exact q N _ (Kp.new nN _) (P.new nN _) nN ⟨P.free nN, _, _, upd_same, TgAll.kp (Kp.new nN _) P _ _ (a3.append b3), by rw [List.length_append, a4, b4]⟩
/-- one more behind -/
theorem ThL.snoc {L : Addr} {n : Nat} {v : V} {t : Tg} (h : ThL p H L n) (P : PenAt H p) (hT : TgAt p H v t) : ∃ xs, H L = some (.lst xs) ∧ xs.length = n ∧ PenAt (upd H L (.lst (xs ++ [v]))) p ∧ ThL p (upd H L (.lst (xs ++ [v]))) L (n + 1) := by
  obtain ⟨a1, vs, ts, a2, a3, a4⟩ := h
  refine ⟨vs, a2, a4, ?_, a1, _, _, upd_same, (TgAll.relist a2 _ _ a3).append (.cons (TgAt.relist a2 _ _ hT) .nil), by rw [List.length_append, a4]; rfl⟩
  obtain ⟨x1, x2, x3, x4, z1, z2⟩ := P
  exact ⟨x1, x2, x3, x4, by rw [upd_ne fun z => a1 z.symm]; exact z1, z2⟩
end
end Deed

namespace Deed
open PySem PySem.Spec PyProof.Rows L2 LamX TL TX
theorem isi_K {X : Cx} {K : PySem.W.Frag} (h : X.K = K) : CallR X (.builtin "isinstance") (rIsi K) := h ▸ call_isi
theorem TextV.kp {H H' : Hp} {v : V} {p : Addr} (h : TextV H v) (k : ExtN H H') : TextV H' v := h.ext k
section
variable {P : Program} {w : World} {K : PySem.W.Frag} {mg : Str → Option Value} {base : Heap} {T : List (Addr × Str)}
abbrev sLaw : Stmt := topS 75
abbrev nLaw : List Str := ["_law_script", "_law_pen_here", "_law_turn", "_law_text", "_law_things", "_law_thing_here"]
abbrev pLaw : List Str := ["_law_script"]
theorem scLaw : FnScope nLaw pLaw (defScope sLaw) := ⟨rfl, rfl, rfl, by decide +kernel, rfl, by decide +kernel, by decide +kernel⟩
def spLaw (K : PySem.W.Frag) (T : List (Addr × Str)) : Sp := fun vs H Q _ => ∃ (a : Addr) (ns : List Int), vs = [.ref a] ∧ SqL K H a (ns.map V.int) ∧ ns.length ≤ 63 ∧ Tabs T H ∧ ∀ H', Q (.bl true) H'
theorem ok_law {f : Addr} {fd : FuncData} {k : Nat} (F : Fun K "law" "law" sLaw f fd) (C__law_cell_at : CallOk P w K mg base k "_law_cell_at" ["_law_script", "_law_k"] (spCell K)) (C__law_pen : CallOk P w K mg base k "_law_pen" ["_law_cell"] spPen) (C__law_book : CallOk P w K mg base k "_law_book" ["_law_pen_here", "_law_most"] spBook) (C__law_book_text : CallOk P w K mg base k "_law_book_text" pLBookT spLBookT)
    (C__law_one_sign : CallOk P w K mg base k "_law_one_sign" pLOneSign spLOneSign) (C__law_one_row : CallOk P w K mg base k "_law_one_row" pLOneRow spLOneRow) (C__law_book_of : CallOk P w K mg base k "_law_book_of" pLBookOf spLBookOf) (C__law_read_so : CallOk P w K mg base k "_law_read_so" pLReadSo (spLReadSo T)) (C__law_written_so : CallOk P w K mg base k "_law_written_so" pLWrittenSo (spLWrittenSo T)) (C__law_thing : CallOk P w K mg base k "_law_thing" pLThing (spLThing 3))
    (m_range : mg "range" = none) (m_int : mg "int" = none) (m_isinstance : mg "isinstance" = none) (m_str : mg "str" = none) (m_all : mg "all" = none) : FnOk P w K mg base CX0 (k + 1) f fd pLaw (spLaw K T) := by
  refine F.ok scLaw (fun vs H Q E h => ?_) (fun cdv A outer s H vs Q E hr h => ?_)
  · obtain ⟨a, ns, rfl, _⟩ := h
    rfl
  · obtain ⟨a, ns, rfl, hS, h63, hT, q⟩ := h
    have nd := scLaw.nd
    refine ⟨_, pss_cons (ps_set (i := 1) nd rfl (.inr rfl) (pe_call C__law_pen.ok hr (by rfl) C__law_pen.g C__law_pen.kp C__law_pen.b .nil pass0 (pa_cons (pe_call C__law_cell_at.ok hr (by rfl) C__law_cell_at.g C__law_cell_at.kp C__law_cell_at.b .nil pass0 (pa_cons (pv 0) (pa_cons pe_int pa_nil))) pa_nil)))
      (pss_cons (ps_for PassesOwn.never rfl (pi_range1 rfl m_range (pa_cons pe_int pa_nil)) (pg_name (i := 2) nd rfl (.inl rfl))
        (pss_cons (ps_set (i := 3) nd rfl (.inl rfl) (pe_call C__law_book_text.ok hr (by rfl) C__law_book_text.g C__law_book_text.kp C__law_book_text.b .nil pass0 (pa_cons (pe_call C__law_book.ok hr (by rfl) C__law_book.g C__law_book.kp C__law_book.b .nil pass0 (pa_cons (pv 1) (pa_cons pe_int pa_nil))) pa_nil)))
      (pss_cons (ps_set (i := 3) nd rfl (.inl rfl) (pe_ix ix_list (pe_lst (pa_cons (pe_call C__law_one_sign.ok hr (by rfl) C__law_one_sign.g C__law_one_sign.kp C__law_one_sign.b .nil pass0 (pa_cons (pv 1) (pa_cons (pv 3) pa_nil))) (pa_cons (pe_call C__law_one_row.ok hr (by rfl) C__law_one_row.g C__law_one_row.kp C__law_one_row.b .nil pass0 (pa_cons (pv 1) (pa_cons (pv 3) pa_nil))) pa_nil))) (pe_callTy call_int1 (by rfl) m_int (by decide +kernel) (pa_cons (pe_cmpR op_eq (pe_op op_mod (pv 2) pe_int) pe_int (nomark _)) pa_nil)) (fun _ _ => rfl)))
      (C8.pss_cut (ps_if (pt_cmpR op_eq (pe_op op_mod (pv 2) pe_int) pe_int (nomark _)) (pss_one (ps_set (i := 3) nd rfl (.inl rfl) (pe_call C__law_one_sign.ok hr (by rfl) C__law_one_sign.g C__law_one_sign.kp C__law_one_sign.b .nil pass0 (pa_cons (pv 1) (pa_cons (pv 3) pa_nil))))) pss_nil)
      (pss_one (ps_if (pt_not (pt_val (pe_call C__law_read_so.ok hr (by rfl) C__law_read_so.g C__law_read_so.kp C__law_read_so.b .nil pass0 (pa_cons (pv 3) (pa_cons (pe_call C__law_book_of.ok hr (by rfl) C__law_book_of.g C__law_book_of.kp C__law_book_of.b .nil pass0 (pa_cons (pv 3) pa_nil)) pa_nil))))) (pss_one (ps_ret pe_bl)) pss_nil))))))
      (pss_cons (ps_if (pt_not (pt_val (pe_call0 C__law_written_so.ok hr (by rfl) C__law_written_so.g C__law_written_so.kp C__law_written_so.b .nil pass0))) (pss_one (ps_ret pe_bl)) pss_nil)
      (pss_cons (ps_set (i := 4) nd rfl (.inl rfl) (pe_op op_cat (pe_lc (own := [("_law_turn", 2)]) (g := gName 2) (by rfl) nd (pi_range1 rfl m_range (pa_cons pe_int pa_nil)) (blkOk_by (own := [("_law_turn", 2)]) (N := nLaw) (sc := defScope sLaw) (by decide +kernel)) (fun _ _ _ _ _ => (pg_name (i := 2) nd rfl (.inl rfl))) (fun _ _ _ _ _ => pts_nil)
          (fun _ _ _ _ _ => (pe_call C__law_thing.ok hr (by rfl) C__law_thing.g C__law_thing.kp C__law_thing.b .nil pass0 (pa_cons (pv 1) (pa_cons pe_int pa_nil))))) (pe_lst (pa_cons (pe_lst (pa_cons pe_str pa_nil)) (pa_cons (pe_tup (pa_cons pe_str pa_nil)) (pa_cons pe_non (pa_cons pe_int pa_nil)))))))
      (pss_one (ps_ret (pe_callB (cr_all rfl) (by rfl) m_all (by decide +kernel) (pa_cons (pe_lc (own := [("_law_thing_here", 5)]) (g := gName 5) (by rfl) nd (pi_list (pv 4)) (blkOk_by (own := [("_law_thing_here", 5)]) (N := nLaw) (sc := defScope sLaw) (by decide +kernel)) (fun _ _ _ _ _ => (pg_name (i := 5) nd rfl (.inl rfl))) (fun _ _ _ _ _ => (pts_one (pt_not (pt_val (pe_callB (isi_K (K := K) (by rfl)) (by rfl) m_isinstance (by decide +kernel) (pa_cons (pv 5) (pa_cons (pe_bltn (v := .ty "str") (by rfl) m_str (by decide +kernel) rfl) pa_nil)))))))
          (fun _ _ _ _ _ => (pe_call C__law_read_so.ok hr (by rfl) C__law_read_so.g C__law_read_so.kp C__law_read_so.b .nil pass0 (pa_cons (pv 5) (pa_cons pe_non pa_nil))))) pa_nil))))))), ?_⟩
    refine ⟨_, rfl, a, ns, 0, rfl, hS, by decide, fun c => ⟨c, rfl, fun p H1 s1 np P1 => ?_⟩⟩
    have T1 := hT.ext s1
    refine ⟨_, rfl, by decide, by decide, ?_⟩
    refine for_range (lo := 0) (n := 18) (fun i σ H' => ∃ z2 z3, σ = [some (.ref a), some (.ref p), z2, z3, none, none] ∧ PenAt H' p ∧ Tabs T H') ⟨_, _, rfl, P1, T1⟩ ?_ ?_
    · rintro i σ H2 hi ⟨z2, z3, rfl, P2, T2⟩
      refine ⟨_, rfl, p, 6, rfl, P2, by decide, by decide, fun b fk t n age zs H3 k3 P3 hB hl6 => ?_⟩
      obtain ⟨pz, hF⟩ := hB.folk.z hB.n6
      refine ⟨b, fk, t, n, age, zs, pz, rfl, hB, hF, fun zs' H4 s4 pm so => ?_⟩
      obtain ⟨hpl, hpk⟩ := perK_of hB.folk hF
      have k4 := k3.trans (Kp.same s4)
      have P4 : PenAt H4 p := by
        obtain ⟨i1, i2, i3, i4, g1, g2⟩ := P3
        exact ⟨i1, i2, i3, i4, s4 _ _ g1, g2⟩
      have hbs : BkS (pz.map (·.2)) age (ens zs') := ⟨by rw [List.length_map, hpl]; exact hB.n2, by rw [List.length_map, hpl]; exact hB.n6, hpk, hB.age0, hB.age1, by rw [List.length_map, pm.length_eq]; exact hB.len, by rw [List.length_map, hpl]; exact hB.ok.perm (pm.map _)⟩
      obtain ⟨hx1, hx2, hx3⟩ := book_small hbs (by rw [List.length_map, pm.length_eq]; omega)
      generalize bookT (pz.map (·.2)) age (ens zs') = x at hx1 hx2 hx3
      refine ⟨_, rfl, _, rfl, p, x, rfl, P4, by omega, hx2, fun y1 H5 k5 P5 hy1 hy1a => ?_⟩
      refine ⟨_, rfl, _, rfl, p, x, rfl, P5, hx1, hx2, hx3, fun y2 H6 k6 P6 hy2 hy2a => ?_⟩
      refine ⟨(by show 2 ≤ sizeLine; decide), fun l7 nl7 => ?_⟩
      have e7 : (upd H6 l7 (.lst [.str y1, .str y2])) l7 = some (.lst [.str y1, .str y2]) := upd_same
      have k7 : Kp p H6 (upd H6 l7 (.lst [.str y1, .str y2])) := Kp.new nl7 _
      have P7 := P6.new nl7 (.lst [.str y1, .str y2])
      generalize (upd H6 l7 (.lst [.str y1, .str y2])) = H7 at e7 k7 P7
      refine ⟨_, rfl, _, _, rfl, rfl, (by show (0 : Int) < 3; decide), rfl, .inr ⟨_, rfl, ?_⟩⟩
      generalize decide (V.int ((0 + (i : Int)) % 3) = V.int 2) = bb
      obtain ⟨u, gu, y, rfl, hyl, hya⟩ := pick (xs := [.str y1, .str y2]) (i := (if bb = true then 1 else 0 : Int)) (fun u => ∃ z : Str, u = .str z ∧ z.length ≤ 590 ∧ asc z) (by split <;> decide) (by show _ < (2 : Int); split <;> decide) (fun u hu => by
        rcases List.mem_cons.mp hu with rfl | hu
        · exact ⟨_, rfl, by omega, hy1a⟩
        · rw [List.mem_singleton.mp hu]
          exact ⟨_, rfl, hy2, hy2a⟩)
      refine ⟨l7, _, _, _, rfl, rfl, SqL.of e7, gu, ?_⟩
      have k27 : Kp p H2 H7 := k4.trans (k5.trans (k6.trans k7))
      refine ⟨fun σ' H' => ∃ y : Str, σ' = [some (.ref a), some (.ref p), some (.int (0 + (i : Int))), some (.str y), none, none] ∧ y.length ≤ 591 ∧ asc y ∧ Kp p H2 H' ∧ PenAt H' p, ?_, ?_⟩
      · refine ⟨_, rfl, _, _, rfl, rfl, (by show (0 : Int) < 5; decide), rfl, _, rfl, ?_⟩
        refine ite2 (fun c1 => ?_) (fun c1 => ?_)
        · refine ⟨_, rfl, _, rfl, p, y, rfl, P7, by omega, hya, fun y3 H8 k8 P8 hy3 hy3a => ?_⟩
          exact ⟨y3, rfl, by omega, hy3a, k27.trans k8, P8⟩
        · exact ⟨y, rfl, by omega, hya, k27, P7⟩
      · rintro σ' H8 ⟨y, rfl, hyl, hya, k28, P8⟩
        have T8 := Tabs.kp T2 k28 P2
        refine ⟨_, rfl, _, rfl, y, rfl, by omega, hya, GO.of fun vd H9 s9 hvd => ?_⟩
        refine ⟨_, _, rfl, .inl ⟨y, rfl, by omega⟩, hvd, T8.ext s9, fun H10 e10 T10 => ⟨_, rfl, ?_⟩⟩
        refine iteF ?_
        have P10 : PenAt H10 p := by
          obtain ⟨i1, i2, i3, i4, g1, g2⟩ := P8
          exact ⟨i1, i2, i3, i4, e10 _ _ (s9 _ _ g1) (fun _ z => by cases z), g2⟩
        exact ⟨_, _, rfl, P10, T10⟩
    rintro σ H2 ⟨z2, z3, rfl, P2, T2⟩
    refine ⟨rfl, T2, fun H3 e3 T3 => ⟨_, rfl, ?_⟩⟩
    refine iteF ?_
    have P3 : PenAt H3 p := by
      obtain ⟨i1, i2, i3, i4, g1, g2⟩ := P2
      exact ⟨i1, i2, i3, i4, e3 _ _ g1 (fun _ z => by cases z), g2⟩
    refine ⟨_, rfl, by decide, by decide, fun M nM => ?_⟩
    have nMp : M ≠ p := P3.free nM
    refine lc_range (lo := 0) (n := 6) (fun i H' => Kp p H3 H' ∧ PenAt H' p ∧ ThL p H' M i) ⟨Kp.new nM _, P3.new nM _, nMp, [], [], upd_same, .nil, rfl⟩ ?_ ?_
    · rintro i H4 hi ⟨k4, P4, hM4⟩
      refine ⟨rfl, ?_⟩
      unfold tYes
      dsimp only
      rw [if_pos rfl]
      refine ⟨_, rfl, p, 2, rfl, P4, by decide, by decide, fun v H5 k5 P5 ⟨t, hv⟩ => ?_⟩
      obtain ⟨xs, ex, hxl, P6, h6⟩ := (hM4.kp k5 P4).snoc P5 hv
      exact ⟨_, ex, small1000 (by omega), (k4.trans k5).over nM _, P6, h6⟩
    rintro H4 ⟨k4, P4, hM4⟩
    refine ⟨(by show 1 ≤ sizeLine; decide), fun l5 nl5 => ⟨(by show 1 ≤ sizeLine; decide), fun t6 nt6 => ⟨(by show 4 ≤ sizeLine; decide), fun l7 nl7 => ?_⟩⟩⟩
    have q5 := same_new nl5 (.lst [.str ("folk 0:-\nage 0" : Str)])
    have q6 := same_new nt6 (.tup [.str ("a" : Str)])
    have q7 := same_new nl7 (.lst [.ref l5, .ref t6, .non, .int 0])
    have nl5p : l5 ≠ p := P4.free nl5
    have P7 := (((P4.new nl5 (.lst [.str ("folk 0:-\nage 0" : Str)])).new nt6 (.tup [.str ("a" : Str)]))).new nl7 (.lst [.ref l5, .ref t6, .non, .int 0])
    have nl7p := (((P4.new nl5 (.lst [.str ("folk 0:-\nage 0" : Str)])).new nt6 (.tup [.str ("a" : Str)]))).free nl7
    have hl7 : ThL p _ l7 4 := ⟨nl7p, [.ref l5, .ref t6, .non, .int 0], [.lst, .tup [.str ("a" : Str)], .non, .int 0], upd_same, .cons (.lst nl5p (q7 _ _ (q6 _ _ upd_same))) (.cons (.tup (q7 _ _ upd_same) (.cons (.str _) .nil)) (.cons .non (.cons (.int _) .nil))), rfl⟩
    have k47 := (Kp.same (p := p) (q5.trans (q6.trans q7)))
    refine ThL.cat (hM4.kp k47 P4) hl7 P7 (by decide) fun L H8 k8 P8 nL hL => ?_
    have T8 := Tabs.kp T3 ((k4.trans k47).trans k8) P3
    obtain ⟨nLp, us, ts, eL, hts, hul⟩ := hL
    refine ⟨_, rfl, _, rfl, ⟨_, SqL.of eL⟩, fun M2 nM2 => ?_⟩
    have nLM : L ≠ M2 := ne_of_none eL nM2
    have nM2p : M2 ≠ p := P8.free nM2
    refine lc_list (K := K) (a := L) (xs := us) (fun i H' => ∃ m : Nat, H' M2 = some (.lst (List.replicate m (V.bl true))) ∧ m ≤ i ∧ TgAll p H' us ts ∧ H' L = some (.lst us) ∧ Tabs T H') ⟨0, upd_same, Nat.le_refl _, TgAll.kp (Kp.new (p := p) nM2 _) P8 _ _ hts, by rw [upd_ne nLM]; exact eL, Tabs.new T8 nM2 _⟩ (fun i H' _ h => ?_) ?_ ?_
    · obtain ⟨_, _, _, _, e, _⟩ := h
      exact SqL.of e
    · rintro i x H9 hx ⟨m, eM, hm, ht9, eL9, T9⟩
      obtain ⟨t, hti, htx⟩ : ∃ t, ts[i]? = some t ∧ TgAt p H9 x t := by
        have hil : i < ts.length := by
          have h1 := (List.getElem?_eq_some_iff.mp hx).1
          have h2 := ht9.length
          omega
        exact ⟨ts[i], List.getElem?_eq_getElem hil, ht9.at hx (List.getElem?_eq_getElem hil)⟩
      refine ⟨rfl, _, rfl, _, _, .type t.ty, .type "str", t.isS, rfl, .ty "str", htx.ty, kit_ty t.kS, _, rfl, ?_⟩
      cases hs : t.isS with
      | true => exact iteF ⟨m, eM, by omega, ht9, eL9, T9⟩
      | false =>
        refine iteT ?_
        refine ⟨_, rfl, _, _, rfl, .inr ⟨p, t, htx, hs⟩, .inr ⟨fun b hb => ?_, rfl⟩, T9, fun Ha ea Ta => ?_⟩
        · rw [hb.1] at htx
          cases htx
          cases hs
        · have eMa := ea _ _ eM fun ps z => by cases z
          have eLa := ea _ _ eL9 fun ps z => by cases z
          have i10 : i < 10 := by
            have h1 := (List.getElem?_eq_some_iff.mp hx).1
            omega
          refine ⟨_, eMa, small1000 (by rw [List.length_replicate]; omega), m + 1, ?_, by omega, TgAll.relist eMa _ _ (TgAll.ext ea _ _ ht9), by rw [upd_ne nLM]; exact eLa, Tabs.put Ta eMa _⟩
          rw [upd_same, List.replicate_succ']
    · rintro H9 ⟨m, eM, _, _, _, _⟩
      refine ⟨M2, List.replicate m true, rfl, SqL.of (by rw [eM, List.map_replicate]), ?_⟩
      rw [show (List.replicate m true).all id = true from List.all_eq_true.mpr fun b hb => (List.mem_replicate.mp hb).2]
      exact q H9
end
end Deed

namespace Deed
open PySem PySem.Spec PyProof.Rows L2 LamX
theorem funOf {K : PySem.W.Frag} {x : Str} {st : Stmt} {f : Addr} {fd : FuncData} (F : FunD K x x (defArgs st) (defBody st) (defScope st) [] [] f fd) : Fun K x x st f fd := by
  obtain ⟨oc, od, dV, kV, doc, pm, an, cdv, ct, osl, e, lk, hcd, hD, hK⟩ := F.ex
  rcases hD with ⟨_, hD⟩ | ⟨hD, _⟩
  · subst hD
    exact ⟨⟨oc, od, kV, doc, pm, an, cdv, ct, osl, e, lk, hcd⟩, F.kp⟩
  · exact absurd rfl hD
theorem codeAt {K : PySem.W.Frag} {x : Str} {st : Stmt} {p : He.Defn} {fd : FuncData} (F : Fun K x x st (He.fAd K p) fd) : fd.code = .ref (He.cT K p).1 := by
  obtain ⟨oc, od, kV, doc, pm, an, cdv, ct, osl, e, lk, hcd⟩ := F.ex
  obtain ⟨c, ec⟩ := He.codeIn_ref hcd
  have e2 : fd.code = .ref c := by rw [e, ← ec]
  rw [show (He.cT K p).1 = c from He.codeOf_eq lk e2]
  exact e2
theorem facts {l : PySem.W.OpenLaw} {w : World} {K : PySem.W.Frag} {h : Heap} {mg : Str → Option Value} {f : Addr} (X : K.In h) (G : h.Ns mainGlobals mg) (hfa : mg ("law" : Str) = some (.ref f)) (c : He.SaysX faAll fnAll tsAll tfAll exAll w h K) : LawAtS l w K CX0 43 63 "_law_script" mg f h := by
  obtain ⟨d0, F0'⟩ := c.t.d.def_ 0 (d := mkD "_law_cell_at" sCell) rfl
  have g0 := He.glo_ok X G (c.t.d.fact 0 (f := .glo "_law_cell_at") rfl)
  have F0 : Fun K "_law_cell_at" "_law_cell_at" sCell (He.fAd K ("_law_cell_at", none)) d0 := funOf F0'
  have D0 : Df K mg "_law_cell_at" sCell ["_law_script", "_law_k"] _ d0 := ⟨F0, F0.binds (ps := ["_law_script", "_law_k"]) (fun _ _ _ _ _ _ us hl => match us, hl with | [_, _], _ => rfl), g0⟩
  obtain ⟨d1, F1'⟩ := c.t.d.def_ 1 (d := mkD "_law_pen" sPen) rfl
  have g1 := He.glo_ok X G (c.t.d.fact 1 (f := .glo "_law_pen") rfl)
  have F1 : Fun K "_law_pen" "_law_pen" sPen (He.fAd K ("_law_pen", none)) d1 := funOf F1'
  have D1 : Df K mg "_law_pen" sPen ["_law_cell"] _ d1 := ⟨F1, F1.binds (ps := ["_law_cell"]) (fun _ _ _ _ _ _ us hl => match us, hl with | [_], _ => rfl), g1⟩
  obtain ⟨d2, F2'⟩ := c.t.d.def_ 2 (d := mkD "_law_draw" sDraw) rfl
  have g2 := He.glo_ok X G (c.t.d.fact 2 (f := .glo "_law_draw") rfl)
  have F2 : Fun K "_law_draw" "_law_draw" sDraw (He.fAd K ("_law_draw", none)) d2 := funOf F2'
  have D2 : Df K mg "_law_draw" sDraw ["_law_pen_here", "_law_bound"] _ d2 := ⟨F2, F2.binds (ps := ["_law_pen_here", "_law_bound"]) (fun _ _ _ _ _ _ us hl => match us, hl with | [_, _], _ => rfl), g2⟩
  obtain ⟨d3, F3'⟩ := c.t.d.def_ 3 (d := mkD "_law_day" sDay) rfl
  have g3 := He.glo_ok X G (c.t.d.fact 3 (f := .glo "_law_day") rfl)
  have F3 : Fun K "_law_day" "_law_day" sDay (He.fAd K ("_law_day", none)) d3 := funOf F3'
  have D3 : Df K mg "_law_day" sDay ["_law_pen_here"] _ d3 := ⟨F3, F3.binds (ps := ["_law_pen_here"]) (fun _ _ _ _ _ _ us hl => match us, hl with | [_], _ => rfl), g3⟩
  obtain ⟨d4, F4'⟩ := c.t.d.def_ 4 (d := mkD "_law_folk" sFolk) rfl
  have g4 := He.glo_ok X G (c.t.d.fact 4 (f := .glo "_law_folk") rfl)
  have F4 : Fun K "_law_folk" "_law_folk" sFolk (He.fAd K ("_law_folk", none)) d4 := funOf F4'
  have D4 : Df K mg "_law_folk" sFolk ["_law_pen_here", "_law_least"] _ d4 := ⟨F4, F4.binds (ps := ["_law_pen_here", "_law_least"]) (fun _ _ _ _ _ _ us hl => match us, hl with | [_, _], _ => rfl), g4⟩
  obtain ⟨d5, F5'⟩ := c.t.d.def_ 5 (d := mkD "_law_mixed" sMixed) rfl
  have g5 := He.glo_ok X G (c.t.d.fact 5 (f := .glo "_law_mixed") rfl)
  have F5 : Fun K "_law_mixed" "_law_mixed" sMixed (He.fAd K ("_law_mixed", none)) d5 := funOf F5'
  have D5 : Df K mg "_law_mixed" sMixed ["_law_pen_here", "_law_some"] _ d5 := ⟨F5, F5.binds (ps := ["_law_pen_here", "_law_some"]) (fun _ _ _ _ _ _ us hl => match us, hl with | [_, _], _ => rfl), g5⟩
  obtain ⟨d6, F6'⟩ := c.t.d.def_ 6 (d := mkD "_law_few" sFew) rfl
  have g6 := He.glo_ok X G (c.t.d.fact 6 (f := .glo "_law_few") rfl)
  have F6 : Fun K "_law_few" "_law_few" sFew (He.fAd K ("_law_few", none)) d6 := funOf F6'
  have D6 : Df K mg "_law_few" sFew ["_law_pen_here", "_law_some", "_law_most"] _ d6 := ⟨F6, F6.binds (ps := ["_law_pen_here", "_law_some", "_law_most"]) (fun _ _ _ _ _ _ us hl => match us, hl with | [_, _, _], _ => rfl), g6⟩
  obtain ⟨d7, F7'⟩ := c.t.d.def_ 7 (d := mkD "_law_deed" sDeed) rfl
  have g7 := He.glo_ok X G (c.t.d.fact 7 (f := .glo "_law_deed") rfl)
  have F7 : Fun K "_law_deed" "_law_deed" sDeed (He.fAd K ("_law_deed", none)) d7 := funOf F7'
  have D7 : Df K mg "_law_deed" sDeed ["_law_pen_here", "_law_number_here", "_law_folk_here", "_law_deeds"] _ d7 := ⟨F7, F7.binds (ps := ["_law_pen_here", "_law_number_here", "_law_folk_here", "_law_deeds"]) (fun _ _ _ _ _ _ us hl => match us, hl with | [_, _, _, _], _ => rfl), g7⟩
  obtain ⟨d8, F8'⟩ := c.t.d.def_ 8 (d := mkD "_law_act" sAct) rfl
  have g8 := He.glo_ok X G (c.t.d.fact 8 (f := .glo "_law_act") rfl)
  have F8 : Fun K "_law_act" "_law_act" sAct (He.fAd K ("_law_act", none)) d8 := funOf F8'
  have D8 : Df K mg "_law_act" sAct ["_law_pen_here", "_law_number_here", "_law_deeds", "_law_acts"] _ d8 := ⟨F8, F8.binds (ps := ["_law_pen_here", "_law_number_here", "_law_deeds", "_law_acts"]) (fun _ _ _ _ _ _ us hl => match us, hl with | [_, _, _, _], _ => rfl), g8⟩
  obtain ⟨d9, F9'⟩ := c.t.d.def_ 9 (d := mkD "_law_book" sBook) rfl
  have g9 := He.glo_ok X G (c.t.d.fact 9 (f := .glo "_law_book") rfl)
  have F9 : Fun K "_law_book" "_law_book" sBook (He.fAd K ("_law_book", none)) d9 := funOf F9'
  have D9 : Df K mg "_law_book" sBook ["_law_pen_here", "_law_most"] _ d9 := ⟨F9, F9.binds (ps := ["_law_pen_here", "_law_most"]) (fun _ _ _ _ _ _ us hl => match us, hl with | [_, _], _ => rfl), g9⟩
  obtain ⟨d10, F10'⟩ := c.t.d.def_ 10 (d := mkD "is_whole" sWhole) rfl
  have g10 := He.glo_ok X G (c.t.d.fact 10 (f := .glo "is_whole") rfl)
  have F10 : Fun K "is_whole" "is_whole" sWhole (He.fAd K ("is_whole", none)) d10 := funOf F10'
  have D10 : Df K mg "is_whole" sWhole ["thing"] _ d10 := ⟨F10, F10.binds (ps := ["thing"]) (fun _ _ _ _ _ _ us hl => match us, hl with | [_], _ => rfl), g10⟩
  obtain ⟨d11, F11'⟩ := c.t.d.def_ 11 (d := mkD "is_within" sWithin) rfl
  have g11 := He.glo_ok X G (c.t.d.fact 11 (f := .glo "is_within") rfl)
  have F11 : Fun K "is_within" "is_within" sWithin (He.fAd K ("is_within", none)) d11 := funOf F11'
  have D11 : Df K mg "is_within" sWithin ["thing", "low", "high"] _ d11 := ⟨F11, F11.binds (ps := ["thing", "low", "high"]) (fun _ _ _ _ _ _ us hl => match us, hl with | [_, _, _], _ => rfl), g11⟩
  obtain ⟨d12, F12'⟩ := c.t.d.def_ 12 (d := mkD "is_day" sIsDay) rfl
  have g12 := He.glo_ok X G (c.t.d.fact 12 (f := .glo "is_day") rfl)
  have F12 : Fun K "is_day" "is_day" sIsDay (He.fAd K ("is_day", none)) d12 := funOf F12'
  have D12 : Df K mg "is_day" sIsDay ["thing"] _ d12 := ⟨F12, F12.binds (ps := ["thing"]) (fun _ _ _ _ _ _ us hl => match us, hl with | [_], _ => rfl), g12⟩
  obtain ⟨d13, F13'⟩ := c.t.d.def_ 13 (d := mkD "is_age" sIsAgeG) rfl
  have g13 := He.glo_ok X G (c.t.d.fact 13 (f := .glo "is_age") rfl)
  have F13 : Fun K "is_age" "is_age" sIsAgeG (He.fAd K ("is_age", none)) d13 := funOf F13'
  have D13 : Df K mg "is_age" sIsAgeG ["thing"] _ d13 := ⟨F13, F13.binds (ps := ["thing"]) (fun _ _ _ _ _ _ us hl => match us, hl with | [_], _ => rfl), g13⟩
  obtain ⟨d14, F14'⟩ := c.t.d.def_ 14 (d := mkD "is_person" sIsPerson) rfl
  have g14 := He.glo_ok X G (c.t.d.fact 14 (f := .glo "is_person") rfl)
  have F14 : Fun K "is_person" "is_person" sIsPerson (He.fAd K ("is_person", none)) d14 := funOf F14'
  have D14 : Df K mg "is_person" sIsPerson ["thing"] _ d14 := ⟨F14, F14.binds (ps := ["thing"]) (fun _ _ _ _ _ _ us hl => match us, hl with | [_], _ => rfl), g14⟩
  obtain ⟨d15, F15'⟩ := c.t.d.def_ 15 (d := mkD "is_folk" sIsFolkG) rfl
  have g15 := He.glo_ok X G (c.t.d.fact 15 (f := .glo "is_folk") rfl)
  have F15 : Fun K "is_folk" "is_folk" sIsFolkG (He.fAd K ("is_folk", none)) d15 := funOf F15'
  have D15 : Df K mg "is_folk" sIsFolkG ["thing"] _ d15 := ⟨F15, F15.binds (ps := ["thing"]) (fun _ _ _ _ _ _ us hl => match us, hl with | [_], _ => rfl), g15⟩
  obtain ⟨d16, F16'⟩ := c.t.d.def_ 16 (d := mkD "is_rising" sIsRisG) rfl
  have g16 := He.glo_ok X G (c.t.d.fact 16 (f := .glo "is_rising") rfl)
  have F16 : Fun K "is_rising" "is_rising" sIsRisG (He.fAd K ("is_rising", none)) d16 := funOf F16'
  have D16 : Df K mg "is_rising" sIsRisG ["things"] _ d16 := ⟨F16, F16.binds (ps := ["things"]) (fun _ _ _ _ _ _ us hl => match us, hl with | [_], _ => rfl), g16⟩
  obtain ⟨d17, F17'⟩ := c.t.d.def_ 17 (d := mkD "is_rising_below" sIsRisB) rfl
  have g17 := He.glo_ok X G (c.t.d.fact 17 (f := .glo "is_rising_below") rfl)
  have F17 : Fun K "is_rising_below" "is_rising_below" sIsRisB (He.fAd K ("is_rising_below", none)) d17 := funOf F17'
  have D17 : Df K mg "is_rising_below" sIsRisB ["thing", "most", "limit"] _ d17 := ⟨F17, F17.binds (ps := ["thing", "most", "limit"]) (fun _ _ _ _ _ _ us hl => match us, hl with | [_, _, _], _ => rfl), g17⟩
  obtain ⟨d18, F18'⟩ := c.t.d.def_ 18 (d := mkD "is_deed_tail" sIsDeedT) rfl
  have g18 := He.glo_ok X G (c.t.d.fact 18 (f := .glo "is_deed_tail") rfl)
  have F18 : Fun K "is_deed_tail" "is_deed_tail" sIsDeedT (He.fAd K ("is_deed_tail", none)) d18 := funOf F18'
  have D18 : Df K mg "is_deed_tail" sIsDeedT ["folk", "number", "tail"] _ d18 := ⟨F18, F18.binds (ps := ["folk", "number", "tail"]) (fun _ _ _ _ _ _ us hl => match us, hl with | [_, _, _], _ => rfl), g18⟩
  obtain ⟨d19, F19'⟩ := c.t.d.def_ 19 (d := mkD "is_act_tail" sIsActT) rfl
  have g19 := He.glo_ok X G (c.t.d.fact 19 (f := .glo "is_act_tail") rfl)
  have F19 : Fun K "is_act_tail" "is_act_tail" sIsActT (He.fAd K ("is_act_tail", none)) d19 := funOf F19'
  have D19 : Df K mg "is_act_tail" sIsActT ["number", "tail"] _ d19 := ⟨F19, F19.binds (ps := ["number", "tail"]) (fun _ _ _ _ _ _ us hl => match us, hl with | [_, _], _ => rfl), g19⟩
  obtain ⟨d20, F20'⟩ := c.t.d.def_ 20 (d := mkD "is_entry" sIsEntG) rfl
  have g20 := He.glo_ok X G (c.t.d.fact 20 (f := .glo "is_entry") rfl)
  have F20 : Fun K "is_entry" "is_entry" sIsEntG (He.fAd K ("is_entry", none)) d20 := funOf F20'
  have D20 : Df K mg "is_entry" sIsEntG ["folk", "thing"] _ d20 := ⟨F20, F20.binds (ps := ["folk", "thing"]) (fun _ _ _ _ _ _ us hl => match us, hl with | [_, _], _ => rfl), g20⟩
  obtain ⟨d21, F21'⟩ := c.t.d.def_ 21 (d := mkD "names_fit" sNFit) rfl
  have g21 := He.glo_ok X G (c.t.d.fact 21 (f := .glo "names_fit") rfl)
  have F21 : Fun K "names_fit" "names_fit" sNFit (He.fAd K ("names_fit", none)) d21 := funOf F21'
  have D21 : Df K mg "names_fit" sNFit ["words", "entry"] _ d21 := ⟨F21, F21.binds (ps := ["words", "entry"]) (fun _ _ _ _ _ _ us hl => match us, hl with | [_, _], _ => rfl), g21⟩
  obtain ⟨d22, F22'⟩ := c.t.d.def_ 22 (d := mkD "is_book" sIsBk) rfl
  have g22 := He.glo_ok X G (c.t.d.fact 22 (f := .glo "is_book") rfl)
  have F22 : Fun K "is_book" "is_book" sIsBk (He.fAd K ("is_book", none)) d22 := funOf F22'
  have D22 : Df K mg "is_book" sIsBk ["thing"] _ d22 := ⟨F22, F22.binds (ps := ["thing"]) (fun _ _ _ _ _ _ us hl => match us, hl with | [_], _ => rfl), g22⟩
  obtain ⟨d23, F23'⟩ := c.t.d.def_ 23 (d := mkD "entries_rising" sRising) rfl
  have g23 := He.glo_ok X G (c.t.d.fact 23 (f := .glo "entries_rising") rfl)
  have F23 : Fun K "entries_rising" "entries_rising" sRising (He.fAd K ("entries_rising", none)) d23 := funOf F23'
  have D23 : Df K mg "entries_rising" sRising ["book"] _ d23 := ⟨F23, F23.binds (ps := ["book"]) (fun _ _ _ _ _ _ us hl => match us, hl with | [_], _ => rfl), g23⟩
  obtain ⟨d24, F24'⟩ := c.t.d.def_ 24 (d := mkD "person_text" sPerT) rfl
  have g24 := He.glo_ok X G (c.t.d.fact 24 (f := .glo "person_text") rfl)
  have F24 : Fun K "person_text" "person_text" sPerT (He.fAd K ("person_text", none)) d24 := funOf F24'
  have D24 : Df K mg "person_text" sPerT ["person"] _ d24 := ⟨F24, F24.binds (ps := ["person"]) (fun _ _ _ _ _ _ us hl => match us, hl with | [_], _ => rfl), g24⟩
  obtain ⟨d25, F25'⟩ := c.t.d.def_ 25 (d := mkD "part_text" sPartT) rfl
  have g25 := He.glo_ok X G (c.t.d.fact 25 (f := .glo "part_text") rfl)
  have F25 : Fun K "part_text" "part_text" sPartT (He.fAd K ("part_text", none)) d25 := funOf F25'
  have D25 : Df K mg "part_text" sPartT ["part"] _ d25 := ⟨F25, F25.binds (ps := ["part"]) (fun _ _ _ _ _ _ us hl => match us, hl with | [_], _ => rfl), g25⟩
  obtain ⟨d26, F26'⟩ := c.t.d.def_ 26 (d := mkD "book_text" sBookTx) rfl
  have g26 := He.glo_ok X G (c.t.d.fact 26 (f := .glo "book_text") rfl)
  have F26 : Fun K "book_text" "book_text" sBookTx (He.fAd K ("book_text", none)) d26 := funOf F26'
  have D26 : Df K mg "book_text" sBookTx ["book"] _ d26 := ⟨F26, F26.binds (ps := ["book"]) (fun _ _ _ _ _ _ us hl => match us, hl with | [_], _ => rfl), g26⟩
  obtain ⟨d27, F27'⟩ := c.t.d.def_ 27 (d := mkD "is_number_text" sIsNumT) rfl
  have g27 := He.glo_ok X G (c.t.d.fact 27 (f := .glo "is_number_text") rfl)
  have F27 : Fun K "is_number_text" "is_number_text" sIsNumT (He.fAd K ("is_number_text", none)) d27 := funOf F27'
  have D27 : Df K mg "is_number_text" sIsNumT ["text"] _ d27 := ⟨F27, F27.binds (ps := ["text"]) (fun _ _ _ _ _ _ us hl => match us, hl with | [_], _ => rfl), g27⟩
  obtain ⟨d28, F28'⟩ := c.t.d.def_ 28 (d := mkD "are_number_texts" sAreNumT) rfl
  have g28 := He.glo_ok X G (c.t.d.fact 28 (f := .glo "are_number_texts") rfl)
  have F28 : Fun K "are_number_texts" "are_number_texts" sAreNumT (He.fAd K ("are_number_texts", none)) d28 := funOf F28'
  have D28 : Df K mg "are_number_texts" sAreNumT ["texts"] _ d28 := ⟨F28, F28.binds (ps := ["texts"]) (fun _ _ _ _ _ _ us hl => match us, hl with | [_], _ => rfl), g28⟩
  obtain ⟨d29, F29'⟩ := c.t.d.def_ 29 (d := mkD "is_list_text" sIsListT) rfl
  have g29 := He.glo_ok X G (c.t.d.fact 29 (f := .glo "is_list_text") rfl)
  have F29 : Fun K "is_list_text" "is_list_text" sIsListT (He.fAd K ("is_list_text", none)) d29 := funOf F29'
  have D29 : Df K mg "is_list_text" sIsListT ["text"] _ d29 := ⟨F29, F29.binds (ps := ["text"]) (fun _ _ _ _ _ _ us hl => match us, hl with | [_], _ => rfl), g29⟩
  obtain ⟨d30, F30'⟩ := c.t.d.def_ 30 (d := mkD "list_read" sListRd) rfl
  have g30 := He.glo_ok X G (c.t.d.fact 30 (f := .glo "list_read") rfl)
  have F30 : Fun K "list_read" "list_read" sListRd (He.fAd K ("list_read", none)) d30 := funOf F30'
  have D30 : Df K mg "list_read" sListRd ["text"] _ d30 := ⟨F30, F30.binds (ps := ["text"]) (fun _ _ _ _ _ _ us hl => match us, hl with | [_], _ => rfl), g30⟩
  obtain ⟨d31, F31'⟩ := c.t.d.def_ 31 (d := mkD "person_read" sPerRd) rfl
  have g31 := He.glo_ok X G (c.t.d.fact 31 (f := .glo "person_read") rfl)
  have F31 : Fun K "person_read" "person_read" sPerRd (He.fAd K ("person_read", none)) d31 := funOf F31'
  have D31 : Df K mg "person_read" sPerRd ["text"] _ d31 := ⟨F31, F31.binds (ps := ["text"]) (fun _ _ _ _ _ _ us hl => match us, hl with | [_], _ => rfl), g31⟩
  obtain ⟨d32, F32'⟩ := c.t.d.def_ 32 (d := mkD "folk_read" sFolkRd) rfl
  have g32 := He.glo_ok X G (c.t.d.fact 32 (f := .glo "folk_read") rfl)
  have F32 : Fun K "folk_read" "folk_read" sFolkRd (He.fAd K ("folk_read", none)) d32 := funOf F32'
  have D32 : Df K mg "folk_read" sFolkRd ["words"] _ d32 := ⟨F32, F32.binds (ps := ["words"]) (fun _ _ _ _ _ _ us hl => match us, hl with | [_], _ => rfl), g32⟩
  obtain ⟨d33, F33'⟩ := c.t.d.def_ 33 (d := mkD "deed_tail_read" sDeedTl) rfl
  have g33 := He.glo_ok X G (c.t.d.fact 33 (f := .glo "deed_tail_read") rfl)
  have F33 : Fun K "deed_tail_read" "deed_tail_read" sDeedTl (He.fAd K ("deed_tail_read", none)) d33 := funOf F33'
  have D33 : Df K mg "deed_tail_read" sDeedTl ["words"] _ d33 := ⟨F33, F33.binds (ps := ["words"]) (fun _ _ _ _ _ _ us hl => match us, hl with | [_], _ => rfl), g33⟩
  obtain ⟨d34, F34'⟩ := c.t.d.def_ 34 (d := mkD "tail_read" sTailRd) rfl
  have g34 := He.glo_ok X G (c.t.d.fact 34 (f := .glo "tail_read") rfl)
  have F34 : Fun K "tail_read" "tail_read" sTailRd (He.fAd K ("tail_read", none)) d34 := funOf F34'
  have D34 : Df K mg "tail_read" sTailRd ["word", "words"] _ d34 := ⟨F34, F34.binds (ps := ["word", "words"]) (fun _ _ _ _ _ _ us hl => match us, hl with | [_, _], _ => rfl), g34⟩
  obtain ⟨d35, F35'⟩ := c.t.d.def_ 35 (d := mkD "entry_read" sEntRd) rfl
  have g35 := He.glo_ok X G (c.t.d.fact 35 (f := .glo "entry_read") rfl)
  have F35 : Fun K "entry_read" "entry_read" sEntRd (He.fAd K ("entry_read", none)) d35 := funOf F35'
  have D35 : Df K mg "entry_read" sEntRd ["words"] _ d35 := ⟨F35, F35.binds (ps := ["words"]) (fun _ _ _ _ _ _ us hl => match us, hl with | [_], _ => rfl), g35⟩
  obtain ⟨d36, F36'⟩ := c.t.d.def_ 36 (d := mkD "parts_read" sPartsRd) rfl
  have g36 := He.glo_ok X G (c.t.d.fact 36 (f := .glo "parts_read") rfl)
  have F36 : Fun K "parts_read" "parts_read" sPartsRd (He.fAd K ("parts_read", none)) d36 := funOf F36'
  have D36 : Df K mg "parts_read" sPartsRd ["text"] _ d36 := ⟨F36, F36.binds (ps := ["text"]) (fun _ _ _ _ _ _ us hl => match us, hl with | [_], _ => rfl), g36⟩
  obtain ⟨d37, F37'⟩ := c.t.d.def_ 37 (d := mkD "book_read" sBookRd) rfl
  have g37 := He.glo_ok X G (c.t.d.fact 37 (f := .glo "book_read") rfl)
  have F37 : Fun K "book_read" "book_read" sBookRd (He.fAd K ("book_read", none)) d37 := funOf F37'
  have D37 : Df K mg "book_read" sBookRd ["text"] _ d37 := ⟨F37, F37.binds (ps := ["text"]) (fun _ _ _ _ _ _ us hl => match us, hl with | [_], _ => rfl), g37⟩
  obtain ⟨d38, F38'⟩ := c.t.d.def_ 38 (d := mkD "_law_folk_text" sLFolkT) rfl
  have g38 := He.glo_ok X G (c.t.d.fact 38 (f := .glo "_law_folk_text") rfl)
  have F38 : Fun K "_law_folk_text" "_law_folk_text" sLFolkT (He.fAd K ("_law_folk_text", none)) d38 := funOf F38'
  have D38 : Df K mg "_law_folk_text" sLFolkT ["_law_folk_here"] _ d38 := ⟨F38, F38.binds (ps := ["_law_folk_here"]) (fun _ _ _ _ _ _ us hl => match us, hl with | [_], _ => rfl), g38⟩
  obtain ⟨d39, F39'⟩ := c.t.d.def_ 39 (d := mkD "_law_words" sLWords) rfl
  have g39 := He.glo_ok X G (c.t.d.fact 39 (f := .glo "_law_words") rfl)
  have F39 : Fun K "_law_words" "_law_words" sLWords (He.fAd K ("_law_words", none)) d39 := funOf F39'
  have D39 : Df K mg "_law_words" sLWords ["_law_things"] _ d39 := ⟨F39, F39.binds (ps := ["_law_things"]) (fun _ _ _ _ _ _ us hl => match us, hl with | [_], _ => rfl), g39⟩
  obtain ⟨d40, F40'⟩ := c.t.d.def_ 40 (d := mkD "_law_row" sLRow) rfl
  have g40 := He.glo_ok X G (c.t.d.fact 40 (f := .glo "_law_row") rfl)
  have F40 : Fun K "_law_row" "_law_row" sLRow (He.fAd K ("_law_row", none)) d40 := funOf F40'
  have D40 : Df K mg "_law_row" sLRow ["_law_numbers"] _ d40 := ⟨F40, F40.binds (ps := ["_law_numbers"]) (fun _ _ _ _ _ _ us hl => match us, hl with | [_], _ => rfl), g40⟩
  obtain ⟨d41, F41'⟩ := c.t.d.def_ 41 (d := mkD "_law_entry_text" sLEntT) rfl
  have g41 := He.glo_ok X G (c.t.d.fact 41 (f := .glo "_law_entry_text") rfl)
  have F41 : Fun K "_law_entry_text" "_law_entry_text" sLEntT (He.fAd K ("_law_entry_text", none)) d41 := funOf F41'
  have D41 : Df K mg "_law_entry_text" sLEntT ["_law_entry"] _ d41 := ⟨F41, F41.binds (ps := ["_law_entry"]) (fun _ _ _ _ _ _ us hl => match us, hl with | [_], _ => rfl), g41⟩
  obtain ⟨d42, F42'⟩ := c.t.d.def_ 42 (d := mkD "_law_book_text" sLBookT) rfl
  have g42 := He.glo_ok X G (c.t.d.fact 42 (f := .glo "_law_book_text") rfl)
  have F42 : Fun K "_law_book_text" "_law_book_text" sLBookT (He.fAd K ("_law_book_text", none)) d42 := funOf F42'
  have D42 : Df K mg "_law_book_text" sLBookT ["_law_book_here"] _ d42 := ⟨F42, F42.binds (ps := ["_law_book_here"]) (fun _ _ _ _ _ _ us hl => match us, hl with | [_], _ => rfl), g42⟩
  obtain ⟨d43, F43'⟩ := c.t.d.def_ 43 (d := mkD "_law_one_sign" sLOneSign) rfl
  have g43 := He.glo_ok X G (c.t.d.fact 43 (f := .glo "_law_one_sign") rfl)
  have F43 : Fun K "_law_one_sign" "_law_one_sign" sLOneSign (He.fAd K ("_law_one_sign", none)) d43 := funOf F43'
  have D43 : Df K mg "_law_one_sign" sLOneSign ["_law_pen_here", "_law_text"] _ d43 := ⟨F43, F43.binds (ps := ["_law_pen_here", "_law_text"]) (fun _ _ _ _ _ _ us hl => match us, hl with | [_, _], _ => rfl), g43⟩
  obtain ⟨d44, F44'⟩ := c.t.d.def_ 44 (d := mkD "_law_one_row" sLOneRow) rfl
  have g44 := He.glo_ok X G (c.t.d.fact 44 (f := .glo "_law_one_row") rfl)
  have F44 : Fun K "_law_one_row" "_law_one_row" sLOneRow (He.fAd K ("_law_one_row", none)) d44 := funOf F44'
  have D44 : Df K mg "_law_one_row" sLOneRow ["_law_pen_here", "_law_text"] _ d44 := ⟨F44, F44.binds (ps := ["_law_pen_here", "_law_text"]) (fun _ _ _ _ _ _ us hl => match us, hl with | [_, _], _ => rfl), g44⟩
  obtain ⟨d45, F45'⟩ := c.t.d.def_ 45 (d := mkD "_law_same" sLSame) rfl
  have g45 := He.glo_ok X G (c.t.d.fact 45 (f := .glo "_law_same") rfl)
  have F45 : Fun K "_law_same" "_law_same" sLSame (He.fAd K ("_law_same", none)) d45 := funOf F45'
  have D45 : Df K mg "_law_same" sLSame ["_law_one", "_law_other"] _ d45 := ⟨F45, F45.binds (ps := ["_law_one", "_law_other"]) (fun _ _ _ _ _ _ us hl => match us, hl with | [_, _], _ => rfl), g45⟩
  obtain ⟨d46, F46'⟩ := c.t.d.def_ 46 (d := mkD "_law_read_so" sLReadSo) rfl
  have g46 := He.glo_ok X G (c.t.d.fact 46 (f := .glo "_law_read_so") rfl)
  have F46 : Fun K "_law_read_so" "_law_read_so" sLReadSo (He.fAd K ("_law_read_so", none)) d46 := funOf F46'
  have D46 : Df K mg "_law_read_so" sLReadSo ["_law_text", "_law_due"] _ d46 := ⟨F46, F46.binds (ps := ["_law_text", "_law_due"]) (fun _ _ _ _ _ _ us hl => match us, hl with | [_, _], _ => rfl), g46⟩
  obtain ⟨d47, F47'⟩ := c.t.d.def_ 47 (d := mkD "_law_number" sLNumber) rfl
  have g47 := He.glo_ok X G (c.t.d.fact 47 (f := .glo "_law_number") rfl)
  have F47 : Fun K "_law_number" "_law_number" sLNumber (He.fAd K ("_law_number", none)) d47 := funOf F47'
  have D47 : Df K mg "_law_number" sLNumber ["_law_word"] _ d47 := ⟨F47, F47.binds (ps := ["_law_word"]) (fun _ _ _ _ _ _ us hl => match us, hl with | [_], _ => rfl), g47⟩
  obtain ⟨d48, F48'⟩ := c.t.d.def_ 48 (d := mkD "_law_list" sLList) rfl
  have g48 := He.glo_ok X G (c.t.d.fact 48 (f := .glo "_law_list") rfl)
  have F48 : Fun K "_law_list" "_law_list" sLList (He.fAd K ("_law_list", none)) d48 := funOf F48'
  have D48 : Df K mg "_law_list" sLList ["_law_words_here"] _ d48 := ⟨F48, F48.binds (ps := ["_law_words_here"]) (fun _ _ _ _ _ _ us hl => match us, hl with | [_], _ => rfl), g48⟩
  obtain ⟨d49, F49'⟩ := c.t.d.def_ 49 (d := mkD "_law_person_of" sLPerOf) rfl
  have g49 := He.glo_ok X G (c.t.d.fact 49 (f := .glo "_law_person_of") rfl)
  have F49 : Fun K "_law_person_of" "_law_person_of" sLPerOf (He.fAd K ("_law_person_of", none)) d49 := funOf F49'
  have D49 : Df K mg "_law_person_of" sLPerOf ["_law_word"] _ d49 := ⟨F49, F49.binds (ps := ["_law_word"]) (fun _ _ _ _ _ _ us hl => match us, hl with | [_], _ => rfl), g49⟩
  obtain ⟨d50, F50'⟩ := c.t.d.def_ 50 (d := mkD "_law_folk_of" sLFolkOf) rfl
  have g50 := He.glo_ok X G (c.t.d.fact 50 (f := .glo "_law_folk_of") rfl)
  have F50 : Fun K "_law_folk_of" "_law_folk_of" sLFolkOf (He.fAd K ("_law_folk_of", none)) d50 := funOf F50'
  have D50 : Df K mg "_law_folk_of" sLFolkOf ["_law_words_here"] _ d50 := ⟨F50, F50.binds (ps := ["_law_words_here"]) (fun _ _ _ _ _ _ us hl => match us, hl with | [_], _ => rfl), g50⟩
  obtain ⟨d51, F51'⟩ := c.t.d.def_ 51 (d := mkD "_law_listed" sLListed) rfl
  have g51 := He.glo_ok X G (c.t.d.fact 51 (f := .glo "_law_listed") rfl)
  have F51 : Fun K "_law_listed" "_law_listed" sLListed (He.fAd K ("_law_listed", none)) d51 := funOf F51'
  have D51 : Df K mg "_law_listed" sLListed ["_law_word"] _ d51 := ⟨F51, F51.binds (ps := ["_law_word"]) (fun _ _ _ _ _ _ us hl => match us, hl with | [_], _ => rfl), g51⟩
  obtain ⟨d52, F52'⟩ := c.t.d.def_ 52 (d := mkD "_law_entry_of" sLEntryOf) rfl
  have g52 := He.glo_ok X G (c.t.d.fact 52 (f := .glo "_law_entry_of") rfl)
  have F52 : Fun K "_law_entry_of" "_law_entry_of" sLEntryOf (He.fAd K ("_law_entry_of", none)) d52 := funOf F52'
  have D52 : Df K mg "_law_entry_of" sLEntryOf ["_law_words_here"] _ d52 := ⟨F52, F52.binds (ps := ["_law_words_here"]) (fun _ _ _ _ _ _ us hl => match us, hl with | [_], _ => rfl), g52⟩
  obtain ⟨d53, F53'⟩ := c.t.d.def_ 53 (d := mkD "_law_book_of" sLBookOf) rfl
  have g53 := He.glo_ok X G (c.t.d.fact 53 (f := .glo "_law_book_of") rfl)
  have F53 : Fun K "_law_book_of" "_law_book_of" sLBookOf (He.fAd K ("_law_book_of", none)) d53 := funOf F53'
  have D53 : Df K mg "_law_book_of" sLBookOf ["_law_text"] _ d53 := ⟨F53, F53.binds (ps := ["_law_text"]) (fun _ _ _ _ _ _ us hl => match us, hl with | [_], _ => rfl), g53⟩
  obtain ⟨d54, F54'⟩ := c.t.d.def_ 54 (d := mkD "_law_written_so" sLWrittenSo) rfl
  have g54 := He.glo_ok X G (c.t.d.fact 54 (f := .glo "_law_written_so") rfl)
  have F54 : Fun K "_law_written_so" "_law_written_so" sLWrittenSo (He.fAd K ("_law_written_so", none)) d54 := funOf F54'
  have D54 : Df K mg "_law_written_so" sLWrittenSo [] _ d54 := ⟨F54, F54.binds (ps := []) (fun _ _ _ _ _ _ us hl => match us, hl with | [], _ => rfl), g54⟩
  obtain ⟨d55, F55'⟩ := c.t.d.def_ 55 (d := mkD "_law_thing" sLThing) rfl
  have g55 := He.glo_ok X G (c.t.d.fact 55 (f := .glo "_law_thing") rfl)
  have F55 : Fun K "_law_thing" "_law_thing" sLThing (He.fAd K ("_law_thing", none)) d55 := funOf F55'
  have D55 : Df K mg "_law_thing" sLThing ["_law_pen_here", "_law_deep"] _ d55 := ⟨F55, F55.binds (ps := ["_law_pen_here", "_law_deep"]) (fun _ _ _ _ _ _ us hl => match us, hl with | [_, _], _ => rfl), g55⟩
  obtain ⟨d56, F56'⟩ := c.t.d.def_ 56 (d := mkD "law" sLaw) rfl
  have g56 := He.glo_ok X G (c.t.d.fact 56 (f := .glo "law") rfl)
  have F56 : Fun K "law" "law" sLaw (He.fAd K ("law", none)) d56 := funOf F56'
  have m_range := He.free_ok X G (c.t.d.fact 57 (f := .free "range") rfl)
  have m_min := He.free_ok X G (c.t.d.fact 58 (f := .free "min") rfl)
  have m_max := He.free_ok X G (c.t.d.fact 59 (f := .free "max") rfl)
  have m_tuple := He.free_ok X G (c.t.d.fact 60 (f := .free "tuple") rfl)
  have m_list := He.free_ok X G (c.t.d.fact 61 (f := .free "list") rfl)
  have m_len := He.free_ok X G (c.t.d.fact 62 (f := .free "len") rfl)
  have m_sorted := He.free_ok X G (c.t.d.fact 63 (f := .free "sorted") rfl)
  have m_int := He.free_ok X G (c.t.d.fact 64 (f := .free "int") rfl)
  have m_isinstance := He.free_ok X G (c.t.d.fact 65 (f := .free "isinstance") rfl)
  have m_bool := He.free_ok X G (c.t.d.fact 66 (f := .free "bool") rfl)
  have m_any := He.free_ok X G (c.t.d.fact 67 (f := .free "any") rfl)
  have m_all := He.free_ok X G (c.t.d.fact 68 (f := .free "all") rfl)
  have m_zip := He.free_ok X G (c.t.d.fact 69 (f := .free "zip") rfl)
  have m_str := He.free_ok X G (c.t.d.fact 70 (f := .free "str") rfl)
  have i_NUMBER : MgInt mg "NUMBER" 0 := He.int_ok X G (c.t.d.fact 71 (f := .int "NUMBER" 0) rfl)
  have i_WORD : MgInt mg "WORD" 4 := He.int_ok X G (c.t.d.fact 72 (f := .int "WORD" 4) rfl)
  have i_OF : MgInt mg "OF" 5 := He.int_ok X G (c.t.d.fact 73 (f := .int "OF" 5) rfl)
  have i_RESTS : MgInt mg "RESTS" 7 := He.int_ok X G (c.t.d.fact 74 (f := .int "RESTS" 7) rfl)
  have i_LAST_DAY : MgInt mg "LAST_DAY" 9999 := He.int_ok X G (c.t.d.fact 75 (f := .int "LAST_DAY" 9999) rfl)
  have i_LAST_NUMBER : MgInt mg "LAST_NUMBER" 30 := He.int_ok X G (c.t.d.fact 76 (f := .int "LAST_NUMBER" 30) rfl)
  have i_LAST_HAND : MgInt mg "LAST_HAND" 3 := He.int_ok X G (c.t.d.fact 77 (f := .int "LAST_HAND" 3) rfl)
  have i_MOST_FOLK : MgInt mg "MOST_FOLK" 6 := He.int_ok X G (c.t.d.fact 78 (f := .int "MOST_FOLK" 6) rfl)
  have i_MOST_ENTRIES : MgInt mg "MOST_ENTRIES" 16 := He.int_ok X G (c.t.d.fact 79 (f := .int "MOST_ENTRIES" 16) rfl)
  have i_MOST_RESTS : MgInt mg "MOST_RESTS" 2 := He.int_ok X G (c.t.d.fact 80 (f := .int "MOST_RESTS" 2) rfl)
  have i_MOST_WITNESSES : MgInt mg "MOST_WITNESSES" 3 := He.int_ok X G (c.t.d.fact 81 (f := .int "MOST_WITNESSES" 3) rfl)
  have i_MOST_FIGURES : MgInt mg "MOST_FIGURES" 40 := He.int_ok X G (c.t.d.fact 82 (f := .int "MOST_FIGURES" 40) rfl)
  have e := hfa.symm.trans g56
  cases e
  have b := FunD.bindsA (ps := ["_law_script"]) F56' fun _ _ _ _ _ _ us hl => match us, hl with | [_], _ => rfl
  have B : Bi mg := ⟨m_range, m_min, m_max, m_tuple, m_list, m_len, m_sorted, m_int⟩
  have t0 : (("entries_rising", none) : He.Defn) ∈ tfAll := by unfold tfAll; simp only [List.mem_cons, true_or, or_true]
  have haw := c.more
  unfold exAll at haw
  have gAW := He.glo_ok X G (c.t.d.fact 83 (f := .glo "ACT_WORDS") rfl)
  have AW : ActWG K mg _ := ⟨gAW, fun H => He.tupB_ok haw H⟩
  have gTx := He.glo_ok X G (c.t.d.fact 84 (f := .glo "NoText") rfl)
  obtain ⟨xT1, xT2, xT3, xT4⟩ := He.exc_ok (c.t.d.fact 85 (f := .exc "NoText") rfl)
  have eTx := He.exm_ok (c.t.d.fact 86 (f := .exm "NoText" "NoText" true) rfl)
  have NT : ExcCl K mg "NoText" _ := ⟨xT1, gTx, xT2, xT3, xT4, eTx⟩
  have mT : ∀ {p : Addr × Str}, p ∈ ([((He.cT K ("entries_rising", none)).2, qRis)] : List (Addr × Str)) ↔ (p = ((He.cT K ("entries_rising", none)).2, qRis)) := by
    intro p
    simp only [List.mem_cons, List.not_mem_nil, or_false]
  refine ⟨d56, tfAll.map (He.cT K), spLaw K [((He.cT K ("entries_rising", none)).2, qRis)], fun p hp => ?_, fun p hp => ?_, fun p hp => ?_, fun s v => b s [v] rfl, fun H a ns hl _ hH hS => ?_, fun base hK hG hTB => ?_⟩
  · obtain ⟨q, hq, rfl⟩ := List.mem_map.mp hp
    exact c.empty q hq
  · obtain ⟨q, hq, rfl⟩ := List.mem_map.mp hp
    exact c.out q hq
  · obtain ⟨q, hq, rfl⟩ := List.mem_map.mp hp
    exact PySem.W.codeHd_of_K X (c.hd q hq)
  · refine ⟨a, ns, rfl, hS, hl, fun p hp => ?_, fun _ => rfl⟩
    obtain rfl := mT.mp hp
    exact TabS.nil (hH _ (List.mem_map.mpr ⟨_, t0, rfl⟩))
  · have tb0 := hTB _ (List.mem_map.mpr ⟨_, t0, rfl⟩)
    have u0 : ∀ p ∈ ([((He.cT K ("entries_rising", none)).2, qRis)] : List (Addr × Str)), p.1 = (He.cT K ("entries_rising", none)).2 → p.2 = qRis := fun p hp e => by
      obtain rfl := mT.mp hp
      rfl
    have R : RisD K mg base [((He.cT K ("entries_rising", none)).2, qRis)] _ d23 := ⟨D23, ⟨_, _, codeAt F23, tb0, mT.mpr rfl, u0⟩, m_sorted, i_NUMBER⟩
    let cDr : ∀ k, CDraw l.prog w K mg base (k + 1) := fun k => D2.call (ok_draw D2.F)
    let cMi : ∀ k, CallOk l.prog w K mg base (k + 2) "_law_mixed" _ (spMixed K) := fun k => D5.call (ok_mixed (k := k) D5.F D2 B)
    let cDy : ∀ k, CallOk l.prog w K mg base (k + 2) "_law_day" _ spDay := fun k => D3.call (ok_day (k := k + 1) D3.F (cDr k))
    let cFe : CallOk l.prog w K mg base 3 "_law_few" _ (spFew K) := D6.call (ok_few (k := 2) D6.F (cDr 1) (cMi 0) m_tuple m_sorted)
    let cDe : CallOk l.prog w K mg base 4 "_law_deed" _ (spDeed K) := D7.call (ok_deed (k := 3) D7.F (cDr 2) (cDy 1) (cMi 1) cFe m_list m_range m_len)
    let cAc : CallOk l.prog w K mg base 4 "_law_act" _ (spAct K) := D8.call (ok_act (k := 3) D8.F (cDr 2) (cDy 1) m_len)
    let cFo : CallOk l.prog w K mg base 4 "_law_folk" _ spFolk := D4.call (ok_folk (k := 3) D4.F (cDr 2) m_range m_min m_tuple)
    let cBo : CallOk l.prog w K mg base 5 "_law_book" _ spBook := D9.call (ok_book (k := 4) D9.F (cDr 3) cFo cDe cAc (cMi 2) m_int m_range m_tuple)
    let cWh : CallOk l.prog w K mg base 10 "is_whole" _ _ := D10.call (ok_IsWhole (k := 9) D10.F m_isinstance m_int m_bool)
    let cWi : CallOk l.prog w K mg base 11 "is_within" _ _ := D11.call (ok_IsWithin (k := 10) D11.F cWh)
    let cDa : CallOk l.prog w K mg base 12 "is_day" _ _ := D12.call (ok_IsDayG (k := 11) D12.F cWi i_LAST_DAY)
    let cPe : CallOk l.prog w K mg base 12 "is_person" _ _ := D14.call (ok_IsPerson (k := 11) D14.F cWi m_isinstance m_tuple m_len i_LAST_DAY)
    let cFk : CallOk l.prog w K mg base 13 "is_folk" _ _ := D15.call (ok_IsFolkG (k := 12) D15.F cPe m_isinstance m_tuple m_len m_all i_MOST_FOLK)
    let cRi : CallOk l.prog w K mg base 11 "is_rising" _ _ := D16.call (ok_IsRisG (k := 10) D16.F m_zip m_all)
    let cRb : CallOk l.prog w K mg base 12 "is_rising_below" _ _ := D17.call (ok_IsRisB (k := 11) D17.F cWi cRi m_isinstance m_tuple m_len m_all)
    let cDt : CallOk l.prog w K mg base 13 "is_deed_tail" _ _ := D18.call (ok_IsDeedT (k := 12) D18.F (cWi.mono (by decide)) cRb m_len i_MOST_RESTS i_MOST_WITNESSES)
    let cAt : CallOk l.prog w K mg base 13 "is_act_tail" _ _ := D19.call (ok_IsActT (k := 12) D19.F (cWi.mono (by decide)) m_len)
    let cEn : CallOk l.prog w K mg base 14 "is_entry" _ _ := D20.call (ok_IsEntG (k := 13) D20.F cFk (cWi.mono (by decide)) (cDa.mono (by decide)) cDt cAt m_isinstance m_tuple m_len i_OF i_LAST_NUMBER i_LAST_HAND AW)
    let cNf : CallOk l.prog w K mg base 14 "names_fit" _ _ := D21.call (ok_NFit (k := 13) D21.F m_all i_WORD i_RESTS i_OF AW)
    let cER : CallOk l.prog w K mg base 10 "entries_rising" ["book"] (spRising _) := D23.call (R.ok (k := 8))
    let cAg : CallOk l.prog w K mg base 12 "is_age" pIsAgeG (spB1 (Tg.within 0 9999)) := D13.call (ok_IsAgeG (k := 11) D13.F cWi i_LAST_DAY)
    let cNu : CallOk l.prog w K mg base 10 "is_number_text" _ _ := D27.call (ok_IsNumT (k := 9) D27.F m_len m_all i_MOST_FIGURES)
    let cNus : CallOk l.prog w K mg base 11 "are_number_texts" _ _ := D28.call (ok_AreNumT (k := 10) D28.F cNu m_all)
    let cLi : CallOk l.prog w K mg base 12 "is_list_text" _ spIsListA := D29.call (ok_IsListA (k := 11) D29.F cNus)
    let cLr : CallOk l.prog w K mg base 12 "list_read" _ spListRdA := D30.call (ok_ListRdA (k := 11) D30.F m_int m_tuple)
    let cPt : CallOk l.prog w K mg base 10 "person_text" _ _ := D24.call (ok_PerT (k := 9) D24.F)
    let cPr : CallOk l.prog w K mg base 11 "person_read" _ spPerRdA := D31.call (ok_PerRdA (k := 10) D31.F cNu m_int)
    let cPa : CallOk l.prog w K mg base 10 "part_text" _ _ := D25.call (ok_PartT (k := 9) D25.F m_isinstance m_tuple m_str)
    let cBt : CallOk l.prog w K mg base 11 "book_text" _ (spBookTx _) := D26.call (ok_BookTx (k := 10) D26.F cPt cER cPa)
    let cFr : CallOk l.prog w K mg base 12 "folk_read" _ spFolkRdA := D32.call (ok_FolkRdA (k := 11) D32.F cPr m_tuple)
    let cTl : CallOk l.prog w K mg base 13 "deed_tail_read" _ spDeedTlA := D33.call (ok_DeedTlA (k := 12) D33.F (cNus.mono (by decide)) cLi cLr m_len m_int)
    let cTr : CallOk l.prog w K mg base 14 "tail_read" _ spTailRdA := D34.call (ok_TailRdA (k := 13) D34.F AW cTl (cNu.mono (by decide)) m_len m_int)
    let cEr : CallOk l.prog w K mg base 15 "entry_read" _ spEntRdA := D35.call (ok_EntRdA (k := 14) D35.F (cNus.mono (by decide)) cTr m_len m_int m_tuple i_WORD i_OF)
    let cPs : CallOk l.prog w K mg base 16 "parts_read" _ spPartsRdA := D36.call (ok_PartsRdA (k := 15) D36.F (cFr.mono (by decide)) (cNu.mono (by decide)) cEr m_len m_int m_tuple)
    let cIb : CallOk l.prog w K mg base 16 "is_book" _ (spB1 isBookT) := D22.call (ok_IsBk (k := 15) D22.F (cFk.mono (by decide)) (cAg.mono (by decide)) (cEn.mono (by decide)) (cNf.mono (by decide)) m_isinstance m_tuple m_len m_all i_NUMBER i_WORD i_MOST_ENTRIES)
    let cBr : CallX l.prog w K mg base 17 "book_read" _ (spBookRdA _ [((He.cT K ("entries_rising", none)).2, qRis)]) := D37.callX (ok_BookRdA (k := 16) D37.F NT cPs cIb (cBt.mono (by decide)) m_isinstance m_str)
    let cLw : CallOk l.prog w K mg base 10 "_law_words" _ _ := D39.call (ok_LWords (k := 9) D39.F m_str)
    let cLo : CallOk l.prog w K mg base 10 "_law_row" _ _ := D40.call (ok_LRow (k := 9) D40.F m_str)
    let cLe : CallOk l.prog w K mg base 11 "_law_entry_text" _ _ := D41.call (ok_LEntT (k := 10) D41.F cLw cLo)
    let cLf : CallOk l.prog w K mg base 11 "_law_folk_text" _ _ := D38.call (ok_LFolkT (k := 10) D38.F m_str)
    let cLb : CallOk l.prog w K mg base 12 "_law_book_text" _ _ := D42.call (ok_LBookT (k := 11) D42.F cLf cLe m_str m_sorted)
    let cLn : CallOk l.prog w K mg base 10 "_law_number" _ spLNumber := D47.call (ok_LNumber (k := 9) D47.F m_int)
    let cLl : CallOk l.prog w K mg base 11 "_law_list" _ spLList := D48.call (ok_LList (k := 10) D48.F cLn m_tuple)
    let cLp : CallOk l.prog w K mg base 12 "_law_person_of" _ spLPerOf := D49.call (ok_LPerOf (k := 11) D49.F (cLn.mono (by decide)) cLl m_len)
    let cLg : CallOk l.prog w K mg base 13 "_law_folk_of" _ spLFolkOf := D50.call (ok_LFolkOf (k := 12) D50.F cLp m_tuple)
    let cLd : CallOk l.prog w K mg base 12 "_law_listed" _ spLListed := D51.call (ok_LListed (k := 11) D51.F cLl)
    let cLeo : CallOk l.prog w K mg base 13 "_law_entry_of" _ spLEntryOf := D52.call (ok_LEntryOf (k := 12) D52.F (cLl.mono (by decide)) cLd m_len)
    let cLbo : CallOk l.prog w K mg base 17 "_law_book_of" _ spLBookOf := D53.call (ok_LBookOf (k := 16) D53.F (cLg.mono (by decide)) (cLn.mono (by decide)) (cLeo.mono (by decide)) cIb m_len m_sorted m_tuple)
    let cLs : CallOk l.prog w K mg base 17 "_law_same" _ (spLSame 4) := D45.call (ok_LSame (k := 12) D45 m_isinstance m_tuple m_len m_zip m_all m_bool 4)
    let cLrs : CallOk l.prog w K mg base 18 "_law_read_so" _ (spLReadSo [((He.cT K ("entries_rising", none)).2, qRis)]) := D46.call (ok_LReadSo (k := 17) D46.F NT cBr cLs m_range)
    let cLws : CallOk l.prog w K mg base 19 "_law_written_so" _ (spLWrittenSo [((He.cT K ("entries_rising", none)).2, qRis)]) := D54.call (ok_LWrittenSo (k := 18) D54.F (cLbo.mono (by decide)) cLrs)
    let cL1 : CallOk l.prog w K mg base 10 "_law_one_sign" _ spLOneSign := D43.call (ok_LOneSign (k := 9) D43.F (cDr 8) m_len)
    let cL2 : CallOk l.prog w K mg base 10 "_law_one_row" _ spLOneRow := D44.call (ok_LOneRow (k := 9) D44.F (cDr 8) m_len)
    let cLt : CallOk l.prog w K mg base 14 "_law_thing" _ (spLThing 3) := D55.call (ok_LThing (k := 10) D55 (fun n => (cDr (9 + n)).mono (by omega)) m_range m_tuple 3)
    exact ok_law (k := 42) F56 (D0.call (ok_cell D0.F m_len)) (D1.call (ok_pen D1.F m_int)) (cBo.mono (by decide)) (cLb.mono (by decide)) (cL1.mono (by decide)) (cL2.mono (by decide)) (cLbo.mono (by decide)) (cLrs.mono (by decide)) (cLws.mono (by decide)) (cLt.mono (by decide)) m_range m_int m_isinstance m_str m_all
end Deed
open PySem PySem.W PySem.Calls PyProof.Rows
theorem PySem.Challenge.cw_deedsheaf_k82_texts_of_none_holds : PySem.Challenge.rw_deedsheaf_k82_texts_of_none.Holds := by
  w_on; o_law
  refine HandSHeadRun.head_any (r := OpenLaw.row PySem.Challenge.rw_deedsheaf_k82_texts_of_none) (q := view (OpenLaw.row PySem.Challenge.rw_deedsheaf_k82_texts_of_none).prog [75]) (H := Deed.hk) (ob := Deed.ob) (M := 12000) (loose := Deed.looseAll) (d := HandSHeadRun.topDef (OpenLaw.row PySem.Challenge.rw_deedsheaf_k82_texts_of_none).prog 75) (kwd := []) Deed.ob_eq
    (by kernel_rfl) (fun s => by kernel_rfl) Deed.run (by kernel_rfl) (by kernel_rfl) (by kernel_rfl) (by rfl) (by first | assumption | decide +kernel) (by decide +kernel) ⟨rfl, rfl, rfl, rfl, rfl, by decide +kernel⟩ ?hw ?hc
  case hw => w_witness2
  case hc =>
    refine LamX.walk_ofTsE (l := PySem.Challenge.rw_deedsheaf_k82_texts_of_none) (n := 63) (k := 43) (x := "_law_script") (CX := fun _ => L2.CX0) rfl (by decide) (by kernel_rfl) ⟨rfl, by decide, by decide⟩ ?F (fun _ _ _ _ _ z => z)
    intro w mg fa h Y G hmg0
    obtain ⟨K, KX, c⟩ := Y
    have hmg : mg ("law" : PySem.Str) = some (.ref fa) := by
      have e : (HandSHeadRun.topDef (OpenLaw.row PySem.Challenge.rw_deedsheaf_k82_texts_of_none).prog 75).name = ("law" : PySem.Str) := by kernel_rfl
      rw [← e]
      exact hmg0
    exact ⟨K, KX, Deed.facts KX G hmg c⟩
