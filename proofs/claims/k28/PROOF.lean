import PyProof.Rows.All
import Wide.All
import OpenK.AllK
import Wide.FinOn
import KE.SortKeyHeap
import KE.KLam
import HandS.ForMost
import HandS.ForExc
import HandS.Flow
import HandS.Style
import HandS.SortInts
import HandS.SortKw
import HandS.TupAny
import HandS.TupMul
import HandS.Lambda
import HandS.EndTab
import HandS.Head2
import HandS.HeadEnd
import HandS.HeadHook4
import HandS.HeadWalk
import HandS.Walk
import HandS.IsInst
import HandS.Defaults
import HandS.More
import HandS.DictComp
import HandS.ListItems
import HandS.SetFor
import HandS.Strs
import HandS.Zip
import HandS.TupSets
import KE.SortData
import KE.GoesMore
import HandS.Conv
import HandS.WordsDict
import HandS.MakeKw
import HandS.Codes
import KE.KIndexOf
import KE.KMinKey
import PyProof.WalksMore
import HandS.Finally
import PyProof.ReprRoads
import PyProof.Rows.StrJoinMade
import PySem.Challenge.RW_deedsheaf_k28_books_asked_by_turns
set_option Elab.async false
set_option linter.all false
set_option maxRecDepth 100000
set_option maxHeartbeats 0
set_option pp.maxSteps 1200

namespace Deed
open PySem PySem.Spec PyProof.Rows L2
def topS (i : Nat) : Stmt := PySem.Challenge.pw_deedsheaf_k28_books_asked_by_turns.main.body.getD i (.Pass ⟨0, 0, 0, 0⟩)
/-! ### heaps: all but the pen at p is as it was -/
def Kp (p : Addr) (H H' : Hp) : Prop := ∀ b o, b ≠ p → H b = some o → H' b = some o
theorem Kp.refl (p : Addr) (H : Hp) : Kp p H H := fun _ _ _ h => h
theorem Kp.trans {p : Addr} {H H1 H2 : Hp} (a : Kp p H H1) (b : Kp p H1 H2) : Kp p H H2 := fun c o n h => b c o n (a c o n h)
theorem Kp.new {p q : Addr} {H : Hp} (n : H q = none) (o : HO) : Kp p H (upd H q o) := fun b u _ e => by
  rw [upd_ne (ne_of_none e n)]
  exact e
theorem Kp.put {p : Addr} {H : Hp} (o : HO) : Kp p H (upd H p o) := fun b u n e => by
  rw [upd_ne n]
  exact e
theorem Kp.same {p : Addr} {H H' : Hp} (h : Same H H') : Kp p H H' := fun b o _ e => h b o e
/-- the pen: four whole numbers, the last one a rest -/
def PenAt (H : Hp) (p : Addr) : Prop := ∃ a f c e : Int, H p = some (.lst [.int a, .int f, .int c, .int e]) ∧ 0 ≤ e ∧ e < 1000000007
theorem PenAt.new {p q : Addr} {H : Hp} (h : PenAt H p) (n : H q = none) (o : HO) : PenAt (upd H q o) p := by
  obtain ⟨a, f, c, e, h1, h2⟩ := h
  refine ⟨a, f, c, e, ?_, h2⟩
  rw [upd_ne (ne_of_none h1 n)]
  exact h1
theorem PenAt.ne {p q : Addr} {H : Hp} {o : HO} (h : PenAt H p) (e : H q = some o) (no : ∀ xs, o ≠ .lst xs) : q ≠ p := fun z => by
  obtain ⟨a, f, c, e', h1, _⟩ := h
  rw [z, h1] at e
  exact no _ (Option.some.inj e).symm
theorem PenAt.free {p q : Addr} {H : Hp} (h : PenAt H p) (n : H q = none) : q ≠ p := fun z => by
  obtain ⟨a, f, c, e', h1, _⟩ := h
  rw [z, h1] at n
  cases n
section
variable {P : Program} {w : World} {K : PySem.W.Frag} {mg : Str → Option Value} {base : Heap}
/-! ### the script's cell -/
abbrev sCell : Stmt := topS 40
theorem scCell : FnScope ["_law_script", "_law_k"] ["_law_script", "_law_k"] (defScope sCell) := ⟨rfl, rfl, rfl, by decide +kernel, rfl, by decide +kernel, by decide +kernel⟩
def spCell (K : PySem.W.Frag) : Sp := fun vs H Q _ => ∃ (a : Addr) (ns : List Int) (k : Int), vs = [.ref a, .int k] ∧ SqL K H a (ns.map V.int) ∧ 0 ≤ k ∧ ∀ v : Int, Q (.int v) H
theorem ok_cell {f : Addr} {fd : FuncData} {k : Nat} (F : Fun K "_law_cell_at" "_law_cell_at" sCell f fd) (ml : mg "len" = none) : FnOk P w K mg base CX0 (k + 1) f fd ["_law_script", "_law_k"] (spCell K) := by
  refine F.ok scCell (fun vs H Q E h => ?_) (fun cdv A outer s H vs Q E hr h => ?_)
  · obtain ⟨a, ns, k, rfl, _⟩ := h
    rfl
  · obtain ⟨a, ns, k, rfl, hS, h0, q⟩ := h
    refine ⟨_, pss_cons (ps_if (pt_cmpR op_lt (pv 1) (pe_callB call_len_seq (by rfl) ml PySem.boot_len (pa_cons (pv 0) pa_nil)) (nomark _)) (pss_one (ps_ret (pe_ix ix_list (pv 0) (pv 1) (fun _ _ => rfl)))) pss_nil)
      (pss_one (ps_ret pe_int)), ?_⟩
    have hl : (ns.map V.int).length = ns.length := List.length_map _
    refine ⟨_, rfl, _, rfl, a, _, rfl, .inl hS, _, _, rfl, rfl, _, rfl, ?_⟩
    refine ite2 (fun c => ?_) (fun c => ?_)
    · have c' : k < (((ns.map V.int).length : Nat) : Int) := of_decide_eq_true c
      rw [hl] at c'
      have hk : k.toNat < ns.length := by omega
      have ek : k = ((k.toNat : Nat) : Int) := by omega
      refine ⟨_, rfl, _, rfl, a, _, _, .int ns[k.toNat], rfl, rfl, hS, ?_, q _⟩
      exact at_of ek (by rw [List.getElem?_map, List.getElem?_eq_getElem hk] <;> rfl)
    · exact q 0
/-! ### the pen -/
abbrev sPen : Stmt := topS 41
theorem scPen : FnScope ["_law_cell"] ["_law_cell"] (defScope sPen) := ⟨rfl, rfl, rfl, by decide +kernel, rfl, by decide +kernel, by decide +kernel⟩
def spPen : Sp := fun vs H Q _ => ∃ (c : Int), vs = [.int c] ∧ ∀ p H', Same H H' → H p = none → PenAt H' p → Q (.ref p) H'
theorem ok_pen {f : Addr} {fd : FuncData} {k : Nat} (F : Fun K "_law_pen" "_law_pen" sPen f fd) (mi : mg "int" = none) : FnOk P w K mg base CX0 (k + 1) f fd ["_law_cell"] spPen := by
  refine F.ok scPen (fun vs H Q E h => ?_) (fun cdv A outer s H vs Q E hr h => ?_)
  · obtain ⟨c, rfl, _⟩ := h
    rfl
  · obtain ⟨c, rfl, q⟩ := h
    refine ⟨_, pss_one (ps_ret (pe_lst (pa_cons (pv 0) (pa_cons (pe_callTy call_int1 (by rfl) mi (by decide +kernel) (pa_cons (pe_cmpR op_ge (pv 0) (pe_op op_pow pe_int pe_int) (nomark _)) pa_nil)) (pa_cons pe_int (pa_cons (pe_op op_mod (pv 0) pe_int) pa_nil)))))), ?_⟩
    refine ⟨_, rfl, _, rfl, _, _, rfl, rfl, ⟨by decide, by decide, by decide⟩, _, _, rfl, rfl, .inr ⟨_, rfl, ?_⟩⟩
    refine ⟨_, rfl, _, _, rfl, rfl, (by show (0 : Int) < 1000000007; decide), (by show 4 ≤ sizeLine; decide), fun p hp => ?_⟩
    refine q p _ (fun b o e => ?_) hp ⟨_, _, _, _, upd_same, Int.emod_nonneg _ (by decide), Int.emod_lt_of_pos _ (by decide)⟩
    rw [upd_ne (ne_of_none e hp)]
    exact e
/-! ### a draw -/
abbrev sDraw : Stmt := topS 42
theorem scDraw : FnScope ["_law_pen_here", "_law_bound", "_law_found", "_law_stir"] ["_law_pen_here", "_law_bound"] (defScope sDraw) := ⟨rfl, rfl, rfl, by decide +kernel, rfl, by decide +kernel, by decide +kernel⟩
def spDraw : Sp := fun vs H Q _ => ∃ (p : Addr) (b : Int), vs = [.ref p, .int b] ∧ PenAt H p ∧ 0 < b ∧ b < 1073741824 ∧ ∀ v H', Kp p H H' → PenAt H' p → 0 ≤ v → v < b → Q (.int v) H'
theorem ok_draw {f : Addr} {fd : FuncData} {k : Nat} (F : Fun K "_law_draw" "_law_draw" sDraw f fd) : FnOk P w K mg base CX0 (k + 1) f fd ["_law_pen_here", "_law_bound"] spDraw := by
  refine F.ok scDraw (fun vs H Q E h => ?_) (fun cdv A outer s H vs Q E hr h => ?_)
  · obtain ⟨p, b, rfl, _⟩ := h
    rfl
  · obtain ⟨p, b, rfl, ⟨x, y, c, e, hp, he0, he1⟩, hb0, hb1, q⟩ := h
    refine ⟨_, pss_cons (ps_if (PW.pt (pw_and (pt_cmpR op_eq (pe_ix ix_list (pv 0) pe_int (fun _ _ => rfl)) pe_int (nomark _)) (pw_and1 (pt_cmpR op_gt (pe_ix ix_list (pv 0) pe_int (fun _ _ => rfl)) pe_int (nomark _)))))
        (pss_cons (ps_set (i := 2) scDraw.nd rfl (.inl rfl) (pe_op op_mod (pe_ix ix_list (pv 0) pe_int (fun _ _ => rfl)) (pv 1)))
        (pss_cons (ps_asg (pe_op op_fdiv (pe_ix ix_list (pv 0) pe_int (fun _ _ => rfl)) (pv 1)) (pg_sub (pv 0) pe_int set_list))
        (pss_one (ps_ret (pv 2))))) pss_nil)
      (pss_cons (ps_asg (pe_op op_add (pe_ix ix_list (pv 0) pe_int (fun _ _ => rfl)) pe_int) (pg_sub (pv 0) pe_int set_list))
      (pss_cons (ps_set (i := 3) scDraw.nd rfl (.inl rfl) (pe_op op_mod (pe_op op_mul (pe_op op_add (pe_ix ix_list (pv 0) pe_int (fun _ _ => rfl)) pe_int) (pe_op op_add pe_int (pe_op op_mul pe_int (pe_ix ix_list (pv 0) pe_int (fun _ _ => rfl))))) pe_int))
      (pss_cons (ps_set (i := 3) scDraw.nd rfl (.inl rfl) (pe_op op_mod (pe_op op_add (pe_op op_add (pe_op op_mul (pv 3) (pv 3)) (pe_op op_mul pe_int (pe_ix ix_list (pv 0) pe_int (fun _ _ => rfl)))) pe_int) pe_int))
      (pss_one (ps_ret (pe_op op_mod (pe_op op_fdiv (pe_op op_mod (pe_op op_mul (pv 3) pe_int) pe_int) pe_int) (pv 1))))))), ?_⟩
    have i0 : ∀ u : V, ∀ r : List V, atI (u :: r) 0 = some u := fun u r => atI_nat (j := 0) rfl
    have i1 : ∀ u v : V, ∀ r : List V, atI (u :: v :: r) 1 = some v := fun u v r => atI_nat (j := 1) rfl
    have i2 : ∀ u v w : V, ∀ r : List V, atI (u :: v :: w :: r) 2 = some w := fun u v w r => atI_nat (j := 2) rfl
    have i3 : ∀ u v w z : V, ∀ r : List V, atI (u :: v :: w :: z :: r) 3 = some z := fun u v w z r => atI_nat (j := 3) rfl
    have hS : SqL K H p [.int x, .int y, .int c, .int e] := SqL.of hp
    refine ⟨_, rfl, p, _, _, _, rfl, rfl, hS, i1 _ _ _, rfl, _, rfl, ?_⟩
    refine ite2 (fun c1 => ?_) (fun c1 => ?slow1)
    refine ⟨_, rfl, p, _, _, _, rfl, rfl, hS, i0 _ _, _, _, rfl, rfl, _, rfl, ?_⟩
    refine ite2 (fun c2 => ?_) (fun c2 => ?slow2)
    · refine ⟨_, rfl, p, _, _, _, rfl, rfl, hS, i0 _ _, _, rfl, _, _, rfl, rfl, hb0, ?_⟩
      refine ⟨_, rfl, p, _, _, _, rfl, rfl, hS, i0 _ _, _, rfl, _, _, rfl, rfl, ⟨hb0, hb1⟩, _, rfl, p, _, 0, 0, rfl, rfl, hp, rfl, ?_⟩
      exact ⟨_, rfl, q _ _ (Kp.put _) ⟨_, _, _, _, upd_same, he0, he1⟩ (Int.emod_nonneg _ (by omega)) (Int.emod_lt_of_pos _ hb0)⟩
    all_goals
      refine ⟨_, rfl, p, _, _, _, rfl, rfl, hS, i2 _ _ _ _, _, _, rfl, rfl, _, rfl, p, _, 2, 2, rfl, rfl, hp, rfl, ?_⟩
      have hp1 : (upd H p (.lst [.int x, .int y, .int (c + 1), .int e])) p = some (.lst [.int x, .int y, .int (c + 1), .int e]) := upd_same
      have hS1 : SqL K (upd H p (.lst [.int x, .int y, .int (c + 1), .int e])) p [.int x, .int y, .int (c + 1), .int e] := SqL.of hp1
      refine ⟨_, rfl, p, _, _, _, rfl, rfl, hS1, i3 _ _ _ _ _, _, _, rfl, rfl, _, rfl, p, _, _, _, rfl, rfl, hS1, i2 _ _ _ _, _, _, rfl, rfl, .inl ⟨by decide, by decide⟩, _, _, rfl, rfl, _, _, rfl, rfl, .inl ⟨by omega, by omega⟩, _, _, rfl, rfl, (by show (0 : Int) < 2147483647; decide), ?_⟩
      have r1 := Int.emod_nonneg ((e + 17) * (69621 + 2 * (c + 1))) (b := 2147483647) (by decide)
      have r2 := Int.emod_lt_of_pos ((e + 17) * (69621 + 2 * (c + 1))) (b := 2147483647) (by decide)
      generalize (e + 17) * (69621 + 2 * (c + 1)) % 2147483647 = st at r1 r2
      refine ⟨_, rfl, _, rfl, _, _, rfl, rfl, .inl ⟨by omega, by omega⟩, _, rfl, p, _, _, _, rfl, rfl, hS1, i2 _ _ _ _, _, _, rfl, rfl, .inl ⟨by decide, by decide⟩, _, _, rfl, rfl, _, _, rfl, rfl, _, _, rfl, rfl, (by show (0 : Int) < 2147483629; decide), ?_⟩
      refine ⟨_, rfl, _, _, rfl, rfl, .inr ⟨by decide, by decide⟩, _, _, rfl, rfl, (by show (0 : Int) < 2147483647; decide), _, _, rfl, rfl, ⟨by decide, by decide⟩, _, rfl, _, _, rfl, rfl, hb0, ?_⟩
      exact q _ _ (Kp.put _) ⟨_, _, _, _, upd_same, he0, he1⟩ (Int.emod_nonneg _ (by omega)) (Int.emod_lt_of_pos _ hb0)
end
end Deed

namespace Deed
open PySem PySem.Spec PyProof.Rows L2 LamX
/-! ### the end: the facts by names -/
def mkD (x : Str) (st : Stmt) : He.DefD := ⟨(x, none), x, x, defArgs st, defBody st, defScope st, [], []⟩
def mkDd (x : Str) (st : Stmt) (dfl : List He.Dv) : He.DefD := ⟨(x, none), x, x, defArgs st, defBody st, defScope st, dfl, []⟩
def fnAll : List He.DefD := [mkD "_law_cell_at" (topS 40), mkD "_law_pen" (topS 41), mkD "_law_draw" (topS 42), mkD "_law_day" (topS 43), mkD "_law_folk" (topS 44), mkD "_law_few" (topS 45), mkD "_law_deed" (topS 46), mkD "_law_entry" (topS 47), mkD "_law_mixed" (topS 48), mkD "_law_book" (topS 49), mkD "entries_rising" (topS 11), mkD "deed_entries" (topS 12), mkD "act_entries" (topS 13), mkD "deeds_of" (topS 14), mkD "is_whole" (topS 8), mkD "is_within" (topS 9), mkD "is_day" (topS 10), mkD "check_day" (topS 20), mkD "check_deed" (topS 21), mkD "open_acts" (topS 24), mkD "acts_on" (topS 25), mkD "acts_in_force" (topS 26), mkD "word_of_deed" (topS 27), mkDd "all_standing" (topS 28) [.int 9999], mkD "days_at" (topS 30), mkD "turns_among" (topS 31), mkDd "course_of" (topS 32) [.int 9999], mkD "_law_open" (topS 50), mkD "_law_of" (topS 51), mkD "_law_force" (topS 52), mkD "_law_any" (topS 53), mkD "_law_words" (topS 54), mkD "_law_entries" (topS 55), mkD "_law_days" (topS 56), mkD "_law_turns" (topS 62), mkD "_law_marks" (topS 63), mkDd "why_of" (topS 38) [.int 9999], mkD "paper_over" (topS 34), mkD "papers_of" (topS 35), mkD "first_yes" (topS 36), mkD "why_over" (topS 37), mkD "_law_open_of" (topS 57), mkD "_law_forced" (topS 58), mkD "_law_yes" (topS 59), mkD "_law_no" (topS 60), mkD "_law_why" (topS 61), mkD "_law_other" (topS 64), mkD "_law_right" (topS 65), mkD "law" (topS 66)]
def faAll : List He.Fa := [.glo "_law_cell_at", .glo "_law_pen", .glo "_law_draw", .glo "_law_day", .glo "_law_folk", .glo "_law_few", .glo "_law_deed", .glo "_law_entry", .glo "_law_mixed", .glo "_law_book", .glo "entries_rising", .glo "deed_entries", .glo "act_entries", .glo "deeds_of", .glo "is_whole", .glo "is_within", .glo "is_day", .glo "check_day", .glo "check_deed", .glo "open_acts", .glo "acts_on", .glo "acts_in_force", .glo "word_of_deed", .glo "all_standing", .glo "days_at", .glo "turns_among", .glo "course_of", .glo "_law_open", .glo "_law_of", .glo "_law_force", .glo "_law_any", .glo "_law_words", .glo "_law_entries", .glo "_law_days", .glo "_law_turns", .glo "_law_marks", .glo "why_of", .glo "paper_over", .glo "papers_of", .glo "first_yes", .glo "why_over", .glo "_law_open_of", .glo "_law_forced", .glo "_law_yes", .glo "_law_no", .glo "_law_why", .glo "_law_other", .glo "_law_right", .glo "law", .free "range", .free "min", .free "max", .free "tuple", .free "list", .free "len", .free "sorted", .free "int", .free "isinstance", .free "bool", .free "any", .free "all", .free "zip", .free "dict", .free "set", .free "repr", .int "NUMBER" 0, .int "WORD" 4, .int "DAY" 1, .int "WRITTEN" 2, .int "OF" 5, .int "RESTS" 7, .int "LAST_DAY" 9999, .glo "CARRYING"]
def tfAll : List He.Defn := [("entries_rising", none), ("_law_other", none)]
abbrev tsAll : List He.Tab := []
def exAll (K : PySem.W.Frag) : Bool := He.tupB K "CARRYING" [.str "stands", .str "paid"] && decide ((He.cT K ("entries_rising", none)).2 ≠ (He.cT K ("_law_other", none)).2)
abbrev rowR : PySem.W.OpenRow := PySem.W.OpenLaw.row PySem.Challenge.rw_deedsheaf_k28_books_asked_by_turns
abbrev hk : PySem.W.Hook := He.hookX 4 faAll fnAll tsAll tfAll exAll
def ob (s : PySem.W.SharedT) : He.AlX := He.obsX 4 faAll fnAll tsAll tfAll exAll (HandSHeadRun.getT s)
theorem ob_eq (s : PySem.W.SharedT) : ob s = hk.obs s.abs := He.obsX_eq (HandSHeadRun.getT_eq s)
def looseAll : List Str := (["NUMBER", "DAY", "WRITTEN", "WORD", "OF", "RESTS", "LAST_DAY", "is_whole", "is_within", "is_day", "entries_rising", "deed_entries"] : List Str) ++ (["act_entries", "deeds_of", "SheafError", "NoDay", "NoDeed", "check_day", "check_deed", "CARRYING", "open_acts", "acts_on", "acts_in_force", "word_of_deed"] : List Str) ++ (["all_standing", "days_at", "turns_among", "course_of", "paper_over", "papers_of", "first_yes", "why_over", "why_of", "_law_cell_at", "_law_pen", "_law_draw"] : List Str) ++ (["_law_day", "_law_folk", "_law_few", "_law_deed", "_law_entry", "_law_mixed", "_law_book", "_law_open", "_law_of", "_law_force", "_law_any", "_law_words"] : List Str) ++ (["_law_entries", "_law_days", "_law_open_of", "_law_forced", "_law_yes", "_law_no", "_law_why", "_law_turns", "_law_marks", "_law_other", "_law_right"] : List Str)
theorem run (w : World) : HandSHeadRun.RunEq rowR (PySem.W.view rowR.prog [66]) hk ob 12000 looseAll w := by
  intro os
  kernel_rfl
end Deed

namespace Deed
open PySem PySem.Spec PyProof.Rows L2
/-- a def of the top: where it stands, how its arguments come, its name -/
structure Df (K : PySem.W.Frag) (mg : Str → Option Value) (x : Str) (st : Stmt) (ps : List Str) (f : Addr) (fd : FuncData) : Prop where
  F : Fun K x x st f fd
  b : Binds K fd ps []
  g : mg x = some (.ref f)
theorem am0 {φ : V → Prop} : ∀ y ∈ ([] : List V), φ y := fun _ h => nomatch h
theorem am1 {φ : V → Prop} {x : V} {xs : List V} (h : φ x) (r : ∀ y ∈ xs, φ y) : ∀ y ∈ x :: xs, φ y := fun y hy => (List.mem_cons.mp hy).elim (fun e => e ▸ h) (r y)
/-- an item of a written list at an open place -/
theorem pick {xs : List V} {i : Int} (φ : V → Prop) (h0 : 0 ≤ i) (h1 : i < (xs.length : Int)) (hx : ∀ x ∈ xs, φ x) : ∃ v, atI xs i = some v ∧ φ v := by
  have hk : i.toNat < xs.length := by omega
  exact ⟨xs[i.toNat], at_of (j := i.toNat) (by omega) (List.getElem?_eq_getElem hk), hx _ (List.getElem_mem hk)⟩
/-- an int within bounds -/
def Within (lo hi : Int) (x : V) : Prop := ∃ n : Int, x = .int n ∧ lo ≤ n ∧ n ≤ hi
section
variable {P : Program} {w : World} {K : PySem.W.Frag} {mg : Str → Option Value} {base : Heap} {fDr : Addr} {dDr : FuncData}
abbrev DrawD (K : PySem.W.Frag) (mg : Str → Option Value) := Df K mg "_law_draw" sDraw ["_law_pen_here", "_law_bound"]
/-! ### a day -/
abbrev sDay : Stmt := topS 43
theorem scDay : FnScope ["_law_pen_here", "_law_far"] ["_law_pen_here"] (defScope sDay) := ⟨rfl, rfl, rfl, by decide +kernel, rfl, by decide +kernel, by decide +kernel⟩
def spDay : Sp := fun vs H Q _ => ∃ (p : Addr), vs = [.ref p] ∧ PenAt H p ∧ ∀ v H', Kp p H H' → PenAt H' p → 0 ≤ v → v ≤ 9999 → Q (.int v) H'
theorem ok_day {f : Addr} {fd : FuncData} {k : Nat} (F : Fun K "_law_day" "_law_day" sDay f fd) (D : DrawD K mg fDr dDr) : FnOk P w K mg base CX0 (k + 2) f fd ["_law_pen_here"] spDay := by
  have G : FnOk P w K mg base CX0 (k + 1) fDr dDr ["_law_pen_here", "_law_bound"] spDraw := ok_draw D.F
  refine F.ok scDay (fun vs H Q E h => ?_) (fun cdv A outer s H vs Q E hr h => ?_)
  · obtain ⟨p, rfl, _⟩ := h
    rfl
  · obtain ⟨p, rfl, hP, q⟩ := h
    refine ⟨_, pss_cons (ps_set (i := 1) scDay.nd rfl (.inl rfl) (pe_ix ix_list (pe_lst (pa_cons pe_int (pa_cons (pe_call G hr (by rfl) D.g D.F.kp D.b .nil pass0 (pa_cons (pv 0) (pa_cons pe_int pa_nil))) pa_nil))) (pe_call G hr (by rfl) D.g D.F.kp D.b .nil pass0 (pa_cons (pv 0) (pa_cons pe_int pa_nil))) (fun _ _ => rfl)))
      (pss_one (ps_ret (pe_ix ix_list (pe_lst (pa_cons (pe_call G hr (by rfl) D.g D.F.kp D.b .nil pass0 (pa_cons (pv 0) (pa_cons pe_int pa_nil))) (pa_cons (pe_call G hr (by rfl) D.g D.F.kp D.b .nil pass0 (pa_cons (pv 0) (pa_cons pe_int pa_nil))) (pa_cons (pe_call G hr (by rfl) D.g D.F.kp D.b .nil pass0 (pa_cons (pv 0) (pa_cons pe_int pa_nil))) (pa_cons (pv 1) pa_nil))))) (pe_call G hr (by rfl) D.g D.F.kp D.b .nil pass0 (pa_cons (pv 0) (pa_cons pe_int pa_nil))) (fun _ _ => rfl)))), ?_⟩
    refine ⟨_, rfl, p, 10000, rfl, hP, by decide, by decide, fun v1 H1 k1 P1 a1 b1 => ?_⟩
    refine ⟨(by show 2 ≤ sizeLine; decide), fun l hl => ?_⟩
    refine ⟨_, rfl, p, 2, rfl, P1.new hl _, by decide, by decide, fun v2 H2 k2 P2 a2 b2 => ?_⟩
    obtain ⟨v3, g3, n3, rfl, a3, b3⟩ := pick (xs := [.int 9999, .int v1]) (Within 0 9999) a2 b2 (am1 ⟨9999, rfl, by decide, by decide⟩ (am1 ⟨v1, rfl, a1, by omega⟩ am0))
    refine ⟨l, _, v2, _, rfl, rfl, SqL.of (k2 _ _ (P1.free hl) upd_same), g3, ?_⟩
    have kA : Kp p H H2 := (k1.trans (Kp.new hl _)).trans k2
    refine ⟨_, rfl, p, 6, rfl, P2, by decide, by decide, fun v4 H4 k4 P4 a4 b4 => ?_⟩
    refine ⟨_, rfl, p, 6, rfl, P4, by decide, by decide, fun v5 H5 k5 P5 a5 b5 => ?_⟩
    refine ⟨_, rfl, p, 40, rfl, P5, by decide, by decide, fun v6 H6 k6 P6 a6 b6 => ?_⟩
    refine ⟨_, rfl, (by show 4 ≤ sizeLine; decide), fun m hm => ?_⟩
    refine ⟨_, rfl, p, 4, rfl, P6.new hm _, by decide, by decide, fun v7 H7 k7 P7 a7 b7 => ?_⟩
    obtain ⟨v8, g8, n8, rfl, a8, b8⟩ := pick (xs := [.int v4, .int v5, .int v6, .int n3]) (Within 0 9999) a7 b7 (am1 ⟨_, rfl, by omega, by omega⟩ (am1 ⟨_, rfl, by omega, by omega⟩ (am1 ⟨_, rfl, by omega, by omega⟩ (am1 ⟨_, rfl, by omega, by omega⟩ am0))))
    refine ⟨m, _, v7, _, rfl, rfl, SqL.of (k7 _ _ (P6.free hm) upd_same), g8, ?_⟩
    exact q n8 _ (kA.trans (k4.trans (k5.trans (k6.trans ((Kp.new hm _).trans k7))))) P7 a8 b8
/-! ### folk -/
abbrev sFolk : Stmt := topS 44
theorem scFolk : FnScope ["_law_pen_here", "_law_least", "_law_found", "_law_k", "_law_born", "_law_died"] ["_law_pen_here", "_law_least"] (defScope sFolk) := ⟨rfl, rfl, rfl, by decide +kernel, rfl, by decide +kernel, by decide +kernel⟩
/-- a person at x -/
def PersonAt (H : Hp) (x : V) : Prop := ∃ (a : Addr) (b : Int) (d : V), x = .ref a ∧ H a = some (.tup [.int b, d]) ∧ -9999 ≤ b ∧ b ≤ 9998 ∧ (d = .non ∨ ∃ i : Int, d = .int i ∧ b < i ∧ i ≤ 9999)
theorem PersonAt.kp {p : Addr} {H H' : Hp} {x : V} (h : PersonAt H x) (k : Kp p H H') (P : PenAt H p) : PersonAt H' x := by
  obtain ⟨a, b, d, e, h1, r⟩ := h
  exact ⟨a, b, d, e, k _ _ (P.ne h1 fun _ z => by cases z) h1, r⟩
def FolkAt (H : Hp) (t : Addr) (n : Nat) : Prop := ∃ xs : List V, H t = some (.tup xs) ∧ xs.length = n ∧ ∀ x ∈ xs, PersonAt H x
theorem FolkAt.kp {p : Addr} {H H' : Hp} {t : Addr} {n : Nat} (h : FolkAt H t n) (k : Kp p H H') (P : PenAt H p) : FolkAt H' t n := by
  obtain ⟨xs, h1, h2, h3⟩ := h
  exact ⟨xs, k _ _ (P.ne h1 fun _ z => by cases z) h1, h2, fun x hx => (h3 x hx).kp k P⟩
def spFolk : Sp := fun vs H Q _ => ∃ (p : Addr) (least : Int), vs = [.ref p, .int least] ∧ PenAt H p ∧ 1 ≤ least ∧ least ≤ 6 ∧ ∀ t (n : Nat) H', Kp p H H' → PenAt H' p → FolkAt H' t n → least ≤ n → n ≤ 6 → Q (.ref t) H'
theorem ok_folk {f : Addr} {fd : FuncData} {k : Nat} (F : Fun K "_law_folk" "_law_folk" sFolk f fd) (D : DrawD K mg fDr dDr) (mr : mg "range" = none) (mm : mg "min" = none) (mt : mg "tuple" = none) : FnOk P w K mg base CX0 (k + 2) f fd ["_law_pen_here", "_law_least"] spFolk := by
  have G : FnOk P w K mg base CX0 (k + 1) fDr dDr ["_law_pen_here", "_law_bound"] spDraw := ok_draw D.F
  refine F.ok scFolk (fun vs H Q E h => ?_) (fun cdv A outer s H vs Q E hr h => ?_)
  · obtain ⟨p, l, rfl, _⟩ := h
    rfl
  · obtain ⟨p, least, rfl, hP, hl1, hl6, q⟩ := h
    refine ⟨_, pss_cons (ps_set (i := 2) scFolk.nd rfl (.inl rfl) (pe_lst pa_nil))
      (pss_cons (ps_for PassesOwn.never rfl (pi_range1 rfl mr (pa_cons (pe_op op_add (pv 1) (pe_call G hr (by rfl) D.g D.F.kp D.b .nil pass0 (pa_cons (pv 0) (pa_cons (pe_op op_sub pe_int (pv 1)) pa_nil)))) pa_nil)) (pg_name (i := 3) scFolk.nd rfl (.inl rfl))
        (pss_cons (ps_set (i := 4) scFolk.nd rfl (.inl rfl) (pe_ix ix_list (pe_lst (pa_cons (pe_op op_sub (pe_call G hr (by rfl) D.g D.F.kp D.b .nil pass0 (pa_cons (pv 0) (pa_cons pe_int pa_nil))) pe_int) (pa_cons (pe_op op_sub (pe_call G hr (by rfl) D.g D.F.kp D.b .nil pass0 (pa_cons (pv 0) (pa_cons pe_int pa_nil))) pe_int) (pa_cons (pe_un un_neg pe_int) pa_nil)))) (pe_call G hr (by rfl) D.g D.F.kp D.b .nil pass0 (pa_cons (pv 0) (pa_cons pe_int pa_nil))) (fun _ _ => rfl)))
        (pss_cons (ps_set (i := 5) scFolk.nd rfl (.inl rfl) (pe_callB (call_min2 rfl) (by rfl) mm (by decide +kernel) (pa_cons pe_int (pa_cons (pe_op op_add (pe_op op_add (pv 4) pe_int) (pe_ix ix_list (pe_lst (pa_cons (pe_call G hr (by rfl) D.g D.F.kp D.b .nil pass0 (pa_cons (pv 0) (pa_cons pe_int pa_nil))) (pa_cons (pe_call G hr (by rfl) D.g D.F.kp D.b .nil pass0 (pa_cons (pv 0) (pa_cons pe_int pa_nil))) pa_nil))) (pe_call G hr (by rfl) D.g D.F.kp D.b .nil pass0 (pa_cons (pv 0) (pa_cons pe_int pa_nil))) (fun _ _ => rfl))) pa_nil))))
        (pss_one (ps_expr (pe_bm PySem.F.plainAttrs_list PySem.F.slot_list_append PySem.F.type_list_append mt_append (pv 2) (pa_cons (pe_tup (pa_cons (pv 4) (pa_cons (pe_ix ix_list (pe_lst (pa_cons pe_non (pa_cons (pv 5) pa_nil))) (pe_call G hr (by rfl) D.g D.F.kp D.b .nil pass0 (pa_cons (pv 0) (pa_cons pe_int pa_nil))) (fun _ _ => rfl)) pa_nil))) pa_nil)))))))
      (pss_one (ps_ret (pe_callTy call_tuple_of (by rfl) mt (by decide +kernel) (pa_cons (pv 2) pa_nil))))), ?_⟩
    refine ⟨Nat.zero_le _, fun l hl => ?_⟩
    have Pl : PenAt (upd H l (.lst [])) p := hP.new hl _
    have nl : l ≠ p := hP.free hl
    refine ⟨_, rfl, _, rfl, _, rfl, _, _, rfl, rfl, p, 7 - least, rfl, Pl, by omega, by omega, fun v1 H1 k1 P1 a1 b1 => ?_⟩
    refine ⟨_, _, rfl, rfl, _, rfl, by omega, by omega, ?_⟩
    refine for_range (lo := 0) (n := (least + v1).toNat) (fun i σ H' => ∃ y3 y4 y5 xs, σ = [some (.ref p), some (.int least), some (.ref l), y3, y4, y5] ∧ Kp p H H' ∧ PenAt H' p ∧ H' l = some (.lst xs) ∧ xs.length = i ∧ ∀ x ∈ xs, PersonAt H' x)
      ⟨none, none, none, [], rfl, (Kp.new hl _).trans k1, P1, k1 _ _ nl upd_same, rfl, am0⟩ ?_ ?_
    · rintro i σ H' hi ⟨y3, y4, y5, xs, rfl, k', P', el, ln, ps⟩
      -- born
      refine ⟨_, rfl, p, 9, rfl, P', by decide, by decide, fun v2 H2 k2 P2 a2 b2 => ⟨_, _, rfl, rfl, ?_⟩⟩
      refine ⟨_, rfl, p, 19998, rfl, P2, by decide, by decide, fun v3 H3 k3 P3 a3 b3 => ⟨_, _, rfl, rfl, ?_⟩⟩
      refine ⟨_, rfl, (by show 3 ≤ sizeLine; decide), fun m hm => ?_⟩
      refine ⟨_, rfl, p, 3, rfl, P3.new hm _, by decide, by decide, fun v4 H4 k4 P4 a4 b4 => ?_⟩
      obtain ⟨_, g5, n5, rfl, a5, b5⟩ := pick (xs := [.int (v2 - 4), .int (v3 - 9999), .int (-9999)]) (Within (-9999) 9998) a4 b4 (am1 ⟨_, rfl, by omega, by omega⟩ (am1 ⟨_, rfl, by omega, by omega⟩ (am1 ⟨_, rfl, by omega, by omega⟩ am0)))
      refine ⟨m, _, v4, _, rfl, rfl, SqL.of (k4 _ _ (P3.free hm) upd_same), g5, ?_⟩
      have kA : Kp p H' H4 := k2.trans (k3.trans ((Kp.new hm _).trans k4))
      -- died
      refine ⟨_, rfl, _, _, rfl, rfl, ?_⟩
      refine ⟨_, rfl, p, 12, rfl, P4, by decide, by decide, fun v6 H6 k6 P6 a6 b6 => ?_⟩
      refine ⟨_, rfl, p, 9999, rfl, P6, by decide, by decide, fun v7 H7 k7 P7 a7 b7 => ?_⟩
      refine ⟨(by show 2 ≤ sizeLine; decide), fun m2 hm2 => ?_⟩
      refine ⟨_, rfl, p, 2, rfl, P7.new hm2 _, by decide, by decide, fun v8 H8 k8 P8 a8 b8 => ?_⟩
      obtain ⟨_, g9, n9, rfl, a9, b9⟩ := pick (xs := [.int v6, .int v7]) (Within 0 9998) a8 b8 (am1 ⟨_, rfl, by omega, by omega⟩ (am1 ⟨_, rfl, by omega, by omega⟩ am0))
      refine ⟨m2, _, v8, _, rfl, rfl, SqL.of (k8 _ _ (P7.free hm2) upd_same), g9, _, _, rfl, rfl, _, _, rfl, ?_⟩
      have kB : Kp p H4 H8 := k6.trans (k7.trans ((Kp.new hm2 _).trans k8))
      have hd : n5 < (if n5 + 1 + n9 < 9999 then n5 + 1 + n9 else 9999) ∧ (if n5 + 1 + n9 < 9999 then n5 + 1 + n9 else 9999) ≤ 9999 := by
        split <;> omega
      generalize (if n5 + 1 + n9 < 9999 then n5 + 1 + n9 else 9999) = dd at hd
      have kC := kA.trans kB
      have el8 := kC _ _ nl el
      -- found.append((born, ..))
      refine ⟨_, rfl, .inl ⟨rfl, _, SqL.of el8⟩, _, rfl, _, rfl, (by show 2 ≤ sizeLine; decide), fun m3 hm3 => ?_⟩
      refine ⟨_, rfl, p, 2, rfl, P8.new hm3 _, by decide, by decide, fun v10 H10 k10 P10 a10 b10 => ?_⟩
      obtain ⟨vd, g11, hvd⟩ := pick (xs := [.non, .int dd]) (fun d => d = .non ∨ ∃ i : Int, d = .int i ∧ n5 < i ∧ i ≤ 9999) a10 b10 (am1 (.inl rfl) (am1 (.inr ⟨_, rfl, hd⟩) am0))
      refine ⟨m3, _, v10, _, rfl, rfl, SqL.of (k10 _ _ (P8.free hm3) upd_same), g11, (by show 2 ≤ sizeLine; decide), fun t ht => ?_⟩
      have kD := (kC.trans ((Kp.new hm3 _).trans k10)).trans (Kp.new (p := p) ht (.tup [.int n5, vd]))
      have elD := kD _ _ nl el
      have PD : PenAt (upd H10 t (.tup [.int n5, vd])) p := P10.new ht _
      refine ⟨l, _, _, rfl, rfl, elD, small1000 (by omega), ?_⟩
      have kE : ∀ b o, b ≠ p → b ≠ l → H' b = some o → (upd (upd H10 t (.tup [.int n5, vd])) l (.lst (xs ++ [.ref t]))) b = some o := fun b o n1 n2 e => by
        rw [upd_ne n2]
        exact kD _ _ n1 e
      have ntl : t ≠ l := fun z => by
        have := (kC.trans ((Kp.new hm3 _).trans k10)) _ _ nl el
        rw [z, this] at ht
        cases ht
      refine ⟨_, _, _, xs ++ [.ref t], rfl, fun b o n1 e => ?_, ?_, upd_same, ?_, fun x hx => ?_⟩
      · by_cases hb : b = l
        · rw [hb, hl] at e
          cases e
        · exact kE b o n1 hb (k' _ _ n1 e)
      · obtain ⟨x1, x2, x3, x4, e1, e2⟩ := PD
        exact ⟨x1, x2, x3, x4, by rw [upd_ne nl.symm]; exact e1, e2⟩
      · rw [List.length_append, ln]
        rfl
      · rcases List.mem_append.mp hx with hx | hx
        · obtain ⟨a, b, d, e, h1, r⟩ := ps x hx
          exact ⟨a, b, d, e, kE _ _ (P'.ne h1 fun _ z => by cases z) (fun z => by rw [z, el] at h1; cases h1) h1, r⟩
        · rw [List.mem_singleton.mp hx]
          exact ⟨t, n5, vd, rfl, by rw [upd_ne ntl, upd_same], by omega, by omega, hvd⟩
    · rintro σ H' ⟨y3, y4, y5, xs, rfl, k', P', el, ln, ps⟩
      refine ⟨_, rfl, l, xs, rfl, .inl ⟨SqL.of el, fun t ht => ?_⟩⟩
      have kF : Kp p H' (upd H' t (.tup xs)) := Kp.new ht _
      exact q t (least + v1).toNat _ (k'.trans kF) (P'.new ht _) ⟨xs, upd_same, ln, fun x hx => (ps x hx).kp kF P'⟩ (by omega) (by omega)
end
end Deed

namespace Deed
open PySem PySem.Spec PyProof.Rows L2
theorem seqIx {i : Int} {n : Nat} (h0 : 0 ≤ i) (h1 : i < n) : seqIndex? i n = some i.toNat := seqIndex_of h0 h1
theorem rising_of {l : List Int} (hn : l.Nodup) (hp : l.Pairwise (· ≤ ·)) : l.Pairwise (· < ·) := by
  induction l with
  | nil => exact .nil
  | cons x r ih =>
    have h1 := List.nodup_cons.mp hn
    have h2 := List.pairwise_cons.mp hp
    refine List.pairwise_cons.mpr ⟨fun y hy => ?_, ih h1.2 h2.2⟩
    have h3 := h2.1 y hy
    have h4 : x ≠ y := fun e => h1.1 (e ▸ hy)
    omega
theorem perm_erase {α : Type} {l : List α} {k : Nat} {y : α} (h : l[k]? = some y) : (y :: l.eraseIdx k).Perm l := by
  induction l generalizing k with
  | nil => simp at h
  | cons a r ih =>
    cases k with
    | zero =>
      have e : a = y := by simpa using h
      subst e
      exact List.Perm.refl _
    | succ k =>
      have h' : r[k]? = some y := by simpa using h
      show (y :: a :: r.eraseIdx k).Perm (a :: r)
      exact (List.Perm.swap a y _).trans ((ih h').cons a)
theorem erase_map {α β : Type} (f : α → β) : ∀ (l : List α) (k : Nat), (l.map f).eraseIdx k = (l.eraseIdx k).map f
  | [], _ => rfl
  | _ :: _, 0 => rfl
  | a :: r, k + 1 => congrArg (List.cons (f a)) (erase_map f r k)
section
variable {P : Program} {w : World} {K : PySem.W.Frag} {mg : Str → Option Value} {base : Heap} {fDr : Addr} {dDr : FuncData}
/-! ### a few of some -/
abbrev sFew : Stmt := topS 45
theorem scFew : FnScope ["_law_pen_here", "_law_some", "_law_most", "_law_left", "_law_found", "_law_k"] ["_law_pen_here", "_law_some", "_law_most"] (defScope sFew) := ⟨rfl, rfl, rfl, by decide +kernel, rfl, by decide +kernel, by decide +kernel⟩
def spFew (K : PySem.W.Frag) : Sp := fun vs H Q _ => ∃ (p a : Addr) (most : Int) (ns : List Int), vs = [.ref p, .ref a, .int most] ∧ PenAt H p ∧ SqL K H a (ns.map V.int) ∧ 0 ≤ most ∧ most ≤ 1000 ∧ ns.length ≤ 1000 ∧
  ∀ t (rs ls : List Int) H', Kp p H H' → PenAt H' p → H' t = some (.tup (rs.map V.int)) → (rs ++ ls).Perm ns → rs.Pairwise (· ≤ ·) → rs.length ≤ most → Q (.ref t) H'
theorem ok_few {f : Addr} {fd : FuncData} {k : Nat} (F : Fun K "_law_few" "_law_few" sFew f fd) (D : DrawD K mg fDr dDr) (mr : mg "range" = none) (mm : mg "min" = none) (mt : mg "tuple" = none) (ml : mg "list" = none) (mn : mg "len" = none) (ms : mg "sorted" = none) :
    FnOk P w K mg base CX0 (k + 2) f fd ["_law_pen_here", "_law_some", "_law_most"] (spFew K) := by
  have G : FnOk P w K mg base CX0 (k + 1) fDr dDr ["_law_pen_here", "_law_bound"] spDraw := ok_draw D.F
  refine F.ok scFew (fun vs H Q E h => ?_) (fun cdv A outer s H vs Q E hr h => ?_)
  · obtain ⟨p, a, most, ns, rfl, _⟩ := h
    rfl
  · obtain ⟨p, a, most, ns, rfl, hP, hS, hm0, hm1, hn1, q⟩ := h
    refine ⟨_, pss_cons (ps_par (i := 3) (j := 4) (by rfl) scFew.nd rfl rfl (by decide) rfl rfl (pa_cons (pe_callTy call_list_of (by rfl) ml (by decide +kernel) (pa_cons (pv 1) pa_nil)) (pa_cons (pe_lst pa_nil) pa_nil)) (by rfl))
      (pss_cons (ps_for PassesOwn.never rfl (pi_range1 rfl mr (pa_cons (pe_callB (call_min2 rfl) (by rfl) mm (by decide +kernel) (pa_cons (pe_callB call_len_seq (by rfl) mn PySem.boot_len (pa_cons (pv 3) pa_nil)) (pa_cons (pe_call G hr (by rfl) D.g D.F.kp D.b .nil pass0 (pa_cons (pv 0) (pa_cons (pe_op op_add (pv 2) pe_int) pa_nil))) pa_nil))) pa_nil)) (pg_name (i := 5) scFew.nd rfl (.inl rfl))
        (pss_one (ps_expr (pe_bm PySem.F.plainAttrs_list PySem.F.slot_list_append PySem.F.type_list_append mt_append (pv 4) (pa_cons (pe_bm PySem.F.plainAttrs_list PySem.F.slot_list_pop PySem.F.type_list_pop mt_popAt (pv 3) (pa_cons (pe_call G hr (by rfl) D.g D.F.kp D.b .nil pass0 (pa_cons (pv 0) (pa_cons (pe_callB call_len_seq (by rfl) mn PySem.boot_len (pa_cons (pv 3) pa_nil)) pa_nil))) pa_nil)) pa_nil)))))
      (pss_one (ps_ret (pe_callTy call_tuple_of (by rfl) mt (by decide +kernel) (pa_cons (pe_callB cr_sortedI (by rfl) ms (by decide +kernel) (pa_cons (pv 4) pa_nil)) pa_nil))))), ?_⟩
    refine ⟨_, rfl, a, _, rfl, .inl hS, fun l hl => ?_⟩
    have Pl : PenAt (upd H l (.lst (ns.map V.int))) p := hP.new hl _
    have nl : l ≠ p := hP.free hl
    refine ⟨Nat.zero_le _, fun g hg => ⟨_, _, rfl, ?_⟩⟩
    have ng : g ≠ p := Pl.free hg
    have nlg : l ≠ g := fun z => by
      rw [← z, upd_same] at hg
      cases hg
    have Pg := Pl.new hg (.lst [])
    have el : (upd (upd H l (.lst (ns.map V.int))) g (.lst [])) l = some (.lst (ns.map V.int)) := by rw [upd_ne nlg, upd_same]
    refine ⟨_, rfl, l, _, rfl, .inl (SqL.of el), _, rfl, _, rfl, _, _, rfl, rfl, p, most + 1, rfl, Pg, by omega, by omega, fun v1 H1 k1 P1 a1 b1 => ?_⟩
    have hlen : (ns.map V.int).length = ns.length := List.length_map _
    refine ⟨_, _, rfl, ?_⟩
    rw [hlen]
    have hj : 0 ≤ (if v1 < (ns.length : Int) then v1 else (ns.length : Int)) ∧ (if v1 < (ns.length : Int) then v1 else (ns.length : Int)) ≤ ns.length ∧ (if v1 < (ns.length : Int) then v1 else (ns.length : Int)) ≤ most := by
      split <;> omega
    generalize (if v1 < (ns.length : Int) then v1 else (ns.length : Int)) = j at hj
    refine ⟨_, rfl, by omega, by omega, ?_⟩
    have k0 : Kp p H H1 := ((Kp.new hl _).trans (Kp.new hg _)).trans k1
    refine for_range (lo := 0) (n := j.toNat) (fun i σ H' => ∃ y5, ∃ rs ls : List Int, σ = [some (.ref p), some (.ref a), some (.int most), some (.ref l), some (.ref g), y5] ∧ Kp p H H' ∧ PenAt H' p ∧ H' l = some (.lst (ls.map V.int)) ∧ H' g = some (.lst (rs.map V.int)) ∧ rs.length = i ∧ (rs ++ ls).Perm ns)
      ⟨none, [], ns, rfl, k0, P1, k1 _ _ nl el, k1 _ _ ng upd_same, rfl, List.Perm.refl _⟩ ?_ ?_
    · rintro i σ H' hi ⟨y5, rs, ls, rfl, k', P', e1, e2, hrl, hpm⟩
      have hll : ls.length = ns.length - i := by
        have := hpm.length_eq
        rw [List.length_append] at this
        omega
      have hml : (ls.map V.int).length = ls.length := List.length_map _
      refine ⟨_, rfl, .inl ⟨rfl, _, SqL.of e2⟩, _, rfl, .inl ⟨rfl, _, SqL.of e1⟩, _, rfl, _, rfl, l, _, rfl, .inl (SqL.of e1), p, _, rfl, P', by omega, by omega, fun v2 H2 k2 P2 a2 b2 => ?_⟩
      rw [hml] at b2
      have e1' := k2 _ _ nl e1
      have e2' := k2 _ _ ng e2
      have hk : v2.toNat < ls.length := by omega
      refine ⟨l, _, v2, v2.toNat, .int ls[v2.toNat], rfl, rfl, e1', by omega, by omega, seqIx a2 (by rw [hml]; omega), by rw [List.getElem?_map, List.getElem?_eq_getElem hk] <;> rfl, ?_⟩
      have e2'' : (upd H2 l (.lst ((ls.map V.int).eraseIdx v2.toNat))) g = some (.lst (rs.map V.int)) := by rw [upd_ne nlg.symm]; exact e2'
      refine ⟨g, _, _, rfl, rfl, e2'', small1000 (by rw [List.length_map]; omega), ?_⟩
      refine ⟨_, rs ++ [ls[v2.toNat]], ls.eraseIdx v2.toNat, rfl, fun b o n1 e => ?_, ?_, ?_, ?_, ?_, ?_⟩
      · rw [upd_ne (ne_of_none e (show H g = none by rw [upd_ne nlg.symm] at hg; exact hg)), upd_ne (ne_of_none e hl)]
        exact (k'.trans k2) _ _ n1 e
      · obtain ⟨x1, x2, x3, x4, z1, z2⟩ := P2
        exact ⟨x1, x2, x3, x4, by rw [upd_ne ng.symm, upd_ne nl.symm]; exact z1, z2⟩
      · rw [upd_ne nlg, upd_same, erase_map]
      · rw [upd_same, List.map_append]
        rfl
      · rw [List.length_append, hrl]
        rfl
      · have h1 : (ls[v2.toNat] :: ls.eraseIdx v2.toNat).Perm ls := perm_erase (List.getElem?_eq_getElem hk)
        refine List.Perm.trans ?_ hpm
        rw [List.append_assoc]
        exact (List.Perm.append_left rs h1)
    · rintro σ H' ⟨y5, rs, ls, rfl, k', P', e1, e2, hrl, hpm⟩
      refine ⟨_, rfl, g, rs, rfl, SqL.of e2, fun rs' m pm up hm => ?_⟩
      have hm' : (upd H' m (.lst (rs'.map V.int))) m = some (.lst (rs'.map V.int)) := upd_same
      refine ⟨m, _, rfl, .inl ⟨SqL.of hm', fun t ht => ?_⟩⟩
      refine q t rs' ls _ (k'.trans ((Kp.new hm _).trans (Kp.new ht _))) ((P'.new hm _).new ht _) upd_same ((List.Perm.append_right ls pm).trans hpm) up ?_
      rw [pm.length_eq, hrl]
      omega
end
end Deed

namespace Deed
open PySem PySem.Spec PyProof.Rows L2
/-! ### lists of ints compared -/
theorem dp_ints {K : PySem.W.Frag} {H : Hp} : ∀ ns : List Int, DpAll K H (ns.map V.int) (ns.map PyData.int)
  | [] => .nil
  | n :: r => .cons (.int n) (dp_ints r)
theorem lay_ints : ∀ ns : List Int, PyData.canLayAll0 (ns.map PyData.int) = true
  | [] => by simp [PyData.canLayAll0]
  | n :: r => by simp [PyData.canLayAll0, PyData.canLay0, lay_ints r]
theorem depth_ints : ∀ ns : List Int, PyData.depthAll (ns.map PyData.int) ≤ 1
  | [] => by simp [PyData.depthAll]
  | n :: r => by
    have h := depth_ints r
    simp only [List.map_cons, PyData.depthAll, PyData.depth]
    omega
theorem shaped_ints (ns : List Int) : SeqAt.shaped (.list (ns.map PyData.int)) = true := by
  have h1 := depth_ints ns
  have h2 : PyData.depth (.list (ns.map PyData.int)) ≤ 64 := by
    simp only [PyData.depth]
    omega
  show (PyData.canLay0 (.list (ns.map PyData.int)) && decide (PyData.depth (.list (ns.map PyData.int)) ≤ 64)) = true
  rw [Bool.and_eq_true]
  exact ⟨by simp only [PyData.canLay0]; exact lay_ints ns, decide_eq_true h2⟩
theorem eqvAll_ints : ∀ ns ms : List Int, PyData.eqvAll (ns.map PyData.int) (ms.map PyData.int) = decide (ns = ms)
  | [], [] => by simp [PyData.eqvAll]
  | [], _ :: _ => by simp [PyData.eqvAll]
  | _ :: _, [] => by simp [PyData.eqvAll]
  | n :: r, m :: q => by
    simp only [List.map_cons, PyData.eqvAll, PyData.eqv, eqvAll_ints r q]
    by_cases h : n = m
    · subst h
      simp
    · simp [h]
theorem eqv_ints (ns ms : List Int) : PyData.eqv (.list (ns.map PyData.int)) (.list (ms.map PyData.int)) = decide (ns = ms) := by
  simp only [PyData.eqv]
  exact eqvAll_ints ns ms
theorem mem_inV {n : Int} {ns : List Int} : inV (.int n) (ns.map V.int) = decide (n ∈ ns) := by
  induction ns with
  | nil => simp [inV]
  | cons m r ih =>
    have e : inV (.int n) ((m :: r).map V.int) = (eqV (.int m) (.int n) || inV (.int n) (r.map V.int)) := by simp [inV]
    have e2 : eqV (.int m) (.int n) = decide (m = n) := by
      first | rfl | simp [eqV] | (unfold eqV; simp)
    rw [e, ih, e2]
    by_cases h : m = n
    · subst h
      simp
    · have h' : ¬ n = m := fun z => h z.symm
      simp [h, h']
theorem flat_ints (ns : List Int) : (ns.map V.int).all flatV = true := by
  induction ns with
  | nil => rfl
  | cons n r ih =>
    rw [List.map_cons, List.all_cons, ih]
    rfl
/-! ### entries -/
inductive Kd where
  | deed (g t : Int) (rs ws : List Int)
  | act (x : Str) (o : Int)
structure En where
  num : Int
  day : Int
  wri : Int
  hand : Int
  kd : Kd
def En.isDeed (e : En) : Bool := match e.kd with
  | .deed _ _ _ _ => true
  | .act _ _ => false
/-- the entry e at the address a -/
def EntAt (H : Hp) (a : Addr) (e : En) : Prop := match e.kd with
  | .deed g t rs ws => ∃ r w : Addr, H a = some (.tup [.int e.num, .int e.day, .int e.wri, .int e.hand, .str "deed", .int g, .int t, .ref r, .ref w]) ∧ H r = some (.tup (rs.map V.int)) ∧ H w = some (.tup (ws.map V.int))
  | .act x o => H a = some (.tup [.int e.num, .int e.day, .int e.wri, .int e.hand, .str x, .int o])
/-- all that isn't a list is kept -/
def KpT (H H' : Hp) : Prop := ∀ b xs, H b = some (.tup xs) → H' b = some (.tup xs)
theorem Kp.tup {p : Addr} {H H' : Hp} (k : Kp p H H') (P : PenAt H p) : KpT H H' := fun b xs e => k _ _ (P.ne e fun _ z => by cases z) e
theorem Same.tup {H H' : Hp} (k : Same H H') : KpT H H' := fun b xs e => k _ _ e
theorem KpT.trans {H H1 H2 : Hp} (a : KpT H H1) (b : KpT H1 H2) : KpT H H2 := fun c o h => b c o (a c o h)
theorem EntAt.kp {H H' : Hp} {a : Addr} {e : En} (h : EntAt H a e) (k : KpT H H') : EntAt H' a e := by
  unfold EntAt at h ⊢
  cases hk : e.kd with
  | deed g t rs ws =>
    rw [hk] at h
    obtain ⟨r, w, h1, h2, h3⟩ := h
    exact ⟨r, w, k _ _ h1, k _ _ h2, k _ _ h3⟩
  | act x o =>
    rw [hk] at h
    exact k _ _ h
def EnOk (n : Nat) (ds as : List Int) (e : En) : Prop := (0 ≤ e.day ∧ e.day ≤ 9999) ∧ (0 ≤ e.wri ∧ e.wri ≤ 9999) ∧ (0 ≤ e.hand ∧ e.hand ≤ 3) ∧ match e.kd with
  | .deed g t rs ws => (0 ≤ g ∧ g < n) ∧ (0 ≤ t ∧ t < n) ∧ g ≠ t ∧ rs.length ≤ 2 ∧ rs.Pairwise (· < ·) ∧ (∀ r ∈ rs, r ∈ ds ∧ r < e.num) ∧ ws.length ≤ 3 ∧ ws.Pairwise (· < ·) ∧ ∀ x ∈ ws, 0 ≤ x ∧ x < n ∧ x ≠ g ∧ x ≠ t
  | .act x o => ((x = "undone" ∧ o ∈ as) ∨ ((x = "paid" ∨ x = "void") ∧ o ∈ ds)) ∧ o < e.num
theorem EnOk.mono {n : Nat} {ds as ds' as' : List Int} {e : En} (h : EnOk n ds as e) (h1 : ∀ x ∈ ds, x ∈ ds') (h2 : ∀ x ∈ as, x ∈ as') : EnOk n ds' as' e := by
  unfold EnOk at h ⊢
  obtain ⟨a, b, c, d⟩ := h
  refine ⟨a, b, c, ?_⟩
  cases hk : e.kd with
  | deed g t rs ws =>
    rw [hk] at d
    obtain ⟨d1, d2, d3, d4, d5, d6, d7⟩ := d
    exact ⟨d1, d2, d3, d4, d5, fun r hr => ⟨h1 _ (d6 r hr).1, (d6 r hr).2⟩, d7⟩
  | act x o =>
    rw [hk] at d
    obtain ⟨d1, d2⟩ := d
    refine ⟨?_, d2⟩
    rcases d1 with ⟨z, m⟩ | ⟨z, m⟩
    · exact .inl ⟨z, h2 _ m⟩
    · exact .inr ⟨z, h1 _ m⟩
section
variable {P : Program} {w : World} {K : PySem.W.Frag} {mg : Str → Option Value} {base : Heap} {fDr fFe fDy fDe : Addr} {dDr dFe dDy dDe : FuncData}
abbrev FewD (K : PySem.W.Frag) (mg : Str → Option Value) := Df K mg "_law_few" sFew ["_law_pen_here", "_law_some", "_law_most"]
abbrev DayD (K : PySem.W.Frag) (mg : Str → Option Value) := Df K mg "_law_day" sDay ["_law_pen_here"]
/-- the built-ins' names are the built-ins' -/
structure Bi (mg : Str → Option Value) : Prop where
  range : mg "range" = none
  min : mg "min" = none
  max : mg "max" = none
  tuple : mg "tuple" = none
  list : mg "list" = none
  len : mg "len" = none
  sorted : mg "sorted" = none
  int : mg "int" = none
/-! ### what stands behind a deed's word -/
abbrev sDeed : Stmt := topS 46
abbrev nDeed : List Str := ["_law_pen_here", "_law_folk_here", "_law_deeds", "_law_giver", "_law_taker", "_law_others", "_law_one"]
theorem scDeed : FnScope nDeed ["_law_pen_here", "_law_folk_here", "_law_deeds"] (defScope sDeed) := ⟨rfl, rfl, rfl, by decide +kernel, rfl, by decide +kernel, by decide +kernel⟩
def spDeed (K : PySem.W.Frag) : Sp := fun vs H Q _ => ∃ (p fk ld : Addr) (n : Nat) (ds : List Int), vs = [.ref p, .ref fk, .ref ld] ∧ PenAt H p ∧ FolkAt H fk n ∧ 2 ≤ n ∧ n ≤ 6 ∧ H ld = some (.lst (ds.map V.int)) ∧ ld ≠ p ∧ ds.Nodup ∧ ds.length ≤ 1000 ∧
  ∀ a r x (g t : Int) (rs ws : List Int) H', Kp p H H' → PenAt H' p → H' a = some (.tup [.int g, .int t, .ref r, .ref x]) → H' r = some (.tup (rs.map V.int)) → H' x = some (.tup (ws.map V.int)) →
    (0 ≤ g ∧ g < n) → (0 ≤ t ∧ t < n) → g ≠ t → rs.length ≤ 2 → rs.Pairwise (· < ·) → (∀ r ∈ rs, r ∈ ds) → ws.length ≤ 3 → ws.Pairwise (· < ·) → (∀ y ∈ ws, 0 ≤ y ∧ y < n ∧ y ≠ g ∧ y ≠ t) → Q (.ref a) H'
theorem taker_ne {g v : Int} {n : Nat} (h2 : 2 ≤ n) (h6 : n ≤ 6) (hg : 0 ≤ g) (hg' : g < n) (hv : 0 ≤ v) (hv' : v < (n : Int) - 1) : 0 ≤ (g + 1 + v) % (n : Int) ∧ (g + 1 + v) % (n : Int) < n ∧ g ≠ (g + 1 + v) % (n : Int) := by
  have hn : n = 2 ∨ n = 3 ∨ n = 4 ∨ n = 5 ∨ n = 6 := by omega
  rcases hn with rfl | rfl | rfl | rfl | rfl <;> omega
theorem ok_deed {f : Addr} {fd : FuncData} {k : Nat} (F : Fun K "_law_deed" "_law_deed" sDeed f fd) (D : DrawD K mg fDr dDr) (DF : FewD K mg fFe dFe) (B : Bi mg) : FnOk P w K mg base CX0 (k + 3) f fd ["_law_pen_here", "_law_folk_here", "_law_deeds"] (spDeed K) := by
  have G : FnOk P w K mg base CX0 (k + 1) fDr dDr ["_law_pen_here", "_law_bound"] spDraw := ok_draw D.F
  have GF : FnOk P w K mg base CX0 (k + 2) fFe dFe ["_law_pen_here", "_law_some", "_law_most"] (spFew K) := ok_few DF.F D B.range B.min B.tuple B.list B.len B.sorted
  refine F.ok scDeed (fun vs H Q E h => ?_) (fun cdv A outer s H vs Q E hr h => ?_)
  · obtain ⟨p, fk, ld, n, ds, rfl, _⟩ := h
    rfl
  · obtain ⟨p, fk, ld, n, ds, rfl, hP, hF, hn2, hn6, hld, nld, hnd, hdl, q⟩ := h
    have hr1 : Room (k + 1) _ := hr.mono (Nat.le_succ _)
    obtain ⟨xs, hfk, hxl, hps⟩ := id hF
    refine ⟨_, pss_cons (ps_set (i := 3) scDeed.nd rfl (.inr rfl) (pe_call G hr1 (by rfl) D.g D.F.kp D.b .nil pass0 (pa_cons (pv 0) (pa_cons (pe_callB call_len_seq (by rfl) B.len PySem.boot_len (pa_cons (pv 1) pa_nil)) pa_nil))))
      (pss_cons (ps_set (i := 4) scDeed.nd rfl (.inr rfl) (pe_op op_mod (pe_op op_add (pe_op op_add (pv 3) pe_int) (pe_call G hr1 (by rfl) D.g D.F.kp D.b .nil pass0 (pa_cons (pv 0) (pa_cons (pe_op op_sub (pe_callB call_len_seq (by rfl) B.len PySem.boot_len (pa_cons (pv 1) pa_nil)) pe_int) pa_nil)))) (pe_callB call_len_seq (by rfl) B.len PySem.boot_len (pa_cons (pv 1) pa_nil))))
      (pss_cons (ps_setLc (i := 5) (own := [("_law_one", 6)]) (g := gName 6) (by rfl) scDeed.nd rfl rfl (sw_true rfl rfl rfl (by decide +kernel)) (pi_range1 (by rfl) B.range (pa_cons (pe_callB call_len_seq (by rfl) B.len PySem.boot_len (pa_cons (pv 1) pa_nil)) pa_nil)) (blkOk_by (own := [("_law_one", 6)]) (N := nDeed) (sc := defScope sDeed) (by decide +kernel)) (fun _ _ _ _ _ => pg_name (i := 6) scDeed.nd rfl (Or.inl rfl))
          (fun _ _ _ _ _ => pts_one (pt_cmpR (show OpR _ (compareOp .NotIn) (rIn K true) from op_notIn_seq) (pv 6) (pe_tup (pa_cons (pv 3) (pa_cons (pv 4) pa_nil))) (by rfl))) (fun _ _ _ _ _ => pv 6))
      (pss_one (ps_ret (pe_tup (pa_cons (pv 3) (pa_cons (pv 4) (pa_cons (pe_call GF hr (by rfl) DF.g DF.F.kp DF.b .nil pass0 (pa_cons (pv 0) (pa_cons (pv 2) (pa_cons pe_int pa_nil)))) (pa_cons (pe_call GF hr (by rfl) DF.g DF.F.kp DF.b .nil pass0 (pa_cons (pv 0) (pa_cons (pv 5) (pa_cons pe_int pa_nil)))) pa_nil))))))))), ?_⟩
    refine ⟨_, rfl, _, rfl, fk, xs, rfl, .inr (SqT.of hfk), p, _, rfl, hP, by omega, by omega, fun g H1 k1 P1 a1 b1 => ?_⟩
    have hfk1 := k1.tup hP _ _ hfk
    refine ⟨_, rfl, _, _, rfl, rfl, _, rfl, _, rfl, fk, xs, rfl, .inr (SqT.of hfk1), _, _, rfl, rfl, p, _, rfl, P1, by omega, by omega, fun v H2 k2 P2 a2 b2 => ?_⟩
    have hfk2 := k2.tup P1 _ _ hfk1
    refine ⟨_, _, rfl, rfl, _, rfl, fk, xs, rfl, .inr (SqT.of hfk2), _, _, rfl, rfl, by omega, ?_⟩
    rw [hxl] at b1 b2
    obtain ⟨t1, t2, t3⟩ := taker_ne hn2 hn6 a1 b1 a2 b2
    rw [hxl]
    dsimp only
    generalize (g + 1 + v) % (n : Int) = t at t1 t2 t3
    have k12 := k1.trans k2
    refine ⟨_, rfl, fk, xs, rfl, .inr (SqT.of hfk2), _, rfl, by omega, by omega, ?_⟩
    rw [hxl]
    refine fun o no => ?_
    have npo : o ≠ p := P2.free no
    refine lc_range (lo := 0) (n := ((n : Nat) : Int).toNat) (fun i H' => ∃ os : List Int, H' o = some (.lst (os.map V.int)) ∧ Kp p H H' ∧ PenAt H' p ∧ os.length ≤ i ∧ os.Pairwise (· < ·) ∧ ∀ y ∈ os, 0 ≤ y ∧ y < (i : Int) ∧ y ≠ g ∧ y ≠ t)
      ⟨[], upd_same, k12.trans (Kp.new no _), P2.new no _, Nat.le_refl _, .nil, fun _ h => nomatch h⟩ ?_ ?_
    · rintro i H' hi ⟨os, ho, k', P', hol, hup, hall⟩
      refine ⟨rfl, _, rfl, _, rfl, _, rfl, (by show 2 ≤ sizeLine; decide), fun u hu => ?_⟩
      have hu' : (upd H' u (.tup [.int g, .int t])) u = some (.tup [.int g, .int t]) := upd_same
      refine ⟨u, _, rfl, .inr (SqT.of hu'), rfl, rfl, _, rfl, ?_⟩
      have kU : Kp p H' (upd H' u (.tup [.int g, .int t])) := Kp.new hu _
      have hmem : inV (.int (0 + (i : Int))) [.int g, .int t] = decide ((0 + (i : Int)) ∈ [g, t]) := mem_inV (ns := [g, t])
      have ho' := kU _ _ npo ho
      refine ite2 (fun c => ?_) (fun c => ?_)
      · have c' : ¬ ((0 + (i : Int)) ∈ [g, t]) := by
          have c1 : (!inV (.int (0 + (i : Int))) [.int g, .int t]) = true := c
          rw [hmem] at c1
          simpa using c1
        refine ⟨_, rfl, _, ho', small1000 (by rw [List.length_map]; omega), os ++ [0 + (i : Int)], ?_, fun b z n1 e => ?_, ?_, ?_, ?_, ?_⟩
        · rw [upd_same, List.map_append]
          rfl
        · have nb : b ≠ o := fun z' => by
            have e' := k12 _ _ n1 e
            rw [z', no] at e'
            cases e'
          rw [upd_ne nb]
          exact (k'.trans kU) _ _ n1 e
        · obtain ⟨x1, x2, x3, x4, z1, z2⟩ := P'.new hu (.tup [.int g, .int t])
          exact ⟨x1, x2, x3, x4, by rw [upd_ne npo.symm]; exact z1, z2⟩
        · rw [List.length_append]
          show os.length + 1 ≤ i + 1
          omega
        · refine List.pairwise_append.mpr ⟨hup, List.pairwise_singleton _ _, fun x hx y hy => ?_⟩
          rw [List.mem_singleton.mp hy]
          have := hall x hx
          omega
        · intro y hy
          rcases List.mem_append.mp hy with hy | hy
          · have := hall y hy
            refine ⟨this.1, by omega, this.2.2⟩
          · rw [List.mem_singleton.mp hy]
            simp only [List.mem_cons, List.not_mem_nil, or_false, not_or] at c'
            refine ⟨by omega, by omega, c'.1, c'.2⟩
      · exact ⟨os, ho', k'.trans kU, P'.new hu _, by omega, hup, fun y hy => by
          have := hall y hy
          exact ⟨this.1, by omega, this.2.2⟩⟩
    · rintro H' ⟨os, ho, k', P', hol, hup, hall⟩
      refine ⟨_, rfl, _, rfl, ?_⟩
      refine ⟨_, rfl, _, rfl, p, ld, 2, ds, rfl, P', SqL.of (k' _ _ nld hld), by decide, by decide, hdl, fun r rs ls H3 k3 P3 hr3 pm3 up3 ln3 => ?_⟩
      refine ⟨_, rfl, _, rfl, p, o, 3, os, rfl, P3, SqL.of (k3 _ _ npo ho), by decide, by decide, by omega, fun x ws ms H4 k4 P4 hr4 pm4 up4 ln4 => ?_⟩
      refine ⟨(by show 4 ≤ sizeLine; decide), fun a ha => ?_⟩
      have k5 : Kp p H4 (upd H4 a (.tup [.int g, .int t, .ref r, .ref x])) := Kp.new ha _
      have nd3 : rs.Nodup := (List.nodup_append.mp (pm3.nodup_iff.mpr hnd)).1
      have ndo : os.Nodup := hup.imp fun h => by omega
      have nd4 : ws.Nodup := (List.nodup_append.mp (pm4.nodup_iff.mpr ndo)).1
      refine q a r x g t rs ws _ (k'.trans (k3.trans (k4.trans k5))) (P4.new ha _) upd_same (k5.tup P4 _ _ (k4.tup P3 _ _ hr3)) (k5.tup P4 _ _ hr4) ⟨a1, b1⟩ ⟨t1, t2⟩ t3 (by omega) (rising_of nd3 up3) (fun y hy => pm3.mem_iff.mp (List.mem_append_left _ hy)) (by omega) (rising_of nd4 up4) fun y hy => ?_
      have hm := hall y (pm4.mem_iff.mp (List.mem_append_left _ hy))
      exact ⟨hm.1, by omega, hm.2.2⟩
end
end Deed

namespace Deed
open PySem PySem.Spec PyProof.Rows L2
def rLenS (K : PySem.W.Frag) : List V → Hp → VK → Prop := fun xs H Q => ∃ p ys, xs = [.ref p] ∧ (SqL K H p ys ∨ SqT K H p ys) ∧ Q (.int ys.length) H
section
variable {P : Program} {w : World} {K : PySem.W.Frag} {mg : Str → Option Value} {base : Heap} {fDr fFe fDy fDe : Addr} {dDr dFe dDy dDe : FuncData}
abbrev DeedD (K : PySem.W.Frag) (mg : Str → Option Value) := Df K mg "_law_deed" sDeed ["_law_pen_here", "_law_folk_here", "_law_deeds"]
/-! ### an entry -/
abbrev sEntry : Stmt := topS 47
abbrev nEntry : List Str := ["_law_pen_here", "_law_folk_here", "_law_number", "_law_deeds", "_law_acts", "_law_head", "_law_way", "_law_word"]
abbrev pEntry : List Str := ["_law_pen_here", "_law_folk_here", "_law_number", "_law_deeds", "_law_acts"]
theorem scEntry : FnScope nEntry pEntry (defScope sEntry) := ⟨rfl, rfl, rfl, by decide +kernel, rfl, by decide +kernel, by decide +kernel⟩
def spEntry (K : PySem.W.Frag) : Sp := fun vs H Q _ => ∃ (p fk ld la : Addr) (num : Int) (n : Nat) (ds as : List Int), vs = [.ref p, .ref fk, .int num, .ref ld, .ref la] ∧ PenAt H p ∧ FolkAt H fk n ∧ 2 ≤ n ∧ n ≤ 6 ∧ H ld = some (.lst (ds.map V.int)) ∧ ld ≠ p ∧ H la = some (.lst (as.map V.int)) ∧ la ≠ p ∧ ds.Nodup ∧ ds.length ≤ 1000 ∧ as.length ≤ 1000 ∧
  (∀ d ∈ ds, d < num) ∧ (∀ d ∈ as, d < num) ∧ ∀ a (e : En) H', Kp p H H' → PenAt H' p → EntAt H' a e → e.num = num → EnOk n ds as e → Q (.ref a) H'
theorem ok_entry {f : Addr} {fd : FuncData} {k : Nat} (F : Fun K "_law_entry" "_law_entry" sEntry f fd) (D : DrawD K mg fDr dDr) (DF : FewD K mg fFe dFe) (DY : DayD K mg fDy dDy) (DD : DeedD K mg fDe dDe) (B : Bi mg) : FnOk P w K mg base CX0 (k + 4) f fd pEntry (spEntry K) := by
  have G : FnOk P w K mg base CX0 (k + 1) fDr dDr ["_law_pen_here", "_law_bound"] spDraw := ok_draw D.F
  have GY : FnOk P w K mg base CX0 (k + 2) fDy dDy ["_law_pen_here"] spDay := ok_day DY.F D
  have GD : FnOk P w K mg base CX0 (k + 3) fDe dDe ["_law_pen_here", "_law_folk_here", "_law_deeds"] (spDeed K) := ok_deed DD.F D DF B
  refine F.ok scEntry (fun vs H Q E h => ?_) (fun cdv A outer s H vs Q E hr h => ?_)
  · obtain ⟨p, fk, ld, la, num, n, ds, as, rfl, _⟩ := h
    rfl
  · obtain ⟨p, fk, ld, la, num, n, ds, as, rfl, hP, hF, hn2, hn6, hld, nld, hla, nla, hnd, hdl, hal, hdn, han, q⟩ := h
    have hr1 : Room (k + 1) _ := hr.mono (by omega)
    have hr2 : Room (k + 2) _ := hr.mono (by omega)
    refine ⟨_, pss_cons (ps_set (i := 5) scEntry.nd rfl (.inl rfl) (pe_tup (pa_cons (pv 2) (pa_cons (pe_call GY hr2 (by rfl) DY.g DY.F.kp DY.b .nil pass0 (pa_cons (pv 0) pa_nil)) (pa_cons (pe_call GY hr2 (by rfl) DY.g DY.F.kp DY.b .nil pass0 (pa_cons (pv 0) pa_nil)) (pa_cons (pe_call G hr1 (by rfl) D.g D.F.kp D.b .nil pass0 (pa_cons (pv 0) (pa_cons pe_int pa_nil))) pa_nil))))))
      (pss_cons (ps_set (i := 6) scEntry.nd rfl (.inl rfl) (pe_call G hr1 (by rfl) D.g D.F.kp D.b .nil pass0 (pa_cons (pv 0) (pa_cons pe_int pa_nil))))
      (pss_cons (ps_if (PW.pt (pw_or (pt_cmpR (op_eqD hr.units) (pv 3) (pe_lst pa_nil) (nomark _)) (pw_or1 (pt_cmpR op_lt (pv 6) pe_int (nomark _)))))
        (pss_one (ps_ret (pe_op op_catT (pe_op op_catT (pv 5) (pe_tup (pa_cons pe_str pa_nil))) (pe_call GD hr (by rfl) DD.g DD.F.kp DD.b .nil pass0 (pa_cons (pv 0) (pa_cons (pv 1) (pa_cons (pv 3) pa_nil))))))) pss_nil)
      (pss_cons (ps_if (PW.pt (pw_or (pt_cmpR (op_eqD hr.units) (pv 4) (pe_lst pa_nil) (nomark _)) (pw_or1 (pt_cmpR op_lt (pv 6) pe_int (nomark _)))))
        (pss_cons (ps_set (i := 7) scEntry.nd rfl (.inl rfl) (pe_ix ix_list (pe_lst (pa_cons pe_str (pa_cons pe_str pa_nil))) (pe_call G hr1 (by rfl) D.g D.F.kp D.b .nil pass0 (pa_cons (pv 0) (pa_cons pe_int pa_nil))) (fun _ _ => rfl)))
        (pss_one (ps_ret (pe_op op_catT (pv 5) (pe_tup (pa_cons (pv 7) (pa_cons (pe_ix ix_list (pv 3) (pe_call G hr1 (by rfl) D.g D.F.kp D.b .nil pass0 (pa_cons (pv 0) (pa_cons (pe_callB call_len_seq (by rfl) B.len PySem.boot_len (pa_cons (pv 3) pa_nil)) pa_nil))) (fun _ _ => rfl)) pa_nil))))))) pss_nil)
      (pss_one (ps_ret (pe_op op_catT (pv 5) (pe_tup (pa_cons pe_str (pa_cons (pe_ix ix_list (pv 4) (pe_call G hr1 (by rfl) D.g D.F.kp D.b .nil pass0 (pa_cons (pv 0) (pa_cons (pe_callB call_len_seq (by rfl) B.len PySem.boot_len (pa_cons (pv 4) pa_nil)) pa_nil))) (fun _ _ => rfl)) pa_nil))))))))), ?_⟩
    -- head
    refine ⟨_, rfl, _, rfl, p, rfl, hP, fun v1 H1 k1 P1 a1 b1 => ?_⟩
    refine ⟨_, rfl, p, rfl, P1, fun v2 H2 k2 P2 a2 b2 => ?_⟩
    refine ⟨_, rfl, p, 4, rfl, P2, by decide, by decide, fun v3 H3 k3 P3 a3 b3 => ?_⟩
    refine ⟨(by show 4 ≤ sizeLine; decide), fun h hh => ?_⟩
    have kh : Kp p H3 (upd H3 h (.tup [.int num, .int v1, .int v2, .int v3])) := Kp.new hh _
    have Ph := P3.new hh (.tup [.int num, .int v1, .int v2, .int v3])
    have eh : (upd H3 h (.tup [.int num, .int v1, .int v2, .int v3])) h = some (.tup [.int num, .int v1, .int v2, .int v3]) := upd_same
    have kA : Kp p H (upd H3 h (.tup [.int num, .int v1, .int v2, .int v3])) := k1.trans (k2.trans (k3.trans kh))
    generalize (upd H3 h (.tup [.int num, .int v1, .int v2, .int v3])) = Hh at kh Ph eh kA
    -- way
    refine ⟨_, rfl, p, 12, rfl, Ph, by decide, by decide, fun way H4 k4 P4 a4 b4 => ?_⟩
    have kB := kA.trans k4
    have e4 := k4.tup Ph _ _ eh
    -- deeds == []
    refine ⟨_, rfl, Nat.zero_le _, fun z hz => ?_⟩
    have kz : Kp p H4 (upd H4 z (.lst [])) := Kp.new hz _
    have Pz := P4.new hz (.lst [])
    have ez : (upd H4 z (.lst [])) z = some (.lst []) := upd_same
    have ehz := kz.tup P4 _ _ e4
    have kC := kB.trans kz
    generalize (upd H4 z (.lst [])) = Hz at kz Pz ez ehz kC
    refine ⟨.list (ds.map .int), .list (([] : List Int).map .int), .lst (SqL.of (kC _ _ nld hld)) (dp_ints ds), .lst (SqL.of ez) (dp_ints []), shaped_ints ds, shaped_ints [], _, rfl, ?_⟩
    rw [eqv_ints]
    refine ite2 (fun c => ?dw1) (fun c => (⟨_, rfl, _, _, rfl, rfl, _, rfl, ite2 (fun c2 => ?dw2) (fun c2 => ?nx)⟩))
    case nx =>
      have hdne : ds ≠ [] := fun e0 => c (decide_eq_true e0)
      have hdpos : 0 < ds.length := List.length_pos_iff.mpr hdne
      refine ⟨_, rfl, Nat.zero_le _, fun y hy => ?_⟩
      have ky : Kp p Hz (upd Hz y (.lst [])) := Kp.new hy _
      have Py := Pz.new hy (.lst [])
      have ey : (upd Hz y (.lst [])) y = some (.lst []) := upd_same
      have ehy := ky.tup Pz _ _ ehz
      have kD := kC.trans ky
      generalize (upd Hz y (.lst [])) = Hy at ky Py ey ehy kD
      refine ⟨.list (as.map .int), .list (([] : List Int).map .int), .lst (SqL.of (kD _ _ nla hla)) (dp_ints as), .lst (SqL.of ey) (dp_ints []), shaped_ints as, shaped_ints [], _, rfl, ?_⟩
      rw [eqv_ints]
      refine ite2 (fun c3 => ?pv1) (fun c3 => (⟨_, rfl, _, _, rfl, rfl, _, rfl, ite2 (fun c4 => ?pv2) (fun c4 => ?un)⟩))
      case un =>
        have hane : as ≠ [] := fun e0 => c3 (decide_eq_true e0)
        have hapos : 0 < as.length := List.length_pos_iff.mpr hane
        have hml : (as.map V.int).length = as.length := List.length_map _
        refine ⟨_, rfl, _, rfl, _, rfl, _, rfl, la, _, rfl, .inl (SqL.of (kD _ _ nla hla)), p, _, rfl, Py, by omega, by omega, fun i H5 k5 P5 a5 b5 => ?_⟩
        rw [hml] at b5
        have hk : i.toNat < as.length := by omega
        refine ⟨la, _, i, .int as[i.toNat], rfl, rfl, SqL.of ((kD.trans k5) _ _ nla hla), at_of (j := i.toNat) (by omega) (by rw [List.getElem?_map, List.getElem?_eq_getElem hk] <;> rfl), (by show 2 ≤ sizeLine; decide), fun u hu => ?_⟩
        have ku : Kp p H5 (upd H5 u (.tup [.str "undone", .int as[i.toNat]])) := Kp.new hu _
        refine ⟨h, u, _, _, rfl, rfl, SqT.of (ku.tup P5 _ _ (k5.tup Py _ _ ehy)), SqT.of upd_same, List.cons_ne_nil _ _, (by show 6 ≤ sizeLine; decide), fun z0 => absurd z0 (List.cons_ne_nil _ _), fun _ t ht => ?_⟩
        refine q t ⟨num, v1, v2, v3, .act "undone" as[i.toNat]⟩ _ (kD.trans (k5.trans (ku.trans (Kp.new ht _)))) ((P5.new hu _).new ht _) upd_same rfl ?_
        exact ⟨⟨a1, b1⟩, ⟨a2, b2⟩, ⟨a3, by show v3 ≤ 3; omega⟩, .inl ⟨rfl, List.getElem_mem hk⟩, han _ (List.getElem_mem hk)⟩
      all_goals
        refine ⟨(by show 2 ≤ sizeLine; decide), fun m hm => ?_⟩
        refine ⟨_, rfl, p, 2, rfl, Py.new hm _, by decide, by decide, fun v5 H5 k5 P5 a5 b5 => ?_⟩
        obtain ⟨_, g5, x, rfl, hx⟩ := pick (xs := [.str "paid", .str "void"]) (fun y => ∃ x : Str, y = .str x ∧ (x = "paid" ∨ x = "void")) a5 b5 (am1 ⟨_, rfl, .inl rfl⟩ (am1 ⟨_, rfl, .inr rfl⟩ am0))
        refine ⟨m, _, v5, _, rfl, rfl, SqL.of (k5 _ _ (Py.free hm) upd_same), g5, ?_⟩
        have kE := kD.trans ((Kp.new hm _).trans k5)
        have eh5 := k5.tup (Py.new hm _) _ _ ((Kp.new (p := p) hm _).tup Py _ _ ehy)
        have hml : (ds.map V.int).length = ds.length := List.length_map _
        refine ⟨_, rfl, _, rfl, _, rfl, _, rfl, _, rfl, ld, _, rfl, .inl (SqL.of (kE _ _ nld hld)), p, _, rfl, P5, by omega, by omega, fun i H6 k6 P6 a6 b6 => ?_⟩
        rw [hml] at b6
        have hk : i.toNat < ds.length := by omega
        refine ⟨ld, _, i, .int ds[i.toNat], rfl, rfl, SqL.of ((kE.trans k6) _ _ nld hld), at_of (j := i.toNat) (by omega) (by rw [List.getElem?_map, List.getElem?_eq_getElem hk] <;> rfl), (by show 2 ≤ sizeLine; decide), fun u hu => ?_⟩
        have ku : Kp p H6 (upd H6 u (.tup [.str x, .int ds[i.toNat]])) := Kp.new hu _
        refine ⟨h, u, _, _, rfl, rfl, SqT.of (ku.tup P6 _ _ (k6.tup P5 _ _ eh5)), SqT.of upd_same, List.cons_ne_nil _ _, (by show 6 ≤ sizeLine; decide), fun z0 => absurd z0 (List.cons_ne_nil _ _), fun _ t ht => ?_⟩
        refine q t ⟨num, v1, v2, v3, .act x ds[i.toNat]⟩ _ (kE.trans (k6.trans (ku.trans (Kp.new ht _)))) ((P6.new hu _).new ht _) upd_same rfl ?_
        exact ⟨⟨a1, b1⟩, ⟨a2, b2⟩, ⟨a3, by show v3 ≤ 3; omega⟩, .inr ⟨hx, List.getElem_mem hk⟩, hdn _ (List.getElem_mem hk)⟩
    all_goals
      refine ⟨_, rfl, (by show 1 ≤ sizeLine; decide), fun u hu => ?_⟩
      have ku : Kp p Hz (upd Hz u (.tup [.str "deed"])) := Kp.new hu _
      refine ⟨h, u, _, _, rfl, rfl, SqT.of (ku.tup Pz _ _ ehz), SqT.of upd_same, List.cons_ne_nil _ _, (by show 5 ≤ sizeLine; decide), fun z0 => absurd z0 (List.cons_ne_nil _ _), fun _ t ht => ?_⟩
      have Pu := Pz.new hu (.tup [.str "deed"])
      have kt : Kp p (upd Hz u (.tup [.str "deed"])) (upd (upd Hz u (.tup [.str "deed"])) t (.tup ([.int num, .int v1, .int v2, .int v3] ++ [.str "deed"]))) := Kp.new ht _
      have Pt := Pu.new ht (.tup ([.int num, .int v1, .int v2, .int v3] ++ [.str "deed"]))
      have kE := kC.trans (ku.trans kt)
      refine ⟨_, rfl, _, rfl, _, rfl, p, fk, ld, n, ds, rfl, Pt, hF.kp kE hP, hn2, hn6, kE _ _ nld hld, nld, hnd, hdl, fun a r x g tk rs ws H6 k6 P6 ea er ex hg htk hgt hrl hrp hrd hwl hwp hw => ?_⟩
      have et6 := k6.tup Pt _ _ (upd_same (H := upd Hz u (.tup [.str "deed"])) (a := t))
      refine ⟨t, a, _, _, rfl, rfl, SqT.of et6, SqT.of ea, List.cons_ne_nil _ _, (by show 9 ≤ sizeLine; decide), fun z0 => absurd z0 (List.cons_ne_nil _ _), fun _ b hb => ?_⟩
      have kb : Kp p H6 (upd H6 b (.tup (([.int num, .int v1, .int v2, .int v3] ++ [.str "deed"]) ++ [.int g, .int tk, .ref r, .ref x]))) := Kp.new hb _
      refine q b ⟨num, v1, v2, v3, .deed g tk rs ws⟩ _ (kE.trans (k6.trans kb)) (P6.new hb _) ⟨r, x, upd_same, kb.tup P6 _ _ er, kb.tup P6 _ _ ex⟩ rfl ?_
      exact ⟨⟨a1, b1⟩, ⟨a2, b2⟩, ⟨a3, by show v3 ≤ 3; omega⟩, hg, htk, hgt, hrl, hrp, fun y hy => ⟨hrd y hy, hdn _ (hrd y hy)⟩, hwl, hwp, hw⟩
/-! ### in another order -/
abbrev sMixed : Stmt := topS 48
abbrev nMixed : List Str := ["_law_pen_here", "_law_some", "_law_left", "_law_k"]
theorem scMixed : FnScope nMixed ["_law_pen_here", "_law_some"] (defScope sMixed) := ⟨rfl, rfl, rfl, by decide +kernel, rfl, by decide +kernel, by decide +kernel⟩
def spMixed (K : PySem.W.Frag) : Sp := fun vs H Q _ => ∃ (p a : Addr) (xs : List V), vs = [.ref p, .ref a] ∧ PenAt H p ∧ (SqL K H a xs ∨ SqT K H a xs) ∧ xs.length ≤ 1000 ∧
  ∀ l (ys : List V) H', Kp p H H' → PenAt H' p → H l = none → H' l = some (.lst ys) → ys.Perm xs → Q (.ref l) H'
theorem ok_mixed {f : Addr} {fd : FuncData} {k : Nat} (F : Fun K "_law_mixed" "_law_mixed" sMixed f fd) (D : DrawD K mg fDr dDr) (B : Bi mg) : FnOk P w K mg base CX0 (k + 2) f fd ["_law_pen_here", "_law_some"] (spMixed K) := by
  have G : FnOk P w K mg base CX0 (k + 1) fDr dDr ["_law_pen_here", "_law_bound"] spDraw := ok_draw D.F
  refine F.ok scMixed (fun vs H Q E h => ?_) (fun cdv A outer s H vs Q E hr h => ?_)
  · obtain ⟨p, a, xs, rfl, _⟩ := h
    rfl
  · obtain ⟨p, a, xs, rfl, hP, hS, hxl, q⟩ := h
    refine ⟨_, pss_cons (ps_set (i := 2) scMixed.nd rfl (.inr rfl) (pe_callTy call_list_of (by rfl) B.list (by decide +kernel) (pa_cons (pv 1) pa_nil)))
      (pss_one (ps_ret (pe_lc (own := [("_law_k", 3)]) (g := gName 3) (by rfl) scMixed.nd (pi_range1 (by rfl) B.range (pa_cons (pe_callB call_len_seq (by rfl) B.len PySem.boot_len (pa_cons (pv 2) pa_nil)) pa_nil)) (blkOk_by (own := [("_law_k", 3)]) (N := nMixed) (sc := defScope sMixed) (by decide +kernel)) (fun _ _ _ _ _ => pg_name (i := 3) scMixed.nd rfl (Or.inl rfl)) (fun _ _ _ _ _ => pts_nil)
        (fun _ _ _ _ _ => show PE _ _ (tBM K "list" rPopAt (tVar 2) (tCons (tCall spDraw [] E0 (tCons (tVar 0) (tCons (tCB (rLenS K) (tCons (tVar 2) tNil)) tNil))) tNil)) from pe_bm PySem.F.plainAttrs_list PySem.F.slot_list_pop PySem.F.type_list_pop mt_popAt (pv 2) (pa_cons (pe_call G hr (by rfl) D.g D.F.kp D.b .nil pass0 (pa_cons (pv 0) (pa_cons (pe_callB call_len_seq (by rfl) B.len PySem.boot_len (pa_cons (pv 2) pa_nil)) pa_nil))) pa_nil))))), ?_⟩
    refine ⟨_, rfl, a, _, rfl, hS, fun l hl => ?_⟩
    have nl : l ≠ p := hP.free hl
    have el : (upd H l (.lst xs)) l = some (.lst xs) := upd_same
    refine ⟨_, rfl, l, xs, rfl, .inl (SqL.of el), _, rfl, by omega, by omega, fun o no => ?_⟩
    have no' : o ≠ p := (hP.new hl _).free no
    have nlo : l ≠ o := fun z => by
      rw [← z, el] at no
      cases no
    have hno : H o = none := by
      rw [upd_ne nlo.symm] at no
      exact no
    refine lc_range (lo := 0) (n := ((xs.length : Nat) : Int).toNat) (fun i H' => ∃ ys ls : List V, H' o = some (.lst ys) ∧ H' l = some (.lst ls) ∧ Kp p H H' ∧ PenAt H' p ∧ ys.length = i ∧ (ys ++ ls).Perm xs)
      ⟨[], xs, upd_same, by rw [upd_ne nlo]; exact el, (Kp.new hl _).trans (Kp.new no _), (hP.new hl _).new no _, rfl, List.Perm.refl _⟩ ?_ ?_
    · rintro i H' hi ⟨ys, ls, e1, e2, k', P', hyl, hpm⟩
      have hll : ls.length = xs.length - i := by
        have := hpm.length_eq
        rw [List.length_append] at this
        omega
      refine ⟨rfl, ?_⟩
      unfold tYes
      dsimp only
      rw [if_pos rfl]
      refine ⟨_, rfl, .inl ⟨rfl, _, SqL.of e2⟩, _, rfl, _, rfl, l, ls, rfl, .inl (SqL.of e2), p, _, rfl, P', by omega, by omega, fun v2 H2 k2 P2 a2 b2 => ?_⟩
      have e1' := k2 _ _ no' e1
      have e2' := k2 _ _ nl e2
      have hk : v2.toNat < ls.length := by omega
      refine ⟨l, _, v2, v2.toNat, ls[v2.toNat], rfl, rfl, e2', by omega, by omega, seqIx a2 (by omega), List.getElem?_eq_getElem hk, ?_⟩
      refine ⟨ys, by rw [upd_ne nlo.symm]; exact e1', small1000 (by omega), ys ++ [ls[v2.toNat]], ls.eraseIdx v2.toNat, upd_same, by rw [upd_ne nlo, upd_same], fun b z n1 e => ?_, ?_, ?_, ?_⟩
      · rw [upd_ne (ne_of_none e hno), upd_ne (ne_of_none e hl)]
        exact (k'.trans k2) _ _ n1 e
      · obtain ⟨x1, x2, x3, x4, z1, z2⟩ := P2
        exact ⟨x1, x2, x3, x4, by rw [upd_ne no'.symm, upd_ne nl.symm]; exact z1, z2⟩
      · rw [List.length_append, hyl]
        rfl
      · have h1 : (ls[v2.toNat] :: ls.eraseIdx v2.toNat).Perm ls := perm_erase (List.getElem?_eq_getElem hk)
        refine List.Perm.trans ?_ hpm
        rw [List.append_assoc]
        exact List.Perm.append_left ys h1
    · rintro H' ⟨ys, ls, e1, e2, k', P', hyl, hpm⟩
      refine q o ys H' k' P' hno e1 ?_
      have h0 : ls = [] := by
        have := hpm.length_eq
        rw [List.length_append] at this
        exact List.length_eq_zero_iff.mp (by omega)
      rw [h0, List.append_nil] at hpm
      exact hpm
end
end Deed

namespace Deed
open PySem PySem.Spec PyProof.Rows L2
theorem perm_pairs {α β : Type} (f : α → β) {ys xs : List β} (h : ys.Perm xs) : ∀ zs : List α, xs = zs.map f → ∃ zs' : List α, ys = zs'.map f ∧ zs'.Perm zs := by
  induction h with
  | nil =>
    intro zs e
    cases zs with
    | nil => exact ⟨[], rfl, List.Perm.refl _⟩
    | cons z r => cases e
  | cons x _ ih =>
    intro zs e
    cases zs with
    | nil => cases e
    | cons z r =>
      rw [List.map_cons] at e
      injection e with e1 e2
      obtain ⟨zs', h1, h2⟩ := ih r e2
      exact ⟨z :: zs', by rw [List.map_cons, ← h1, e1], h2.cons z⟩
  | swap x y l =>
    intro zs e
    match zs, e with
    | [], e => cases e
    | [_], e => cases e
    | a :: b :: r, e =>
      rw [List.map_cons, List.map_cons] at e
      injection e with e1 e2
      injection e2 with e2 e3
      exact ⟨b :: a :: r, by rw [List.map_cons, List.map_cons, ← e1, ← e2, ← e3], List.Perm.swap _ _ _⟩
  | trans _ _ ih1 ih2 =>
    intro zs e
    obtain ⟨z1, h1, h2⟩ := ih2 zs e
    obtain ⟨z2, h3, h4⟩ := ih1 z1 h1
    exact ⟨z2, h3, h4.trans h2⟩
def dn (es : List En) : List Int := (es.filter (·.isDeed)).map (·.num)
def an (es : List En) : List Int := (es.filter (fun e => !e.isDeed)).map (·.num)
theorem dn_snoc (es : List En) (e : En) : dn (es ++ [e]) = dn es ++ (if e.isDeed then [e.num] else []) := by
  unfold dn
  rw [List.filter_append, List.map_append]
  cases h : e.isDeed <;> simp [List.filter, h]
theorem an_snoc (es : List En) (e : En) : an (es ++ [e]) = an es ++ (if e.isDeed then [] else [e.num]) := by
  unfold an
  rw [List.filter_append, List.map_append]
  cases h : e.isDeed <;> simp [List.filter, h]
theorem dn_sub (es : List En) : ∀ x ∈ dn es, x ∈ es.map (·.num) := fun x hx => by
  obtain ⟨e, he, rfl⟩ := List.mem_map.mp hx
  exact List.mem_map.mpr ⟨e, (List.mem_filter.mp he).1, rfl⟩
theorem an_sub (es : List En) : ∀ x ∈ an es, x ∈ es.map (·.num) := fun x hx => by
  obtain ⟨e, he, rfl⟩ := List.mem_map.mp hx
  exact List.mem_map.mpr ⟨e, (List.mem_filter.mp he).1, rfl⟩
theorem dn_nodup {es : List En} (h : (es.map (fun e => e.num)).Nodup) : (dn es).Nodup := by
  have h1 : (es.filter (fun e => e.isDeed)).Sublist es := List.filter_sublist
  exact (h1.map (fun e => e.num)).nodup h
theorem dn_len (es : List En) : (dn es).length ≤ es.length := by
  unfold dn
  rw [List.length_map]
  exact List.length_filter_le _ _
theorem an_len (es : List En) : (an es).length ≤ es.length := by
  unfold an
  rw [List.length_map]
  exact List.length_filter_le _ _
theorem mem_dn {es : List En} {x : Int} : x ∈ dn es ↔ ∃ e ∈ es, e.isDeed = true ∧ e.num = x := by
  unfold dn
  simp only [List.mem_map, List.mem_filter]
  constructor
  · rintro ⟨e, ⟨h1, h2⟩, h3⟩
    exact ⟨e, h1, h2, h3⟩
  · rintro ⟨e, h1, h2, h3⟩
    exact ⟨e, ⟨h1, h2⟩, h3⟩
theorem mem_an {es : List En} {x : Int} : x ∈ an es ↔ ∃ e ∈ es, e.isDeed = false ∧ e.num = x := by
  unfold an
  simp only [List.mem_map, List.mem_filter, Bool.not_eq_true']
  constructor
  · rintro ⟨e, ⟨h1, h2⟩, h3⟩
    exact ⟨e, h1, h2, h3⟩
  · rintro ⟨e, h1, h2, h3⟩
    exact ⟨e, ⟨h1, h2⟩, h3⟩
/-- entries of a book of n folk -/
structure BkOk (n : Nat) (es : List En) : Prop where
  nd : (es.map (·.num)).Nodup
  rng : ∀ e ∈ es, 0 ≤ e.num ∧ e.num ≤ 30
  ok : ∀ e ∈ es, EnOk n (dn es) (an es) e
theorem BkOk.perm {n : Nat} {es es' : List En} (h : BkOk n es) (p : es'.Perm es) : BkOk n es' := by
  refine ⟨(p.map _).nodup_iff.mpr h.nd, fun e he => h.rng e (p.mem_iff.mp he), fun e he => (h.ok e (p.mem_iff.mp he)).mono (fun x hx => ?_) fun x hx => ?_⟩
  · obtain ⟨e', h1, h2⟩ := mem_dn.mp hx
    exact mem_dn.mpr ⟨e', p.mem_iff.mpr h1, h2⟩
  · obtain ⟨e', h1, h2⟩ := mem_an.mp hx
    exact mem_an.mpr ⟨e', p.mem_iff.mpr h1, h2⟩
def En.word (e : En) : Str := match e.kd with
  | .deed _ _ _ _ => "deed"
  | .act x _ => x
theorem EnOk.word {n : Nat} {ds as : List Int} {e : En} (h : EnOk n ds as e) : e.word = "deed" ↔ e.isDeed = true := by
  unfold En.word En.isDeed
  cases hk : e.kd with
  | deed g t rs ws => simp
  | act x o =>
    have h4 := h.2.2.2
    rw [hk] at h4
    simp only [Bool.false_eq_true, iff_false]
    rcases h4.1 with ⟨z, _⟩ | ⟨z | z, _⟩ <;> rw [z] <;> decide
/-- the first places of an entry -/
theorem EntAt.tup {H : Hp} {a : Addr} {e : En} (h : EntAt H a e) : ∃ xs, H a = some (.tup xs) ∧ atI xs 0 = some (.int e.num) ∧ atI xs 1 = some (.int e.day) ∧ atI xs 2 = some (.int e.wri) ∧ atI xs 3 = some (.int e.hand) ∧ atI xs 4 = some (.str e.word) := by
  unfold EntAt at h
  unfold En.word
  cases hk : e.kd with
  | deed g t rs ws =>
    rw [hk] at h
    obtain ⟨r, w, h1, _⟩ := h
    exact ⟨_, h1, atI_nat (j := 0) rfl, atI_nat (j := 1) rfl, atI_nat (j := 2) rfl, atI_nat (j := 3) rfl, atI_nat (j := 4) rfl⟩
  | act x o =>
    rw [hk] at h
    exact ⟨_, h, atI_nat (j := 0) rfl, atI_nat (j := 1) rfl, atI_nat (j := 2) rfl, atI_nat (j := 3) rfl, atI_nat (j := 4) rfl⟩
theorem FolkAt.kpT {H H' : Hp} {t : Addr} {n : Nat} (h : FolkAt H t n) (k : KpT H H') : FolkAt H' t n := by
  obtain ⟨xs, h1, h2, h3⟩ := h
  refine ⟨xs, k _ _ h1, h2, fun x hx => ?_⟩
  obtain ⟨a, b, d, e, h4, r⟩ := h3 x hx
  exact ⟨a, b, d, e, k _ _ h4, r⟩
theorem KpT.lst {H : Hp} {l : Addr} {xs : List V} (e : H l = some (.lst xs)) (o : HO) : KpT H (upd H l o) := fun b ys h => by
  have nb : b ≠ l := fun z => by
    rw [z, e] at h
    cases h
  rw [upd_ne nb]
  exact h
theorem KpT.refl (H : Hp) : KpT H H := fun _ _ h => h
theorem Kp.over {p l : Addr} {H H' : Hp} (k : Kp p H H') (n : H l = none) (o : HO) : Kp p H (upd H' l o) := fun b u n1 e => by
  rw [upd_ne (ne_of_none e n)]
  exact k _ _ n1 e
theorem PenAt.put {p l : Addr} {H : Hp} (h : PenAt H p) (n : l ≠ p) (o : HO) : PenAt (upd H l o) p := by
  obtain ⟨x1, x2, x3, x4, z1, z2⟩ := h
  exact ⟨x1, x2, x3, x4, by rw [upd_ne n.symm]; exact z1, z2⟩
abbrev refs (zs : List (Addr × En)) : List V := zs.map fun z => .ref z.1
abbrev ens (zs : List (Addr × En)) : List En := zs.map (·.2)
/-- a book at b -/
structure BookAt (H : Hp) (b fk t : Addr) (n : Nat) (age : Int) (zs : List (Addr × En)) : Prop where
  at_ : H b = some (.tup [.ref fk, .int age, .ref t])
  folk : FolkAt H fk n
  n2 : 2 ≤ n
  n6 : n ≤ 6
  age0 : 0 ≤ age
  age1 : age ≤ 9999
  ents : H t = some (.tup (refs zs))
  ent : ∀ z ∈ zs, EntAt H z.1 z.2
  ok : BkOk n (ens zs)
  len : zs.length ≤ 16
theorem BookAt.kp {H H' : Hp} {b fk t : Addr} {n : Nat} {age : Int} {zs : List (Addr × En)} (h : BookAt H b fk t n age zs) (k : KpT H H') : BookAt H' b fk t n age zs :=
  ⟨k _ _ h.at_, h.folk.kpT k, h.n2, h.n6, h.age0, h.age1, k _ _ h.ents, fun z hz => (h.ent z hz).kp k, h.ok, h.len⟩
section
variable {P : Program} {w : World} {K : PySem.W.Frag} {mg : Str → Option Value} {base : Heap} {fDr fFe fDy fDe fEn fFo fMi : Addr} {dDr dFe dDy dDe dEn dFo dMi : FuncData}
abbrev EntryD (K : PySem.W.Frag) (mg : Str → Option Value) := Df K mg "_law_entry" sEntry pEntry
abbrev FolkD (K : PySem.W.Frag) (mg : Str → Option Value) := Df K mg "_law_folk" sFolk ["_law_pen_here", "_law_least"]
abbrev MixedD (K : PySem.W.Frag) (mg : Str → Option Value) := Df K mg "_law_mixed" sMixed ["_law_pen_here", "_law_some"]
/-! ### a book -/
abbrev sBook : Stmt := topS 49
abbrev nBook : List Str := ["_law_pen_here", "_law_most", "_law_folk_here", "_law_number", "_law_deeds", "_law_acts", "_law_found", "_law_k", "_law_entry_here"]
theorem scBook : FnScope nBook ["_law_pen_here", "_law_most"] (defScope sBook) := ⟨rfl, rfl, rfl, by decide +kernel, rfl, by decide +kernel, by decide +kernel⟩
def spBook : Sp := fun vs H Q _ => ∃ (p : Addr) (most : Int), vs = [.ref p, .int most] ∧ PenAt H p ∧ 0 ≤ most ∧ most ≤ 16 ∧
  ∀ b fk t n age zs H', Kp p H H' → PenAt H' p → BookAt H' b fk t n age zs → (zs.length : Int) ≤ most → Q (.ref b) H'
theorem ok_book {f : Addr} {fd : FuncData} {k : Nat} (F : Fun K "_law_book" "_law_book" sBook f fd) (D : DrawD K mg fDr dDr) (DF : FewD K mg fFe dFe) (DY : DayD K mg fDy dDy) (DD : DeedD K mg fDe dDe) (DE : EntryD K mg fEn dEn) (DO : FolkD K mg fFo dFo) (DM : MixedD K mg fMi dMi) (B : Bi mg) :
    FnOk P w K mg base CX0 (k + 5) f fd ["_law_pen_here", "_law_most"] spBook := by
  have G : FnOk P w K mg base CX0 (k + 1) fDr dDr ["_law_pen_here", "_law_bound"] spDraw := ok_draw D.F
  have GE : FnOk P w K mg base CX0 (k + 4) fEn dEn pEntry (spEntry K) := ok_entry DE.F D DF DY DD B
  have GO : FnOk P w K mg base CX0 (k + 2) fFo dFo ["_law_pen_here", "_law_least"] spFolk := ok_folk DO.F D B.range B.min B.tuple
  have GM : FnOk P w K mg base CX0 (k + 2) fMi dMi ["_law_pen_here", "_law_some"] (spMixed K) := ok_mixed DM.F D B
  refine F.ok scBook (fun vs H Q E h => ?_) (fun cdv A outer s H vs Q E hr h => ?_)
  · obtain ⟨p, m, rfl, _⟩ := h
    rfl
  · obtain ⟨p, most, rfl, hP, hm0, hm1, q⟩ := h
    have hr1 : Room (k + 1) _ := hr.mono (by omega)
    have hr2 : Room (k + 2) _ := hr.mono (by omega)
    refine ⟨_, pss_cons (ps_par (i := 2) (j := 3) (by rfl) scBook.nd rfl rfl (by decide) rfl rfl (pa_cons (pe_call GO hr2 (by rfl) DO.g DO.F.kp DO.b .nil pass0 (pa_cons (pv 0) (pa_cons pe_int pa_nil))) (pa_cons (pe_call G hr1 (by rfl) D.g D.F.kp D.b .nil pass0 (pa_cons (pv 0) (pa_cons pe_int pa_nil))) pa_nil)) (by rfl))
      (pss_cons (ps_par3 (i := 4) (j := 5) (l := 6) (by rfl) scBook.nd rfl rfl rfl (by decide) (by decide) (by decide) rfl rfl rfl (pa_cons (pe_lst pa_nil) (pa_cons (pe_lst pa_nil) (pa_cons (pe_lst pa_nil) pa_nil))) (by rfl))
      (pss_cons (ps_for PassesOwn.never rfl (pi_range1 rfl B.range (pa_cons (pe_call G hr1 (by rfl) D.g D.F.kp D.b .nil pass0 (pa_cons (pv 0) (pa_cons (pe_op op_add (pv 1) pe_int) pa_nil))) pa_nil)) (pg_name (i := 7) scBook.nd rfl (.inl rfl))
        (pss_cons (ps_set (i := 8) scBook.nd rfl (.inl rfl) (pe_call GE hr (by rfl) DE.g DE.F.kp DE.b .nil pass0 (pa_cons (pv 0) (pa_cons (pv 2) (pa_cons (pv 3) (pa_cons (pv 4) (pa_cons (pv 5) pa_nil)))))))
        (pss_cons (ps_expr (pe_bm PySem.F.plainAttrs_list PySem.F.slot_list_append PySem.F.type_list_append mt_append (pv 6) (pa_cons (pv 8) pa_nil)))
        (pss_cons (ps_if (pt_cmpR op_eq (pe_ix ix_tup (pv 8) pe_int (fun _ _ => rfl)) pe_str (nomark _))
            (pss_one (ps_expr (pe_bm PySem.F.plainAttrs_list PySem.F.slot_list_append PySem.F.type_list_append mt_append (pv 4) (pa_cons (pv 3) pa_nil))))
            (pss_one (ps_expr (pe_bm PySem.F.plainAttrs_list PySem.F.slot_list_append PySem.F.type_list_append mt_append (pv 5) (pa_cons (pv 3) pa_nil)))))
        (pss_one (ps_set (i := 3) scBook.nd rfl (.inl rfl) (pe_op op_add (pe_op op_add (pv 3) pe_int) (pe_ix ix_list (pe_lst (pa_cons pe_int (pa_cons (pe_call G hr1 (by rfl) D.g D.F.kp D.b .nil pass0 (pa_cons (pv 0) (pa_cons pe_int pa_nil))) pa_nil))) (pe_callTy call_int1 (by rfl) B.int (by decide +kernel) (pa_cons (pe_cmpR op_lt (pv 3) (pe_op op_add pe_int (pv 7)) (nomark _)) pa_nil)) (fun _ _ => rfl)))))))))
      (pss_one (ps_ret (pe_tup (pa_cons (pv 2) (pa_cons (pe_call G hr1 (by rfl) D.g D.F.kp D.b .nil pass0 (pa_cons (pv 0) (pa_cons pe_int pa_nil))) (pa_cons (pe_callTy call_tuple_of (by rfl) B.tuple (by decide +kernel) (pa_cons (pe_call GM hr2 (by rfl) DM.g DM.F.kp DM.b .nil pass0 (pa_cons (pv 0) (pa_cons (pv 6) pa_nil))) pa_nil)) pa_nil)))))))), ?_⟩
    refine ⟨_, rfl, p, 2, rfl, hP, by decide, by decide, fun fk n H1 k1 P1 F1 hn2 hn6 => ?_⟩
    have hn2' : 2 ≤ n := by omega
    refine ⟨_, rfl, p, 3, rfl, P1, by decide, by decide, fun num0 H2 k2 P2 a2 b2 => ⟨_, _, rfl, ?_⟩⟩
    have F2 := F1.kp k2 P1
    have k12 := k1.trans k2
    refine ⟨Nat.zero_le _, fun ld hld => ?_⟩
    have nld : ld ≠ p := P2.free hld
    have hldH : H ld = none := by
      cases z : H ld with
      | none => rfl
      | some o => rw [k12 _ _ nld z] at hld; cases hld
    refine ⟨Nat.zero_le _, fun la hla => ?_⟩
    have Pd := P2.new hld (.lst [])
    have nla : la ≠ p := Pd.free hla
    have nda : ld ≠ la := fun z => by
      rw [← z, upd_same] at hla
      cases hla
    have hlaH : H la = none := by
      cases z : H la with
      | none => rfl
      | some o =>
        rw [upd_ne nda.symm, k12 _ _ nla z] at hla
        cases hla
    refine ⟨Nat.zero_le _, fun lf hlf => ⟨_, _, _, rfl, ?_⟩⟩
    have Pa := Pd.new hla (.lst [])
    have nlf : lf ≠ p := Pa.free hlf
    have naf : la ≠ lf := fun z => by
      rw [← z, upd_same] at hlf
      cases hlf
    have ndf : ld ≠ lf := fun z => by
      rw [← z, upd_ne nda, upd_same] at hlf
      cases hlf
    have hlfH : H lf = none := by
      cases z : H lf with
      | none => rfl
      | some o =>
        rw [upd_ne naf.symm, upd_ne ndf.symm, k12 _ _ nlf z] at hlf
        cases hlf
    have k3 : Kp p H2 (upd (upd (upd H2 ld (.lst [])) la (.lst [])) lf (.lst [])) := ((Kp.new hld _).trans (Kp.new hla _)).trans (Kp.new hlf _)
    have P3 := Pa.new hlf (.lst [])
    have e3d : (upd (upd (upd H2 ld (.lst [])) la (.lst [])) lf (.lst [])) ld = some (.lst []) := by rw [upd_ne ndf, upd_ne nda, upd_same]
    have e3a : (upd (upd (upd H2 ld (.lst [])) la (.lst [])) lf (.lst [])) la = some (.lst []) := by rw [upd_ne naf, upd_same]
    have e3f : (upd (upd (upd H2 ld (.lst [])) la (.lst [])) lf (.lst [])) lf = some (.lst []) := upd_same
    generalize (upd (upd (upd H2 ld (.lst [])) la (.lst [])) lf (.lst [])) = H3 at k3 P3 e3d e3a e3f
    refine ⟨_, rfl, _, rfl, _, _, rfl, rfl, p, most + 1, rfl, P3, by omega, by omega, fun many H4 k4 P4 a4 b4 => ?_⟩
    refine ⟨_, rfl, by omega, by omega, ?_⟩
    refine for_range (lo := 0) (n := many.toNat) (fun i σ H' => ∃ y7 y8, ∃ (num : Int) (zs : List (Addr × En)), σ = [some (.ref p), some (.int most), some (.ref fk), some (.int num), some (.ref ld), some (.ref la), some (.ref lf), y7, y8] ∧ Kp p H H' ∧ PenAt H' p ∧ FolkAt H' fk n ∧
        H' ld = some (.lst ((dn (ens zs)).map V.int)) ∧ H' la = some (.lst ((an (ens zs)).map V.int)) ∧ H' lf = some (.lst (refs zs)) ∧ (∀ z ∈ zs, EntAt H' z.1 z.2) ∧ zs.length = i ∧ BkOk n (ens zs) ∧ (∀ e ∈ ens zs, e.num < num) ∧ 0 ≤ num ∧ num ≤ 15 + (i : Int))
      ⟨none, none, num0, [], rfl, k12.trans (k3.trans k4), P4, (F2.kp k3 P2).kp k4 P3, k4 _ _ nld e3d, k4 _ _ nla e3a, k4 _ _ nlf e3f, (fun _ h => nomatch h), rfl, ⟨List.nodup_nil, (fun _ h => nomatch h), (fun _ h => nomatch h)⟩, (fun _ h => nomatch h), a2, by omega⟩ ?_ ?_
    · rintro i σ H' hi ⟨y7, y8, num, zs, rfl, k', P', F', ed, ea, ef, hent, hlen, hok, hlt, hn0, hn1⟩
      have hel : (ens zs).length = i := by rw [List.length_map, hlen]
      have hdl := dn_len (ens zs)
      have hal := an_len (ens zs)
      -- entry_here
      refine ⟨_, rfl, _, rfl, _, rfl, _, rfl, _, rfl, p, fk, ld, la, num, n, dn (ens zs), an (ens zs), rfl, P', F', hn2', hn6, ed, nld, ea, nla, dn_nodup hok.nd, by omega, by omega, fun d hd => ?_, fun d hd => ?_, fun a e H5 k5 P5 E5 hnum hEn => ?_⟩
      · obtain ⟨e, he, rfl⟩ := List.mem_map.mp (dn_sub _ _ hd)
        exact hlt e he
      · obtain ⟨e, he, rfl⟩ := List.mem_map.mp (an_sub _ _ hd)
        exact hlt e he
      have kT5 := k5.tup P'
      have ed5 := k5 _ _ nld ed
      have ea5 := k5 _ _ nla ea
      have ef5 := k5 _ _ nlf ef
      -- found.append
      refine ⟨_, rfl, .inl ⟨rfl, _, SqL.of ef5⟩, _, rfl, lf, _, _, rfl, rfl, ef5, small1000 (by rw [List.length_map]; omega), ?_⟩
      have kT6 := KpT.lst ef5 (.lst (refs zs ++ [.ref a]))
      have P6 := P5.put nlf (.lst (refs zs ++ [.ref a]))
      have k6 := (k'.trans k5).over hlfH (.lst (refs zs ++ [.ref a]))
      have ed6 := (show (upd H5 lf (.lst (refs zs ++ [.ref a]))) ld = H5 ld from upd_ne ndf).trans ed5
      have ea6 := (show (upd H5 lf (.lst (refs zs ++ [.ref a]))) la = H5 la from upd_ne naf).trans ea5
      have ef6 := (show (upd H5 lf (.lst (refs zs ++ [.ref a]))) lf = some (.lst (refs zs ++ [.ref a])) from upd_same)
      have E6 := E5.kp kT6
      have hent6 : ∀ z ∈ zs, EntAt (upd H5 lf (.lst (refs zs ++ [.ref a]))) z.1 z.2 := fun z hz => ((hent z hz).kp kT5).kp kT6
      have F6 := (F'.kpT kT5).kpT kT6
      generalize (upd H5 lf (.lst (refs zs ++ [.ref a]))) = H6 at kT6 P6 k6 ed6 ea6 ef6 E6 hent6 F6
      obtain ⟨xs6, ex6, _, _, _, _, g4⟩ := E6.tup
      refine ⟨_, rfl, a, xs6, 4, _, rfl, rfl, SqT.of ex6, g4, rfl, _, rfl, ?_⟩
      have okE : BkOk n (ens zs ++ [e]) := by
        have hd : ∀ x ∈ dn (ens zs), x ∈ dn (ens zs ++ [e]) := fun x hx => by rw [dn_snoc]; exact List.mem_append_left _ hx
        have ha : ∀ x ∈ an (ens zs), x ∈ an (ens zs ++ [e]) := fun x hx => by rw [an_snoc]; exact List.mem_append_left _ hx
        refine ⟨?_, fun e' he' => ?_, fun e' he' => ?_⟩
        · rw [List.map_append]
          refine List.nodup_append.mpr ⟨hok.nd, List.pairwise_singleton _ _, fun x hx y hy => ?_⟩
          obtain ⟨e', he', rfl⟩ := List.mem_map.mp hx
          have hy' : y = e.num := by simpa using hy
          rw [hy', hnum]
          exact Int.ne_of_lt (hlt e' he')
        · rcases List.mem_append.mp he' with he' | he'
          · exact hok.rng e' he'
          · rw [List.mem_singleton.mp he', hnum]
            omega
        · rcases List.mem_append.mp he' with he' | he'
          · exact (hok.ok e' he').mono hd ha
          · rw [List.mem_singleton.mp he']
            exact hEn.mono hd ha
      have wd := hEn.word
      -- the last row of a turn
      refine ite2 (fun c => ?deed) (fun c => ?act)
      case deed =>
        have hd : e.isDeed = true := wd.mp (by
          have := of_decide_eq_true c
          injection this)
        refine ⟨_, rfl, .inl ⟨rfl, _, SqL.of ed6⟩, _, rfl, ld, _, _, rfl, rfl, ed6, small1000 (by rw [List.length_map]; omega), ?_⟩
        have kT7 := KpT.lst ed6 (.lst ((dn (ens zs)).map V.int ++ [.int num]))
        have P7 := P6.put nld (.lst ((dn (ens zs)).map V.int ++ [.int num]))
        have k7 := k6.over hldH (.lst ((dn (ens zs)).map V.int ++ [.int num]))
        have ea7 := (show (upd H6 ld (.lst ((dn (ens zs)).map V.int ++ [.int num]))) la = H6 la from upd_ne nda.symm).trans ea6
        have ef7 := (show (upd H6 ld (.lst ((dn (ens zs)).map V.int ++ [.int num]))) lf = H6 lf from upd_ne ndf.symm).trans ef6
        have ed7 := (show (upd H6 ld (.lst ((dn (ens zs)).map V.int ++ [.int num]))) ld = some (.lst ((dn (ens zs)).map V.int ++ [.int num])) from upd_same)
        have E7 := E6.kp kT7
        have F7 := F6.kpT kT7
        have hent7 : ∀ z ∈ zs, EntAt (upd H6 ld (.lst ((dn (ens zs)).map V.int ++ [.int num]))) z.1 z.2 := fun z hz => (hent6 z hz).kp kT7
        generalize (upd H6 ld (.lst ((dn (ens zs)).map V.int ++ [.int num]))) = H7 at kT7 P7 k7 ea7 ef7 ed7 E7 F7 hent7
        have dn7 : dn (ens zs) ++ [num] = dn (ens (zs ++ [(a, e)])) := by
          rw [show ens (zs ++ [(a, e)]) = ens zs ++ [e] by simp [ens], dn_snoc, if_pos hd, hnum]
        have an7 : an (ens zs) = an (ens (zs ++ [(a, e)])) := by
          rw [show ens (zs ++ [(a, e)]) = ens zs ++ [e] by simp [ens], an_snoc, if_pos hd, List.append_nil]
        refine ⟨_, rfl, _, _, rfl, rfl, ?_⟩
        refine ⟨_, rfl, p, 2, rfl, P7, by decide, by decide, fun v8 H8 k8 P8 a8 b8 => ?_⟩
        refine ⟨(by show 2 ≤ sizeLine; decide), fun m hm => ?_⟩
        refine ⟨_, rfl, _, rfl, _, _, rfl, rfl, _, _, rfl, rfl, .inr ⟨_, rfl, ?_⟩⟩
        have kM : Kp p H8 (upd H8 m (.lst [.int 0, .int v8])) := Kp.new hm _
        have eM : (upd H8 m (.lst [.int 0, .int v8])) m = some (.lst [.int 0, .int v8]) := upd_same
        have PM := P8.new hm (.lst [.int 0, .int v8])
        generalize (upd H8 m (.lst [.int 0, .int v8])) = H9 at kM eM PM
        have k9 := k8.trans kM
        have kT9 : KpT H7 H9 := k9.tup P7
        obtain ⟨dv, gv, hv⟩ : ∃ dv : Int, atI [V.int 0, V.int v8] (if decide (num < 14 + (0 + (i : Int))) then 1 else 0) = some (.int dv) ∧ 0 ≤ dv ∧ num + 1 + dv ≤ 15 + ((i : Int) + 1) := by
          by_cases hc : num < 14 + (0 + (i : Int))
          · rw [decide_eq_true hc]
            exact ⟨v8, atI_nat (j := 1) rfl, a8, by omega⟩
          · rw [decide_eq_false hc]
            exact ⟨0, atI_nat (j := 0) rfl, by omega, by omega⟩
        refine ⟨m, _, _, _, rfl, rfl, SqL.of eM, gv, _, _, rfl, rfl, ?_⟩
        refine ⟨_, _, num + 1 + dv, zs ++ [(a, e)], rfl, k7.trans k9, PM, F7.kpT kT9, ?_, ?_, ?_, fun z hz => ?_, ?_, ?_, fun e' he' => ?_, ?_, ?_⟩
        · rw [← dn7]
          refine (k9 _ _ nld ed7).trans ?_
          simp
        · rw [← an7]
          refine (k9 _ _ nla ea7).trans ?_
          simp
        · refine (k9 _ _ nlf ef7).trans ?_
          simp [refs]
        · rcases List.mem_append.mp hz with hz | hz
          · exact (hent7 z hz).kp kT9
          · rw [List.mem_singleton.mp hz]
            exact E7.kp kT9
        · rw [List.length_append, hlen]
          rfl
        · rw [show ens (zs ++ [(a, e)]) = ens zs ++ [e] by simp [ens]]
          exact okE
        · rw [show ens (zs ++ [(a, e)]) = ens zs ++ [e] by simp [ens]] at he'
          rcases List.mem_append.mp he' with he' | he'
          · have := hlt e' he'
            omega
          · rw [List.mem_singleton.mp he', hnum]
            omega
        · omega
        · omega
      case act =>
        have hd : e.isDeed = false := by
          cases hh : e.isDeed with
          | false => rfl
          | true =>
            refine absurd (decide_eq_true ?_) c
            rw [wd.mpr hh]
        refine ⟨_, rfl, .inl ⟨rfl, _, SqL.of ea6⟩, _, rfl, la, _, _, rfl, rfl, ea6, small1000 (by rw [List.length_map]; omega), ?_⟩
        have kT7 := KpT.lst ea6 (.lst ((an (ens zs)).map V.int ++ [.int num]))
        have P7 := P6.put nla (.lst ((an (ens zs)).map V.int ++ [.int num]))
        have k7 := k6.over hlaH (.lst ((an (ens zs)).map V.int ++ [.int num]))
        have ed7 := (show (upd H6 la (.lst ((an (ens zs)).map V.int ++ [.int num]))) ld = H6 ld from upd_ne nda).trans ed6
        have ef7 := (show (upd H6 la (.lst ((an (ens zs)).map V.int ++ [.int num]))) lf = H6 lf from upd_ne naf.symm).trans ef6
        have ea7 := (show (upd H6 la (.lst ((an (ens zs)).map V.int ++ [.int num]))) la = some (.lst ((an (ens zs)).map V.int ++ [.int num])) from upd_same)
        have E7 := E6.kp kT7
        have F7 := F6.kpT kT7
        have hent7 : ∀ z ∈ zs, EntAt (upd H6 la (.lst ((an (ens zs)).map V.int ++ [.int num]))) z.1 z.2 := fun z hz => (hent6 z hz).kp kT7
        generalize (upd H6 la (.lst ((an (ens zs)).map V.int ++ [.int num]))) = H7 at kT7 P7 k7 ea7 ef7 ed7 E7 F7 hent7
        have dn7 : dn (ens zs) = dn (ens (zs ++ [(a, e)])) := by
          rw [show ens (zs ++ [(a, e)]) = ens zs ++ [e] by simp [ens], dn_snoc, hd]
          simp
        have an7 : an (ens zs) ++ [num] = an (ens (zs ++ [(a, e)])) := by
          rw [show ens (zs ++ [(a, e)]) = ens zs ++ [e] by simp [ens], an_snoc, hd, hnum]
          simp
        refine ⟨_, rfl, _, _, rfl, rfl, ?_⟩
        refine ⟨_, rfl, p, 2, rfl, P7, by decide, by decide, fun v8 H8 k8 P8 a8 b8 => ?_⟩
        refine ⟨(by show 2 ≤ sizeLine; decide), fun m hm => ?_⟩
        refine ⟨_, rfl, _, rfl, _, _, rfl, rfl, _, _, rfl, rfl, .inr ⟨_, rfl, ?_⟩⟩
        have kM : Kp p H8 (upd H8 m (.lst [.int 0, .int v8])) := Kp.new hm _
        have eM : (upd H8 m (.lst [.int 0, .int v8])) m = some (.lst [.int 0, .int v8]) := upd_same
        have PM := P8.new hm (.lst [.int 0, .int v8])
        generalize (upd H8 m (.lst [.int 0, .int v8])) = H9 at kM eM PM
        have k9 := k8.trans kM
        have kT9 : KpT H7 H9 := k9.tup P7
        obtain ⟨dv, gv, hv⟩ : ∃ dv : Int, atI [V.int 0, V.int v8] (if decide (num < 14 + (0 + (i : Int))) then 1 else 0) = some (.int dv) ∧ 0 ≤ dv ∧ num + 1 + dv ≤ 15 + ((i : Int) + 1) := by
          by_cases hc : num < 14 + (0 + (i : Int))
          · rw [decide_eq_true hc]
            exact ⟨v8, atI_nat (j := 1) rfl, a8, by omega⟩
          · rw [decide_eq_false hc]
            exact ⟨0, atI_nat (j := 0) rfl, by omega, by omega⟩
        refine ⟨m, _, _, _, rfl, rfl, SqL.of eM, gv, _, _, rfl, rfl, ?_⟩
        refine ⟨_, _, num + 1 + dv, zs ++ [(a, e)], rfl, k7.trans k9, PM, F7.kpT kT9, ?_, ?_, ?_, fun z hz => ?_, ?_, ?_, fun e' he' => ?_, ?_, ?_⟩
        · rw [← dn7]
          refine (k9 _ _ nld ed7).trans ?_
          simp
        · rw [← an7]
          refine (k9 _ _ nla ea7).trans ?_
          simp
        · refine (k9 _ _ nlf ef7).trans ?_
          simp [refs]
        · rcases List.mem_append.mp hz with hz | hz
          · exact (hent7 z hz).kp kT9
          · rw [List.mem_singleton.mp hz]
            exact E7.kp kT9
        · rw [List.length_append, hlen]
          rfl
        · rw [show ens (zs ++ [(a, e)]) = ens zs ++ [e] by simp [ens]]
          exact okE
        · rw [show ens (zs ++ [(a, e)]) = ens zs ++ [e] by simp [ens]] at he'
          rcases List.mem_append.mp he' with he' | he'
          · have := hlt e' he'
            omega
          · rw [List.mem_singleton.mp he', hnum]
            omega
        · omega
        · omega
    · rintro σ H' ⟨y7, y8, num, zs, rfl, k', P', F', ed, ea, ef, hent, hlen, hok, hlt, hn0, hn1⟩
      refine ⟨_, rfl, _, rfl, p, 30, rfl, P', by decide, by decide, fun age H5 k5 P5 a5 b5 => ?_⟩
      refine ⟨_, rfl, _, rfl, p, lf, refs zs, rfl, P5, .inl (SqL.of (k5 _ _ nlf ef)), by rw [List.length_map]; omega, fun l ys H6 k6 P6 nl el hpm => ?_⟩
      refine ⟨l, ys, rfl, .inl ⟨SqL.of el, fun t ht => ?_⟩⟩
      have k7 : Kp p H6 (upd H6 t (.tup ys)) := Kp.new ht _
      have P7 := P6.new ht (.tup ys)
      refine ⟨(by show 3 ≤ sizeLine; decide), fun b hb => ?_⟩
      have k8 : Kp p (upd H6 t (.tup ys)) (upd (upd H6 t (.tup ys)) b (.tup [.ref fk, .int age, .ref t])) := Kp.new hb _
      obtain ⟨zs', hy, hz⟩ := perm_pairs (fun z : Addr × En => V.ref z.1) hpm zs rfl
      have kT : KpT H' (upd (upd H6 t (.tup ys)) b (.tup [.ref fk, .int age, .ref t])) := (k5.tup P').trans ((k6.tup P5).trans ((k7.tup P6).trans (k8.tup P7)))
      have hlen' : zs'.length = zs.length := hz.length_eq
      refine q b fk t n age zs' _ (k'.trans (k5.trans (k6.trans (k7.trans k8)))) (P7.new hb _) ⟨upd_same, F'.kpT kT, hn2', hn6, a5, by omega, ?_, fun z hz' => (hent z (hz.mem_iff.mp hz')).kp kT, hok.perm (hz.map _), by omega⟩ (by omega)
      refine k8.tup P7 _ _ ?_
      rw [upd_same, hy]
end
end Deed

namespace Deed
open PySem PySem.Spec PySem.W PyProof.Rows L2 LamX
/-! ### sorted(e, key=lambda x: x[0]) of a list or tuple of tuples -/
section
variable {prog : Program} {w : World} {A : Around} {E : Value → Shared → Prop} {s : Shared}
theorem collectT {l : Addr} {vs : List Value} {Q : List Value → Shared → Prop} (ht : s.heap.IsTuple l vs.toArray) (hsz : vs.length ≤ sizeLine)
    (h : Q vs { s with heap := (s.heap.push (seqObj "list" #[] 0)).update s.heap.objs.size (Obj.mapSeq (· ++ vs.toArray)) }) : wpAny (model prog w) A (collect (.ref l)) Q E s := by
  obtain ⟨ob, g0, gc, ep, gd⟩ := id ht
  have g1 : (s.heap.push (seqObj "list" #[] 0)).get? l = some ob := Heap.get?_push_of_some _ g0
  unfold collect
  refine wpAny_bind (m := _) (wpAny_runValue (codeAny_builtin entry_proto_collect' ?_))
  show wpAny _ _ (do again (.builtin "list.__iadd__" ⟨[← newList [], Value.ref l], []⟩)) _ _ s
  refine wpAny_bind (wpAny_newList (wpAny_pure ⟨Code.quiet_builtin _ (by decide +kernel), (codeAny_builtin entry_list_iadd' ?_)⟩))
  show wpAny _ _ (Builtin.List.listExtendWith (.ref s.heap.objs.size) (Value.ref l) (.ref s.heap.objs.size)) _ _ { s with heap := s.heap.push (seqObj "list" #[] 0) }
  unfold Builtin.List.listExtendWith
  refine wpAny_bind (wpAny_typeOf (T := "tuple") ⟨ob, g1, gc⟩ ?_)
  have tt : (Value.type "tuple" == Value.type "tuple") = true := by rfl
  rw [if_pos (by simp [tt])]
  refine wpAny_bind (listItems_at g1 gd ?_)
  refine wpAny_bind (listItems_at (n := 0) (xs := #[]) (Heap.get?_push_size _ rfl) rfl ?_)
  rw [if_neg (fun z => by simp at z)]
  refine wpAny_bind (listUpdate_at (n := 0) (xs := #[]) (Heap.get?_push_size _ rfl) rfl ?_ (Nat.zero_le _) (by show (#[] ++ vs.toArray).size ≤ sizeLine + 1; simp only [Array.size_append, List.size_toArray, List.length_nil]; omega))
  refine wpAny_pure (?_)
  show wpAny (model prog w) A (do let o ← load s.heap.objs.size; match o.data with | .seq xs _ => pure xs.toList | _ => unsupported "internal:collect") Q E { s with heap := (s.heap.push (seqObj "list" #[] 0)).update s.heap.objs.size (Obj.mapSeq (· ++ vs.toArray)) }
  refine wpAny_bind (wpAny_load (get?_update_seq (Heap.get?_push_size _ rfl) _) (?_))
  show wpAny _ _ (pure (((#[] : Array Value) ++ vs.toArray).toList)) Q E _
  rw [show (((#[] : Array Value) ++ vs.toArray).toList) = vs by simp]
  exact wpAny_pure h
theorem collectS {l : Addr} {vs : List Value} {Q : List Value → Shared → Prop} (hl : s.heap.IsList l vs.toArray ∨ s.heap.IsTuple l vs.toArray) (hsz : vs.length ≤ sizeLine)
    (h : Q vs { s with heap := (s.heap.push (seqObj "list" #[] 0)).update s.heap.objs.size (Obj.mapSeq (· ++ vs.toArray)) }) : wpAny (model prog w) A (collect (.ref l)) Q E s := by
  rcases hl with hl | hl
  · exact collect_list hl h hsz
  · exact collectT hl hsz h
/-- sorted(e, key=f), e a list or a tuple, the keys ints -/
theorem sortedK {β : Type} {l f : Addr} {vs : List Value} {bs : List β} {R : Value → β → Prop} {Q : Value → Shared → Prop} (k : β → Int) (hl : s.heap.IsList l vs.toArray ∨ s.heap.IsTuple l vs.toArray) (e : EachIs R vs bs) (hL : bs.length ≤ sizeLine) (hu : A.units + 66 < cLine)
    (turn : ∀ (v : Value) (x : β), R v x → x ∈ bs → ∀ (h : Heap) (tk : Nat), (∀ b o, s.heap.get? b = some o → h.get? b = some o) →
      wpAny (model prog w) A.in1.in1 (call (.ref f) [v]) (KeyPure (.int (k x)) { s with heap := h, toks := tk }) (fun _ _ => False) { s with heap := h, toks := tk })
    (h : ∀ out c h' tk, (∀ b o, s.heap.get? b = some o → h'.get? b = some o) → h'.get? (s.heap.objs.size + 1) = some (seqObj "list" (List.toArray out) c) → out.length = bs.length → EachIs R out (bs.mergeSort (dataLe false fun x => .int (k x))) →
      Q (.ref (s.heap.objs.size + 1)) { s with heap := h', toks := tk }) :
    wpAny (model prog w) A (call (.builtin "sorted") [.ref l] [(Str.ofString "key", .ref f)]) Q E s := by
  have hv : vs.length ≤ sizeLine := by rw [e.length]; exact hL
  have up : ∀ {g : Heap}, KeepsBut (s.heap.objs.size + 1) (copyHeap s.heap vs) g → ∀ b o, s.heap.get? b = some o → g.get? b = some o := fun kp b o z =>
    kp b o (Nat.ne_of_lt (Nat.lt_succ_of_lt (Heap.lt_size z))) (copyHeap_old z)
  have ez : ((s.heap.push (seqObj "list" #[] 0)).update s.heap.objs.size (Obj.mapSeq (· ++ vs.toArray))).objs.size = s.heap.objs.size + 1 := by rw [Heap.size_update, size_push']
  refine call_function_entry_kw kind_sorted plain_sorted entry_sorted (ksk_s1 _ _) ?_
  unfold Builtin.«sorted»
  refine wpAny_bind (m := checkCount "sorted" 1 1 _) (wpAny_pure (?_))
  refine wpAny_bind (collectS hl hv ?_)
  refine wpAny_bind (wpAny_newList (?_) hv)
  show wpAny _ _ _ _ _ { s with heap := copyHeap s.heap vs }
  rw [ez]
  refine wpAny_bind (wpAny_holding (wpAny_call_entry_kw slot_list_sort ⟨_, copyHeap_at s.heap vs, rfl⟩ entry_list_sort (?body) (ksk_l1 _ _)))
  case body =>
    show wpAny (model prog w) A.in1.in1 (Builtin.«list.sort» ⟨[.ref (s.heap.objs.size + 1)], [(Str.ofString "key", .ref f)]⟩) _ _ _
    rw [ksk_t1]
    refine keyH_tree (kz := bs.map fun x => PyData.int (k x)) (s := { s with heap := copyHeap s.heap vs }) (copyHeap_at s.heap vs) (by rw [List.length_map]; exact e.length.symm) hv (AllAlike.of fun _ _ => by simp [alike]) ?srt (fun d hd => ?dep)
      (keyH_turns (k := fun x => PyData.int (k x)) (s := { s with heap := copyHeap s.heap vs }) e fun v x hR hx h tk kp => turn v x hR hx h tk (up kp)) fun h' tk out c kp hD ko => ?fin
    case srt => exact Sortable.others fun _ => ⟨(fun z => nomatch z), (fun _ z => nomatch z)⟩
    case dep =>
      obtain ⟨x, _, rfl⟩ := List.mem_map.mp hd
      show A.units + 1 + 1 + PyData.depth (.int (k x)) < cLine
      simp only [PyData.depth]
      omega
    case fin =>
      exact ⟨_, rfl, wpAny_pure ⟨_, rfl, h out c h' tk (up kp) hD ((ko.length (by rw [List.length_map]; exact e.length.symm)).trans e.length) (keyedOut_each (fun x => PyData.int (k x)) ko e)⟩⟩
/-- the call of the lambda -/
theorem lam_key {f c' t : Addr} {x q : Str} {params : Arguments} {ix : Expr} {scope : Scope} {cl : List (Str × Addr)} {pm ctv : Value} {p1 p3 : Pos} {items : Array Value} {kk : Int} {u : Tok} {mg : Str → Option Value}
    (of : s.heap.get? f = some (kla_obj "<lambda>" q params (.Subscript (.Name x p1) ix p3) scope cl pm c' ctv)) (hcd : s.heap.CodeRec (.ref c') q) (hroom : A.depth < recursionLimit) (lim : s.heap.NoLimit) (ns : s.heap.Ns mainGlobals mg)
    (hk : scope.kind = .function) (hco : scope.isCoroutine = false) (hgen : scope.isGenerator = false) (hcell : ∀ y ∈ scope.names, y.2 ≠ .cell) (hloc : scope.names.lookup x = some .local)
    (hbind : ∀ v : Value, bindArgs (kla_fn "<lambda>" q params (.Subscript (.Name x p1) ix p3) scope cl pm (.ref c') ctv) ⟨[v], []⟩ = pure [(x, v)])
    (hix : ∀ (env : Env) (A : Around) (E : Value → Shared → Prop) (s' : Shared) (Q : Value → Shared → Prop), env.scope = scope → env.globals = mainGlobals → s'.heap.Ns mainGlobals mg → (∀ u tk, Q (.int 0 u) { s' with toks := tk }) → wpAny (model prog w) A (eval ix env) Q E s')
    (hpl : PlainIx ix) (hd : (x == ("__debug__" : Str)) = false) (ht : s.heap.IsTuple t items) (hx : items[0]? = some (.int kk u)) :
    wpAny (model prog w) A (call (.ref f) [.ref t]) (KeyPure (.int kk) s) (fun _ _ => False) s := by
  refine wpAny_call (kla_callFunE hroom of rfl hco hgen rfl hcd ?_)
  rw [hbind]
  refine wpAny_pure (wpAny_newFunctionEnv hcell (fun y hy => ?_) (fun h₁ hns hsb => ⟨lim.fresh _ hsb, ?_⟩) hk)
  · rw [List.mem_singleton.mp hy]
    exact hloc
  have kp : ∀ b o, s.heap.get? b = some o → h₁.get? b = some o := fun b o z => hsb.extBut b o (Nat.ne_of_lt (Heap.lt_size z)) (Heap.get?_push_of_some _ z)
  refine kla_codeExpr (Subscript_ (wpAny_Name (wpAny_loadName_local hk hloc hns (v := .ref t) (by simp) ?_) hd))
  refine hix _ _ _ _ _ rfl rfl (ns.keeps kp) fun u' tk' => ?_
  have ht1 : h₁.IsTuple t items := by
    obtain ⟨o, z1, z2, z3⟩ := ht
    exact ⟨o, kp _ _ z1, z2, z3⟩
  have hsz : 0 < items.size := by
    rcases Nat.eq_zero_or_pos items.size with z | z
    · rw [Array.getElem?_eq_none (by omega)] at hx
      cases hx
    · exact z
  refine subscriptTail_builtinR (x := .int kk u) (ht1.typeIs) slot_tuple_getitem.lookup (getItem_tuple (j := 0) (Q := fun r s' => r = .int kk u ∧ KeyPure (.int kk) s r s') ht1 (by decide) (by decide) (seqIndex_of (by decide) (by omega)) hx ⟨rfl, ?_⟩) (hpl _ _)
  exact ⟨h₁, _, rfl, kp, .int _ _⟩
end
end Deed

namespace Deed
open PySem PySem.Spec PySem.W PyProof.Rows L2 LamX
theorem each_vals {xs : List V} {us : List Value} (r : Vals xs us) : EachIs (fun u y => RelV y u) us xs := by
  induction r with
  | nil => exact .nil
  | cons h _ ih => exact .cons h ih
theorem vals_each {xs : List V} {us : List Value} (r : EachIs (fun u y => RelV y u) us xs) : Vals xs us := by
  induction r with
  | nil => exact .nil
  | cons h _ ih => exact .cons h ih
/-- sorted(e, key=lambda x: x[0]): some arrangement by the keys, at a new address; a table may have grown -/
def tSortK (K : PySem.W.Frag) (T : List (Addr × Str)) (te : TA) : TE := fun σ H Q => te σ H fun vs H1 => ∃ (a : Addr) (xs : List V) (ks : V → Int), vs = [.ref a] ∧ (SqL K H1 a xs ∨ SqT K H1 a xs) ∧ (∀ y ∈ xs, ∃ t r, y = .ref t ∧ H1 t = some (.tup (.int (ks y) :: r))) ∧ Tabs T H1 ∧
  ∀ p ys H2, ExtN H1 H2 → Tabs T H2 → H2 p = none → ys.Perm xs → ys.Pairwise (fun u v => ks u ≤ ks v) → Q (.ref p) (upd H2 p (.lst ys))
section
variable {X : Cx}
theorem pe_sortK {T : List (Addr × Str)} {c P : Addr} {k : Nat} {e ix : Expr} {te : TA} {x : Str} {params : Arguments} {scope : Scope} {p p1 p3 lpos kpos pos : Pos}
    (hg : Gl X "sorted") (hm : X.mg "sorted" = none) (ha : PA X [e] te) (hr : Room (k + 1) X.A) (TB : TabB X.base X.mg c P) (hcode : X.env.code = .ref c) (hmT : (P, X.env.qual ++ "<lambda>") ∈ T) (hu : ∀ p ∈ T, p.1 = P → p.2 = X.env.qual ++ "<lambda>")
    (hdef : defaultsOf params X.env = ([], [])) (hfree : ∀ y ∈ scope.names, y.2 ≠ .free)
    (hk : scope.kind = .function) (hco : scope.isCoroutine = false) (hgen : scope.isGenerator = false) (hcell : ∀ y ∈ scope.names, y.2 ≠ .cell) (hloc : scope.names.lookup x = some .local)
    (hbind : ∀ (q : Str) (cl : List (Str × Addr)) (pm cv ctv v : Value), bindArgs (kla_fn "<lambda>" q params (.Subscript (.Name x p1) ix p3) scope cl pm cv ctv) ⟨[v], []⟩ = pure [(x, v)])
    (hix : ∀ (env : Env) (A : Around) (E : Value → Shared → Prop) (s' : Shared) (Q : Value → Shared → Prop), env.scope = scope → env.globals = mainGlobals → s'.heap.Ns mainGlobals X.mg → (∀ u tk, Q (.int 0 u) { s' with toks := tk }) → wpAny (model X.prog X.w) A (eval ix env) Q E s')
    (hpl : PlainIx ix) (hd : (x == ("__debug__" : Str)) = false)
    (h1 : backTo pos (starEach [e] X.env) = (false, eval e X.env) :: backTo pos (starEach [] X.env) := by rfl) (h2 : (backTo pos (starEach [e] X.env)).any (·.1) = false := by rfl) :
    PE X (.Call (.Name "sorted" p) [e] [⟨some "key", .Lambda params (.Subscript (.Name x p1) ix p3) scope lpos, kpos⟩] pos) (tSortK X.K T te) := by
  refine ⟨fun pins s σ H Q I h => ?_⟩
  refine wpAny_Call_Name_kw (ld_blt I hg hm (show bootBuiltins "sorted" = some (.builtin "sorted") by decide +kernel) ?_)
  refine callWith_kw (thn (ha.run pos pins s σ H _ I h) fun us s1 ⟨vs, H1, I1, r1, q1⟩ => ?_) h1 h2 rfl rfl
  obtain ⟨a, xs, ks, rfl, hS, hxs, hT, q⟩ := q1
  obtain rfl := Vals.ref1 r1
  show wpAny _ _ (evalAll [(do let v ← eval (.Lambda params (.Subscript (.Name x p1) ix p3) scope lpos) X.env; standAt pos; pure v)]) _ _ s1
  refine wpAny_evalAll_cons (wpAny_bind (lam_make2 I1 TB hcode hmT hu hT hdef (fun y hy e => absurd e (hfree y hy)) fun f c' pm ctv H2 s2 I2 eN T2 hf hfn hfr hco' => wpAny_bind (wpAny_standAt (wpAny_pure (wpAny_evalAll_nil ?_)))))
  have seqs : ∃ its, Vals xs its ∧ xs.length ≤ sizeLine ∧ (s2.heap.IsList a its.toArray ∨ s2.heap.IsTuple a its.toArray) := by
    rcases hS with hS | hS
    · have hS2 : SqL X.K H2 a xs := by
        rcases hS with (z | ⟨o, z⟩) | z
        · exact .inl (.inl (eN _ _ z fun ps z' => by cases z'))
        · exact .inl (.inr ⟨o, eN _ _ z fun ps z' => by cases z'⟩)
        · exact .inr z
      obtain ⟨its, rv, hl, hz⟩ := I2.list hS2
      exact ⟨its, rv, hz, .inl hl.isList⟩
    · have hS2 : SqT X.K H2 a xs := by
        rcases hS with (z | ⟨o, z⟩) | z
        · exact .inl (.inl (eN _ _ z fun ps z' => by cases z'))
        · exact .inl (.inr ⟨o, eN _ _ z fun ps z' => by cases z'⟩)
        · exact .inr z
      obtain ⟨its, rv, hl, hz⟩ := I2.tuple hS2
      exact ⟨its, rv, hz, .inr hl⟩
  obtain ⟨its, rv, hz, hl⟩ := seqs
  have hun := hr.un
  have hdp := hr.dp
  show wpAny (model X.prog X.w) X.A (call (.builtin "sorted") [.ref a] [(Str.ofString "key", .ref f)]) _ _ s2
  refine sortedK (R := fun u y => RelV y u) ks hl (each_vals rv) hz (by omega) (fun u y hR hy h tk kp => ?_) fun out ep h' tk kp hD hlen eo => ?_
  · obtain ⟨t, r, rfl, ht⟩ := hxs y hy
    obtain rfl : u = Value.ref t := hR
    have ht2 := eN _ _ ht fun ps z' => by cases z'
    obtain ⟨_, its2, r2, o, ho, hc, n, hd2⟩ := I2.hok _ _ ht2
    obtain ⟨oc, vs, tt, c1, c2, c3⟩ := (I2.hok c' _ hco').1
    cases r2 with
    | cons ru r3 =>
      obtain ⟨tu, rfl⟩ := ru
      refine lam_key (u := tu) (s := { s2 with heap := h, toks := tk }) (kp _ _ hf) ⟨c', oc, vs, tt, rfl, kp _ _ c1, c2, c3⟩ ?_ (I2.nolimit.keeps kp) ((I2.mod.glob.keeps I2.bk).keeps kp) hk hco hgen hcell hloc (fun v => hbind _ _ _ _ _ v) hix hpl hd ⟨o, kp _ _ ho, hc, n, hd2⟩ (by simp)
      show X.A.depth < recursionLimit
      omega
  · rw [dataLe_int] at eo
    have hp : (xs.mergeSort fun a b => decide (ks a ≤ ks b)).Perm xs := List.mergeSort_perm _ _
    have hs : (xs.mergeSort fun a b => decide (ks a ≤ ks b)).Pairwise (fun u v => ks u ≤ ks v) := by
      have := List.pairwise_mergeSort (le := fun a b => decide (ks a ≤ ks b)) (fun a b c h1 h2 => by simp only [decide_eq_true_eq] at *; omega) (fun a b => by simp only [Bool.or_eq_true, decide_eq_true_eq]; omega) xs
      exact this.imp fun h => of_decide_eq_true h
    refine ⟨.ref _, _, I2.laid (t' := tk) kp (Nat.le_succ _) (show ObjOk X.prog X.w _ h' _ (.lst (xs.mergeSort fun a b => decide (ks a ≤ ks b))) from ⟨by rw [hp.length_eq]; exact hz, out, ep, vals_each eo, hD⟩), rfl, q _ _ H2 eN T2 (I2.hok.fresh (Nat.le_succ _)) hp hs⟩
end
end Deed

namespace Deed
open PySem PySem.Spec PyProof.Rows L2 LamX
/-! ### a def whose code object's table is told -/
theorem okC {P : Program} {w : World} {K : PySem.W.Frag} {mg : Str → Option Value} {base : Heap} {x qual : Str} {st : Stmt} {f c : Addr} {fd : FuncData} {N ps : List Str} {k : Nat} {sp : Sp} (F : Fun K x qual st f fd) (hc : fd.code = .ref c) (S : FnScope N ps (defScope st)) (len : ∀ vs H Q E, sp vs H Q E → vs.length = ps.length)
    (hbody : ∀ (A : Around) (outer : List Env) (s : Shared) (H : Hp) (vs : List V) (Q : VK) (E : XK), Room k (A.deeper (envOfC qual (defScope st) s.heap.objs.size f (.ref c))) → sp vs H Q E →
      ∃ t, PSs (cxOf CX0 P w K mg base N qual (defScope st) f (.ref c) A outer s H E).nox (defBody st) t ∧ t { nx := fun _ H' => Q .non H', rt := Q } (start N vs) H) : FnOk P w K mg base CX0 (k + 1) f fd ps sp := by
  obtain ⟨oc, od, kV, doc, pm, an, cdv, ct, osl, rfl, lk, hcd⟩ := F.ex
  have e : cdv = .ref c := hc
  subst e
  refine fn_of lk hcd S len fun A outer s H vs Q E hr hsp => ?_
  obtain ⟨t, h, q⟩ := hbody A outer s H vs Q E hr hsp
  exact ⟨t, h.nox, q⟩
/-- the number that stands ahead in the tuple at v -/
def keyAt (H : Hp) (v : V) : Int := match v with
  | .ref t => (match H t with
    | some (.tup (.int n :: _)) => n
    | _ => 0)
  | _ => 0
theorem EntAt.key {H : Hp} {a : Addr} {e : En} (h : EntAt H a e) : ∃ r, H a = some (.tup (.int e.num :: r)) ∧ keyAt H (.ref a) = e.num := by
  have fin : ∀ r, H a = some (.tup (.int e.num :: r)) → keyAt H (.ref a) = e.num := fun r z => by
    show (match H a with | some (.tup (.int n :: _)) => n | _ => 0) = e.num
    rw [z]
  unfold EntAt at h
  cases hk : e.kd with
  | deed g t rs ws =>
    rw [hk] at h
    obtain ⟨r, w, h1, _⟩ := h
    exact ⟨_, h1, fin _ h1⟩
  | act x o =>
    rw [hk] at h
    exact ⟨_, h, fin _ h⟩
/-- what isn't tracked, or a table -/
def Fresh (H : Hp) (p : Addr) : Prop := ∀ o, H p = some o → ∃ ps, o = .tbl ps
theorem Fresh.of {H H' : Hp} {p : Addr} (e : ExtN H H') (n : H' p = none) : Fresh H p := fun o z => by
  by_cases h : ∃ ps, o = .tbl ps
  · exact h
  · rw [e p o z fun ps q => h ⟨ps, q⟩] at n
    cases n
theorem Fresh.ne {H : Hp} {p b : Addr} {o : HO} (f : Fresh H p) (e : H b = some o) (h : ∀ ps, o ≠ .tbl ps) : b ≠ p := fun z => by
  rw [z] at e
  obtain ⟨ps, q⟩ := f o e
  exact h ps q
theorem Fresh.up {H H' : Hp} {p : Addr} (e : ExtN H H') (f : Fresh H' p) : Fresh H p := fun o z => by
  by_cases h : ∃ ps, o = .tbl ps
  · exact h
  · exact f o (e p o z fun ps q => h ⟨ps, q⟩)
theorem ExtN.tup {H H' : Hp} (e : ExtN H H') : KpT H H' := fun b xs z => e _ _ z fun ps q => by cases q
theorem ExtN.new {H : Hp} {p : Addr} (n : H p = none) (o : HO) : ExtN H (upd H p o) := .of fun b u e => by
  rw [upd_ne (ne_of_none e n)]
  exact e
theorem Tabs.new {T : List (Addr × Str)} {H : Hp} (t : Tabs T H) {p : Addr} (n : H p = none) (o : HO) : Tabs T (upd H p o) := t.ext fun b u e => by
  rw [upd_ne (ne_of_none e n)]
  exact e
/-- a tracked list is written: the tables stay -/
theorem Tabs.put {T : List (Addr × Str)} {H : Hp} (t : Tabs T H) {p : Addr} {xs : List V} (e : H p = some (.lst xs)) (o : HO) : Tabs T (upd H p o) := fun q hq => by
  obtain ⟨ps, h1, h2, h3⟩ := t q hq
  have n1 : q.1 ≠ p := fun z => by
    rw [z, e] at h1
    cases h1
  refine ⟨ps, by rw [upd_ne n1]; exact h1, h2, fun pos cv hc => ?_⟩
  obtain ⟨c, e1, e2⟩ := h3 pos cv hc
  refine ⟨c, e1, ?_⟩
  have n2 : c ≠ p := fun z => by
    rw [z, e] at e2
    unfold CodeO at e2
    cases e2
  rw [upd_ne n2]
  exact e2
theorem srt_num {H : Hp} {zs : List (Addr × En)} (he : ∀ z ∈ zs, EntAt H z.1 z.2) (nd : ((ens zs).map (·.num)).Nodup) (h : (refs zs).Pairwise (fun u v => keyAt H u ≤ keyAt H v)) : zs.Pairwise (fun a b => a.2.num < b.2.num) := by
  induction zs with
  | nil => exact .nil
  | cons z r ih =>
    have h1 := List.pairwise_cons.mp h
    have nd' : (z.2.num :: (ens r).map (·.num)).Nodup := nd
    have h2 := List.nodup_cons.mp nd'
    refine List.pairwise_cons.mpr ⟨fun y hy => ?_, ih (fun y hy => he y (List.mem_cons_of_mem _ hy)) h2.2 h1.2⟩
    have h3 := h1.1 (.ref y.1) (List.mem_map.mpr ⟨y, hy, rfl⟩)
    obtain ⟨_, _, k1⟩ := (he z List.mem_cons_self).key
    obtain ⟨_, _, k2⟩ := (he y (List.mem_cons_of_mem _ hy)).key
    rw [k1, k2] at h3
    have h4 : z.2.num ≠ y.2.num := fun q => h2.1 (List.mem_map.mpr ⟨y.2, List.mem_map.mpr ⟨y, hy, rfl⟩, q.symm⟩)
    omega
section
variable {P : Program} {w : World} {K : PySem.W.Frag} {mg : Str → Option Value} {base : Heap} {fRi : Addr} {dRi : FuncData} {T : List (Addr × Str)}
/-- an int of the module's top -/
def MgInt (mg : Str → Option Value) (x : Str) (i : Int) : Prop := ∃ t, mg x = some (.int i t)
theorem pe_num {X : Cx} {x : Str} {i : Int} {pos : Pos} (hg : Gl X x) (h : MgInt X.mg x i) (hd : (x == ("__debug__" : Str)) = false := by decide) : PE X (.Name x pos) (tC (.int i)) := by
  obtain ⟨t, h⟩ := h
  exact pe_glob hg h ⟨t, rfl⟩ hd
/-! ### the entries by their numbers -/
abbrev sRising : Stmt := topS 11
theorem scRising : FnScope ["book"] ["book"] (defScope sRising) := ⟨rfl, rfl, rfl, by decide +kernel, rfl, by decide +kernel, by decide +kernel⟩
/-- the book's text of the lambda's name -/
def qRis : Str := "entries_rising.<locals>.<lambda>"
def spRising (T : List (Addr × Str)) : Sp := fun vs H Q _ => ∃ (b fk t : Addr) (n : Nat) (age : Int) (zs : List (Addr × En)), vs = [.ref b] ∧ BookAt H b fk t n age zs ∧ Tabs T H ∧
  ∀ (p : Addr) (zs' : List (Addr × En)) (H' : Hp), ExtN H H' → Tabs T H' → Fresh H p → H' p = some (.lst (refs zs')) → zs'.Perm zs → zs'.Pairwise (fun a b => a.2.num < b.2.num) → Q (.ref p) H'
theorem ok_rising {f c tb : Addr} {fd : FuncData} {k : Nat} (F : Fun K "entries_rising" "entries_rising" sRising f fd) (hc : fd.code = .ref c) (TB : TabB base mg c tb) (ms : mg "sorted" = none) (mN : MgInt mg "NUMBER" 0) (hmT : (tb, qRis) ∈ T) (hu : ∀ p ∈ T, p.1 = tb → p.2 = qRis) :
    FnOk P w K mg base CX0 (k + 2) f fd ["book"] (spRising T) := by
  refine okC F hc scRising (fun vs H Q E h => ?_) (fun A outer s H vs Q E hr h => ?_)
  · obtain ⟨b, fk, t, n, age, zs, rfl, _⟩ := h
    rfl
  · obtain ⟨b, fk, t, n, age, zs, rfl, hB, hT, q⟩ := h
    refine ⟨_, pss_one (ps_ret (pe_sortK (T := T) (c := c) (P := tb) (k := k) (by rfl) ms (pa_cons (pe_ix ix_tup (pv 0) pe_int (fun _ _ => rfl)) pa_nil) hr TB rfl hmT hu rfl (by decide +kernel) rfl rfl rfl (by decide +kernel) rfl (fun _ _ _ _ _ _ => rfl) (fun env A E s' Q he hg hn hq => ?ix) (fun _ _ => rfl) (by decide))), ?_⟩
    case ix =>
      obtain ⟨tk, hN⟩ := mN
      refine Calls.Name_function_global (by rw [he]) (by unfold Env.kindOf; rw [he]; rfl) (Calls.loadGlobal_global (by rw [hg]; exact hn) hN (hq tk s'.toks))
    refine ⟨_, rfl, b, _, 2, _, rfl, rfl, SqT.of hB.at_, atI_nat (j := 2) rfl, t, refs zs, keyAt H, rfl, .inr (SqT.of hB.ents), fun y hy => ?_, hT, fun p ys H2 eN T2 np pm so => ?_⟩
    · obtain ⟨z, hz, rfl⟩ := List.mem_map.mp hy
      obtain ⟨r, h1, h2⟩ := (hB.ent z hz).key
      exact ⟨z.1, r, rfl, by rw [h2]; exact h1⟩
    · obtain ⟨zs', rfl, hp⟩ := perm_pairs (fun z : Addr × En => V.ref z.1) pm zs rfl
      refine q p zs' _ (eN.trans (ExtN.new np _)) (Tabs.new T2 np _) (Fresh.of eN np) upd_same hp (srt_num (fun z hz => hB.ent z (hp.mem_iff.mp hz)) (((hp.map _).map _).nodup_iff.mpr hB.ok.nd) so)
end
end Deed

namespace Deed
open PySem PySem.Spec PyProof.Rows L2 LamX
theorem take_more {α : Type} {l : List α} {i : Nat} {x : α} (h : l[i]? = some x) : l.take (i + 1) = l.take i ++ [x] := by
  rw [List.take_add_one, h]
  rfl
theorem ref_at {zs : List (Addr × En)} {i : Nat} {x : V} (h : (refs zs)[i]? = some x) : ∃ z, zs[i]? = some z ∧ x = .ref z.1 := by
  rw [List.getElem?_map] at h
  cases e : zs[i]? with
  | none => rw [e] at h; cases h
  | some z =>
    rw [e] at h
    exact ⟨z, rfl, (Option.some.inj h).symm⟩
section
variable {P : Program} {w : World} {K : PySem.W.Frag} {mg : Str → Option Value} {base : Heap} {fRi fDe : Addr} {dRi dDe : FuncData} {T : List (Addr × Str)}
/-- what entries_rising needs -/
structure RisD (K : PySem.W.Frag) (mg : Str → Option Value) (base : Heap) (T : List (Addr × Str)) (f : Addr) (fd : FuncData) : Prop where
  D : Df K mg "entries_rising" sRising ["book"] f fd
  hc : ∃ c tb, fd.code = .ref c ∧ TabB base mg c tb ∧ (tb, qRis) ∈ T ∧ ∀ p ∈ T, p.1 = tb → p.2 = qRis
  ms : mg "sorted" = none
  mN : MgInt mg "NUMBER" 0
theorem RisD.ok {k : Nat} {f : Addr} {fd : FuncData} (R : RisD K mg base T f fd) : FnOk P w K mg base CX0 (k + 2) f fd ["book"] (spRising T) := by
  obtain ⟨c, tb, h1, h2, h3, h4⟩ := R.hc
  exact ok_rising R.D.F h1 h2 R.ms R.mN h3 h4
/-- the entries that φ picks, by their numbers -/
def spPick (φ : En → Bool) (T : List (Addr × Str)) : Sp := fun vs H Q _ => ∃ (b fk t : Addr) (n : Nat) (age : Int) (zs : List (Addr × En)), vs = [.ref b] ∧ BookAt H b fk t n age zs ∧ Tabs T H ∧
  ∀ (p : Addr) (zs' : List (Addr × En)) (H' : Hp), ExtN H H' → Tabs T H' → Fresh H p → H' p = some (.lst (refs (zs'.filter fun z => φ z.2))) → zs'.Perm zs → zs'.Pairwise (fun a b => a.2.num < b.2.num) → Q (.ref p) H'
/-! ### their numbers -/
/-- the numbers of what φ picks, rising -/
def spNums (φ : En → Bool) (T : List (Addr × Str)) : Sp := fun vs H Q _ => ∃ (b fk t : Addr) (n : Nat) (age : Int) (zs : List (Addr × En)), vs = [.ref b] ∧ BookAt H b fk t n age zs ∧ Tabs T H ∧
  ∀ (p : Addr) (zs' : List (Addr × En)) (H' : Hp), ExtN H H' → Tabs T H' → Fresh H p → H' p = some (.lst (((zs'.filter fun z => φ z.2).map fun z => z.2.num).map V.int)) → zs'.Perm zs → zs'.Pairwise (fun a b => a.2.num < b.2.num) → Q (.ref p) H'
end
end Deed

namespace Deed
open PySem PySem.Spec PyProof.Rows L2 LamX
/-! ### rules whose reading names K; a def that may be called; comprehensions at large -/
theorem ix_tupK {X : Cx} {K : PySem.W.Frag} (h : X.K = K) : IxR X (rIxT K) := h ▸ ix_tup
theorem ix_listK {X : Cx} {K : PySem.W.Frag} (h : X.K = K) : IxR X (rIxL K) := h ▸ ix_list
theorem in_seqK {X : Cx} {K : PySem.W.Frag} (h : X.K = K) : OpR X (compareOp .In) (rIn K false) := h ▸ op_in_seq
theorem notIn_seqK {X : Cx} {K : PySem.W.Frag} (h : X.K = K) : OpR X (compareOp .NotIn) (rIn K true) := h ▸ op_notIn_seq
theorem len_seqK {X : Cx} {K : PySem.W.Frag} (h : X.K = K) : CallR X (.builtin "len") (rLenS K) := h ▸ call_len_seq
structure CallOk (P : Program) (w : World) (K : PySem.W.Frag) (mg : Str → Option Value) (base : Heap) (L : Nat) (x : Str) (ps : List Str) (sp : Sp) where
  f : Addr
  fd : FuncData
  g : mg x = some (.ref f)
  kp : PySem.W.keepIn K (.ref f) = true
  b : Binds K fd ps []
  ok : FnOk P w K mg base CX0 L f fd ps sp
def CallOk.mono {P : Program} {w : World} {K : PySem.W.Frag} {mg : Str → Option Value} {base : Heap} {L L' : Nat} {x : Str} {ps : List Str} {sp : Sp} (c : CallOk P w K mg base L x ps sp) (h : L ≤ L') : CallOk P w K mg base L' x ps sp := ⟨c.f, c.fd, c.g, c.kp, c.b, c.ok.mono h⟩
def Df.call {P : Program} {w : World} {K : PySem.W.Frag} {mg : Str → Option Value} {base : Heap} {L : Nat} {x : Str} {st : Stmt} {ps : List Str} {f : Addr} {fd : FuncData} {sp : Sp} (D : Df K mg x st ps f fd) (G : FnOk P w K mg base CX0 L f fd ps sp) : CallOk P w K mg base L x ps sp := ⟨f, fd, D.g, D.F.kp, D.b, G⟩
theorem nodup_len : ∀ {l m : List Int}, l.Nodup → (∀ x ∈ l, x ∈ m) → l.length ≤ m.length
  | [], m, _, _ => Nat.zero_le _
  | a :: r, m, h, hs => by
    rw [List.nodup_cons] at h
    have ha := hs a List.mem_cons_self
    have h1 := nodup_len (l := r) (m := m.erase a) h.2 fun x hx => by
      have hne : x ≠ a := fun z => h.1 (z ▸ hx)
      exact (List.mem_erase_of_ne hne).mpr (hs x (List.mem_cons_of_mem _ hx))
    rw [List.length_erase_of_mem ha] at h1
    have := List.length_pos_of_mem ha
    rw [List.length_cons]
    omega
theorem none_back {H H' : Hp} {p : Addr} (s : Same H H') (n : H' p = none) : H p = none := by
  cases h : H p with
  | none => rfl
  | some o => rw [s _ _ h] at n; cases n
theorem same_refl (H : Hp) : Same H H := fun _ _ e => e
theorem take_filter {α : Type} {p : α → Bool} {ys : List α} {i : Nat} {y : α} (h : ys[i]? = some y) : (ys.take (i + 1)).filter p = (ys.take i).filter p ++ (if p y then [y] else []) := by
  rw [take_more h, List.filter_append]
  congr 1
  cases hp : p y <;> simp [hp]
section
variable {J : It} {n : Nat} {G : Hp → Prop} {Y : Nat → Hp → V → Hp → Prop} {g : TG} {tt : TT} {te : TE} {vs : List Nat} {σ : L2.St} {H1 : Hp} {D : Addr} {Qd : Hp → Prop} {α : Type}
abbrev LcGoal (J : It) (g : TG) (tt : TT) (te : TE) (vs : List Nat) (σ : L2.St) (H1 : Hp) (D : Addr) (Qd : Hp → Prop) : Prop :=
  ∃ W : Nat → Nat → Hp → Prop, (∃ m, W 0 m (upd H1 D (.lst []))) ∧ ∀ i m H, W i m H →
      (J.stop i H ∧ Qd H) ∨ (J.go i H ∧ ∃ Nx : Hp → Prop, (∀ H', Nx H' → ∃ m', m' < m ∧ W (i + 1) m' H') ∧ ∀ x H', J.yld i H x H' → g x (wipe σ vs) H' fun σ2 H2 => wipe σ2 vs = wipe σ vs ∧ tt σ2 H2 fun b H3 =>
        if b = true then te σ2 H3 fun y H4 => ∃ acc, H4 D = some (.lst acc) ∧ acc.length < sizeLine ∧ Nx (upd H4 D (.lst (acc ++ [y]))) else Nx H3)
/-- at large: St a step of the heap, In what holds of it, E what holds of an item -/
theorem lc_gen (w : Walk J n G Y) (ys : List α) (p : α → Bool) (In : Hp → Prop) (Sp1 : Hp → Hp → Prop) (E : Hp → α → V → Prop) (hn : ys.length = n) (hlen : ys.length ≤ 1000) (h0 : In (upd H1 D (.lst []))) (hG : ∀ H, In H → G H)
    (hSt : ∀ H H', In H → Sp1 H H' → In H' ∧ ∀ xs, H D = some (.lst xs) → H' D = some (.lst xs)) (hPut : ∀ H xs l, In H → H D = some (.lst xs) → In (upd H D (.lst l)))
    (hE : ∀ H H' y u, In H → Sp1 H H' → E H y u → E H' y u) (hEp : ∀ H xs l y u, In H → H D = some (.lst xs) → E H y u → E (upd H D (.lst l)) y u)
    (hs : ∀ i y x H H', ys[i]? = some y → In H → Y i H x H' → ∀ (Q1 : V → Hp → Prop) (Q0 : Hp → Prop), (p y = true → ∀ u H4, Sp1 H H4 → E H4 y u → Q1 u H4) → (p y = false → ∀ H3, Sp1 H H3 → Q0 H3) →
      g x (wipe σ vs) H' fun σ2 H2 => wipe σ2 vs = wipe σ vs ∧ tt σ2 H2 fun b H3 => if b = true then te σ2 H3 Q1 else Q0 H3)
    (hd : ∀ H (zs : List (V × α)), In H → H D = some (.lst (zs.map (·.1))) → zs.map (·.2) = ys.filter p → (∀ z ∈ zs, E H z.2 z.1) → Qd H) : LcGoal J g tt te vs σ H1 D Qd := by
  refine lc_it w (fun i H => In H ∧ ∃ zs : List (V × α), H D = some (.lst (zs.map (·.1))) ∧ zs.map (·.2) = (ys.take i).filter p ∧ ∀ z ∈ zs, E H z.2 z.1) ⟨h0, [], upd_same, rfl, fun _ h => nomatch h⟩ (fun i H _ h => hG H h.1) ?_ ?_
  · rintro i x H H' hi ⟨hI, zs, eD, ez, hz⟩ hY
    rw [← hn] at hi
    have hy : ys[i]? = some ys[i] := List.getElem?_eq_getElem hi
    have hzl : zs.length ≤ 1000 := by
      have h1 := congrArg List.length ez
      rw [List.length_map] at h1
      have h2 := List.length_filter_le p (ys.take i)
      rw [List.length_take] at h2
      omega
    refine hs i ys[i] x H H' hy hI hY _ _ (fun hp u H4 s4 e4 => ?_) (fun hp H3 s3 => ?_)
    · obtain ⟨I4, k4⟩ := hSt _ _ hI s4
      have eD4 := k4 _ eD
      refine ⟨_, eD4, small1000 (by rw [List.length_map]; omega), hPut _ _ _ I4 eD4, zs ++ [(u, ys[i])], ?_, ?_, fun z hzz => ?_⟩
      · rw [upd_same, List.map_append]
        rfl
      · rw [List.map_append, ez, take_filter hy, hp]
        rfl
      · rcases List.mem_append.mp hzz with h | h
        · exact hEp _ _ _ _ _ I4 eD4 (hE _ _ _ _ hI s4 (hz z h))
        · rw [List.mem_singleton.mp h]
          exact hEp _ _ _ _ _ I4 eD4 e4
    · obtain ⟨I3, k3⟩ := hSt _ _ hI s3
      refine ⟨I3, zs, k3 _ eD, ?_, fun z hzz => hE _ _ _ _ hI s3 (hz z hzz)⟩
      rw [ez, take_filter hy, hp]
      simp
  · rintro H ⟨hI, zs, eD, ez, hz⟩
    rw [← hn, List.take_length] at ez
    exact hd H zs hI eD ez hz
theorem same_put {H H1 : Hp} {D : Addr} (nD : H1 D = none) (s : Same H1 H) (o : HO) : Same H1 (upd H D o) := fun b u e => by
  rw [upd_ne (ne_of_none e nD)]
  exact s _ _ e
theorem same_new {H : Hp} {p : Addr} (n : H p = none) (o : HO) : Same H (upd H p o) := fun b u e => by rw [upd_ne (ne_of_none e n)]; exact e
/-- values; nothing but the new list is otherwise -/
theorem lc_sameV (w : Walk J n G Y) (ys : List α) (p : α → Bool) (v : α → V) (hn : ys.length = n) (hlen : ys.length ≤ 1000) (nD : H1 D = none) (hG : ∀ H, Same H1 H → G H)
    (hs : ∀ i y x H H', ys[i]? = some y → Same H1 H → Y i H x H' → ∀ (Q1 : V → Hp → Prop) (Q0 : Hp → Prop), (p y = true → ∀ H4, Same H H4 → Q1 (v y) H4) → (p y = false → ∀ H3, Same H H3 → Q0 H3) →
      g x (wipe σ vs) H' fun σ2 H2 => wipe σ2 vs = wipe σ vs ∧ tt σ2 H2 fun b H3 => if b = true then te σ2 H3 Q1 else Q0 H3)
    (hd : ∀ H, Same H1 H → H D = some (.lst ((ys.filter p).map v)) → Qd H) : LcGoal J g tt te vs σ H1 D Qd := by
  refine lc_gen w ys p (fun H => Same H1 H) Same (fun _ y u => u = v y) hn hlen (same_new nD _) hG (fun H H' h1 h2 => ⟨h1.trans h2, fun xs e => h2 _ _ e⟩) (fun H xs l h1 _ => same_put nD h1 _) (fun _ _ _ _ _ _ e => e) (fun _ _ _ _ _ _ _ e => e) (fun i y x H H' hy h1 hY Q1 Q0 q1 q0 => ?_) (fun H zs h1 e ez hz => ?_)
  · exact hs i y x H H' hy h1 hY Q1 Q0 (fun hp H4 s4 => q1 hp _ H4 s4 rfl) q0
  · refine hd H h1 ?_
    rw [e, ← ez, List.map_map]
    congr 2
    exact List.map_congr_left fun z hzz => hz z hzz
theorem lc_sameM (w : Walk J n G Y) (ys : List α) (v : α → V) (hn : ys.length = n) (hlen : ys.length ≤ 1000) (nD : H1 D = none) (hG : ∀ H, Same H1 H → G H)
    (hs : ∀ i y x H H', ys[i]? = some y → Same H1 H → Y i H x H' → ∀ (Q1 : V → Hp → Prop), (∀ H4, Same H H4 → Q1 (v y) H4) → g x (wipe σ vs) H' fun σ2 H2 => wipe σ2 vs = wipe σ vs ∧ te σ2 H2 Q1)
    (hd : ∀ H, Same H1 H → H D = some (.lst (ys.map v)) → Qd H) : LcGoal J g tYes te vs σ H1 D Qd := by
  refine lc_sameV w ys (fun _ => true) v hn hlen nD hG (fun i y x H H' hy h1 hY Q1 Q0 q1 q0 => ?_) (fun H h1 e => hd H h1 (by rw [e, List.filter_eq_self.mpr fun _ _ => rfl]))
  exact hs i y x H H' hy h1 hY Q1 (fun H4 s4 => q1 rfl H4 s4)
/-- new tuples -/
theorem lc_sameT (w : Walk J n G Y) (ys : List α) (p : α → Bool) (v : α → List V) (hn : ys.length = n) (hlen : ys.length ≤ 1000) (nD : H1 D = none) (hG : ∀ H, Same H1 H → G H)
    (hs : ∀ i y x H H', ys[i]? = some y → Same H1 H → Y i H x H' → ∀ (Q1 : V → Hp → Prop) (Q0 : Hp → Prop), (p y = true → ∀ t H4, Same H H4 → H4 t = some (.tup (v y)) → Q1 (.ref t) H4) → (p y = false → ∀ H3, Same H H3 → Q0 H3) →
      g x (wipe σ vs) H' fun σ2 H2 => wipe σ2 vs = wipe σ vs ∧ tt σ2 H2 fun b H3 => if b = true then te σ2 H3 Q1 else Q0 H3)
    (hd : ∀ H (zs : List (Addr × α)), Same H1 H → H D = some (.lst (zs.map fun z => .ref z.1)) → zs.map (·.2) = ys.filter p → (∀ z ∈ zs, H z.1 = some (.tup (v z.2))) → Qd H) : LcGoal J g tt te vs σ H1 D Qd := by
  refine lc_gen w ys p (fun H => Same H1 H) Same (fun H y u => ∃ t, u = .ref t ∧ H t = some (.tup (v y))) hn hlen (same_new nD _) hG (fun H H' h1 h2 => ⟨h1.trans h2, fun xs e => h2 _ _ e⟩) (fun H xs l h1 _ => same_put nD h1 _) (fun H H' y u _ h2 e => ?_) (fun H xs l y u h1 h2 e => ?_) (fun i y x H H' hy h1 hY Q1 Q0 q1 q0 => ?_) (fun H zs h1 e ez hz => ?_)
  · obtain ⟨t, e1, e2⟩ := e
    exact ⟨t, e1, h2 _ _ e2⟩
  · obtain ⟨t, e1, e2⟩ := e
    refine ⟨t, e1, ?_⟩
    rw [upd_ne fun z => by rw [z, h2] at e2; cases e2]
    exact e2
  · exact hs i y x H H' hy h1 hY Q1 Q0 (fun hp t H4 s4 e4 => q1 hp _ H4 s4 ⟨t, rfl, e4⟩) q0
  · have key : ∀ zs : List (V × α), (∀ z ∈ zs, ∃ t, z.1 = .ref t ∧ H t = some (.tup (v z.2))) → ∃ ws : List (Addr × α), zs.map (·.1) = ws.map (fun z => V.ref z.1) ∧ ws.map (·.2) = zs.map (·.2) ∧ ∀ z ∈ ws, H z.1 = some (.tup (v z.2)) := by
      intro zs
      induction zs with
      | nil => exact fun _ => ⟨[], rfl, rfl, fun _ h => nomatch h⟩
      | cons z r ih =>
        intro h
        obtain ⟨ws, a1, a2, a3⟩ := ih fun x hx => h x (List.mem_cons_of_mem _ hx)
        obtain ⟨t, e1, e2⟩ := h z List.mem_cons_self
        refine ⟨(t, z.2) :: ws, ?_, ?_, fun x hx => ?_⟩
        · rw [List.map_cons, List.map_cons, a1, e1]
        · rw [List.map_cons, List.map_cons, a2]
        · rcases List.mem_cons.mp hx with h | h
          · rw [h]
            exact e2
          · exact a3 x h
    obtain ⟨ws, a1, a2, a3⟩ := key zs hz
    exact hd H ws h1 (by rw [e, a1]) (by rw [a2, ez]) a3
end
end Deed

namespace Deed
open PySem PySem.Spec PyProof.Rows L2 LamX
section
variable {P : Program} {w : World} {K : PySem.W.Frag} {mg : Str → Option Value} {base : Heap} {fRi fDe : Addr} {dRi dDe : FuncData} {T : List (Addr × Str)}
abbrev sDeedE : Stmt := topS 12
theorem scDeedE : FnScope ["book", "entry"] ["book"] (defScope sDeedE) := ⟨rfl, rfl, rfl, by decide +kernel, rfl, by decide +kernel, by decide +kernel⟩
theorem ok_deedE {f : Addr} {fd : FuncData} {k : Nat} (F : Fun K "deed_entries" "deed_entries" sDeedE f fd) (R : RisD K mg base T fRi dRi) (mW : MgInt mg "WORD" 4) : FnOk P w K mg base CX0 (k + 3) f fd ["book"] (spPick (·.isDeed) T) := by
  have GR : FnOk P w K mg base CX0 (k + 2) fRi dRi ["book"] (spRising T) := R.ok
  refine F.ok scDeedE (fun vs H Q E h => ?_) (fun cdv A outer s H vs Q E hr h => ?_)
  · obtain ⟨b, fk, t, n, age, zs, rfl, _⟩ := h
    rfl
  · obtain ⟨b, fk, t, n, age, zs, rfl, hB, hT, q⟩ := h
    refine ⟨_, pss_one (ps_ret (pe_lc (own := [("entry", 1)]) (g := gName 1) (by rfl) scDeedE.nd (pi_list (pe_call GR hr (by rfl) R.D.g R.D.F.kp R.D.b .nil pass0 (pa_cons (pv 0) pa_nil))) (blkOk_by (own := [("entry", 1)]) (N := ["book", "entry"]) (sc := defScope sDeedE) (by decide +kernel)) (fun _ _ _ _ _ => pg_name (i := 1) scDeedE.nd rfl (Or.inl rfl))
      (fun _ _ _ _ _ => pts_one (pt_cmpR op_eq (show PE _ _ (tOp (rIxT K) (tVar 1) (tC (.int 4))) from pe_ix ix_tup (pv 1) (pe_num (by rfl) mW) (fun _ _ => rfl)) pe_str (nomark _))) (fun _ _ _ _ _ => pv 1))), ?_⟩
    refine ⟨_, rfl, b, fk, t, n, age, zs, rfl, hB, hT, fun p zs' H1 eN T1 fr ep pm so => ?_⟩
    have hent : ∀ z ∈ zs', EntAt H1 z.1 z.2 := fun z hz => (hB.ent z (pm.mem_iff.mp hz)).kp (ExtN.tup eN)
    refine ⟨p, rfl, ⟨_, SqL.of ep⟩, fun D nD => ?_⟩
    have npD : p ≠ D := ne_of_none ep nD
    refine lc_list (K := K) (a := p) (xs := refs zs') (fun i H' => H' D = some (.lst (refs ((zs'.take i).filter fun z => z.2.isDeed))) ∧ Same H1 H') ⟨upd_same, fun b o e => by rw [upd_ne (ne_of_none e nD)]; exact e⟩ (fun i H' _ h => SqL.of (h.2 _ _ ep)) ?_ ?_
    · rintro i x H' hx ⟨eD, sm⟩
      obtain ⟨z, hz, rfl⟩ := ref_at hx
      have hzm : z ∈ zs' := List.mem_of_getElem? hz
      obtain ⟨xs, ex, _, _, _, _, g4⟩ := ((hent z hzm).kp (Same.tup sm)).tup
      refine ⟨rfl, _, rfl, z.1, xs, 4, _, rfl, rfl, SqT.of ex, g4, rfl, _, rfl, ?_⟩
      have wd := (hB.ok.ok z.2 (List.mem_map.mpr ⟨z, pm.mem_iff.mp hzm, rfl⟩)).word
      have et := take_more hz
      refine ite2 (fun c => ?_) (fun c => ?_)
      · have hd : z.2.isDeed = true := wd.mp (by
          have := of_decide_eq_true c
          injection this)
        refine ⟨_, rfl, _, eD, small1000 ?_, ?_, fun b o e => ?_⟩
        · have h1 := List.length_filter_le (fun z : Addr × En => z.2.isDeed) (zs'.take i)
          have h2 := pm.length_eq
          have h3 := hB.len
          rw [List.length_map]
          rw [List.length_take] at h1
          omega
        · rw [upd_same, et, List.filter_append]
          simp [hd, refs]
        · have nb : b ≠ D := ne_of_none e nD
          rw [upd_ne nb]
          exact sm _ _ e
      · have hd : z.2.isDeed = false := by
          cases hh : z.2.isDeed with
          | false => rfl
          | true =>
            refine absurd (decide_eq_true ?_) c
            rw [wd.mpr hh]
        refine ⟨?_, sm⟩
        rw [eD, et, List.filter_append]
        simp [hd]
    · rintro H' ⟨eD, sm⟩
      have el : zs'.take (refs zs').length = zs' := List.take_of_length_le (by rw [List.length_map]; exact Nat.le_refl _)
      rw [el] at eD
      exact q D zs' H' (eN.trans (.of sm)) (T1.ext sm) (Fresh.of eN nD) eD pm so
end
end Deed

namespace Deed
open PySem PySem.Spec PyProof.Rows L2 LamX
section
variable {P : Program} {w : World} {K : PySem.W.Frag} {mg : Str → Option Value} {base : Heap} {fRi fDe : Addr} {dRi dDe : FuncData} {T : List (Addr × Str)}
abbrev sActE : Stmt := topS 13
theorem scActE : FnScope ["book", "entry"] ["book"] (defScope sActE) := ⟨rfl, rfl, rfl, by decide +kernel, rfl, by decide +kernel, by decide +kernel⟩
theorem ok_actE {f : Addr} {fd : FuncData} {k : Nat} (F : Fun K "act_entries" "act_entries" sActE f fd) (R : RisD K mg base T fRi dRi) (mW : MgInt mg "WORD" 4) : FnOk P w K mg base CX0 (k + 3) f fd ["book"] (spPick (fun e => !e.isDeed) T) := by
  have GR : FnOk P w K mg base CX0 (k + 2) fRi dRi ["book"] (spRising T) := R.ok
  refine F.ok scActE (fun vs H Q E h => ?_) (fun cdv A outer s H vs Q E hr h => ?_)
  · obtain ⟨b, fk, t, n, age, zs, rfl, _⟩ := h
    rfl
  · obtain ⟨b, fk, t, n, age, zs, rfl, hB, hT, q⟩ := h
    refine ⟨_, pss_one (ps_ret (pe_lc (own := [("entry", 1)]) (g := gName 1) (by rfl) scActE.nd (pi_list (pe_call GR hr (by rfl) R.D.g R.D.F.kp R.D.b .nil pass0 (pa_cons (pv 0) pa_nil))) (blkOk_by (own := [("entry", 1)]) (N := ["book", "entry"]) (sc := defScope sActE) (by decide +kernel)) (fun _ _ _ _ _ => pg_name (i := 1) scActE.nd rfl (Or.inl rfl))
      (fun _ _ _ _ _ => pts_one (pt_cmpR op_ne (show PE _ _ (tOp (rIxT K) (tVar 1) (tC (.int 4))) from pe_ix ix_tup (pv 1) (pe_num (by rfl) mW) (fun _ _ => rfl)) pe_str (nomark _))) (fun _ _ _ _ _ => pv 1))), ?_⟩
    refine ⟨_, rfl, b, fk, t, n, age, zs, rfl, hB, hT, fun p zs' H1 eN T1 fr ep pm so => ?_⟩
    have hent : ∀ z ∈ zs', EntAt H1 z.1 z.2 := fun z hz => (hB.ent z (pm.mem_iff.mp hz)).kp (ExtN.tup eN)
    refine ⟨p, rfl, ⟨_, SqL.of ep⟩, fun D nD => ?_⟩
    have npD : p ≠ D := ne_of_none ep nD
    refine lc_list (K := K) (a := p) (xs := refs zs') (fun i H' => H' D = some (.lst (refs ((zs'.take i).filter fun z => !z.2.isDeed))) ∧ Same H1 H') ⟨upd_same, fun b o e => by rw [upd_ne (ne_of_none e nD)]; exact e⟩ (fun i H' _ h => SqL.of (h.2 _ _ ep)) ?_ ?_
    · rintro i x H' hx ⟨eD, sm⟩
      obtain ⟨z, hz, rfl⟩ := ref_at hx
      have hzm : z ∈ zs' := List.mem_of_getElem? hz
      obtain ⟨xs, ex, _, _, _, _, g4⟩ := ((hent z hzm).kp (Same.tup sm)).tup
      refine ⟨rfl, _, rfl, z.1, xs, 4, _, rfl, rfl, SqT.of ex, g4, rfl, _, rfl, ?_⟩
      have wd := (hB.ok.ok z.2 (List.mem_map.mpr ⟨z, pm.mem_iff.mp hzm, rfl⟩)).word
      have et := take_more hz
      refine ite2 (fun c => ?_) (fun c => ?_)
      · have hd : z.2.isDeed = false := by
          cases hh : z.2.isDeed with
          | false => rfl
          | true =>
            have c' : (!decide (V.str z.2.word = V.str "deed")) = true := c
            rw [wd.mpr hh] at c'
            simp at c'
        refine ⟨_, rfl, _, eD, small1000 ?_, ?_, fun b o e => ?_⟩
        · have h1 := List.length_filter_le (fun z : Addr × En => !z.2.isDeed) (zs'.take i)
          have h2 := pm.length_eq
          have h3 := hB.len
          rw [List.length_map]
          rw [List.length_take] at h1
          omega
        · rw [upd_same, et, List.filter_append]
          simp [hd, refs]
        · have nb : b ≠ D := ne_of_none e nD
          rw [upd_ne nb]
          exact sm _ _ e
      · have hd : z.2.isDeed = true := by
          cases hh : z.2.isDeed with
          | true => rfl
          | false =>
            refine absurd ?_ c
            show (!decide (V.str z.2.word = V.str "deed")) = true
            have : ¬ (V.str z.2.word = V.str "deed") := fun q => by
              injection q with q
              rw [wd.mp q] at hh
              cases hh
            rw [decide_eq_false this]
            rfl
        refine ⟨?_, sm⟩
        rw [eD, et, List.filter_append]
        simp [hd]
    · rintro H' ⟨eD, sm⟩
      have el : zs'.take (refs zs').length = zs' := List.take_of_length_le (by rw [List.length_map]; exact Nat.le_refl _)
      rw [el] at eD
      exact q D zs' H' (eN.trans (.of sm)) (T1.ext sm) (Fresh.of eN nD) eD pm so
end
end Deed

namespace Deed
open PySem PySem.Spec PyProof.Rows L2 LamX
section
variable {P : Program} {w : World} {K : PySem.W.Frag} {mg : Str → Option Value} {base : Heap} {fRi fDe : Addr} {dRi dDe : FuncData} {T : List (Addr × Str)}
abbrev sDeedsOf : Stmt := topS 14
theorem scDeedsOf : FnScope ["book", "entry"] ["book"] (defScope sDeedsOf) := ⟨rfl, rfl, rfl, by decide +kernel, rfl, by decide +kernel, by decide +kernel⟩
theorem ok_DeedsOf {f : Addr} {fd : FuncData} {k : Nat} (F : Fun K "deeds_of" "deeds_of" sDeedsOf f fd) (DE : Df K mg "deed_entries" sDeedE ["book"] fDe dDe) (GE : FnOk P w K mg base CX0 (k + 3) fDe dDe ["book"] (spPick (·.isDeed) T)) (mN : MgInt mg "NUMBER" 0) : FnOk P w K mg base CX0 (k + 4) f fd ["book"] (spNums (·.isDeed) T) := by
  refine F.ok scDeedsOf (fun vs H Q E h => ?_) (fun cdv A outer s H vs Q E hr h => ?_)
  · obtain ⟨b, fk, t, n, age, zs, rfl, _⟩ := h
    rfl
  · obtain ⟨b, fk, t, n, age, zs, rfl, hB, hT, q⟩ := h
    refine ⟨_, pss_one (ps_ret (pe_lc (own := [("entry", 1)]) (g := gName 1) (by rfl) scDeedsOf.nd (pi_list (pe_call GE hr (by rfl) DE.g DE.F.kp DE.b .nil pass0 (pa_cons (pv 0) pa_nil))) (blkOk_by (own := [("entry", 1)]) (N := ["book", "entry"]) (sc := defScope sDeedsOf) (by decide +kernel)) (fun _ _ _ _ _ => pg_name (i := 1) scDeedsOf.nd rfl (Or.inl rfl))
      (fun _ _ _ _ _ => pts_nil) (fun _ _ _ _ _ => show PE _ _ (tOp (rIxT K) (tVar 1) (tC (.int 0))) from pe_ix ix_tup (pv 1) (pe_num (by rfl) mN) (fun _ _ => rfl)))), ?_⟩
    refine ⟨_, rfl, b, fk, t, n, age, zs, rfl, hB, hT, fun p zs' H1 eN T1 fr ep pm so => ?_⟩
    have hent : ∀ z ∈ zs', EntAt H1 z.1 z.2 := fun z hz => (hB.ent z (pm.mem_iff.mp hz)).kp (ExtN.tup eN)
    refine ⟨p, rfl, ⟨_, SqL.of ep⟩, fun D nD => ?_⟩
    refine lc_list (K := K) (a := p) (xs := refs (zs'.filter fun z => (·.isDeed) z.2)) (fun i H' => H' D = some (.lst ((((zs'.filter fun z => (·.isDeed) z.2).take i).map fun z => z.2.num).map V.int)) ∧ Same H1 H') ⟨upd_same, fun b o e => by rw [upd_ne (ne_of_none e nD)]; exact e⟩ (fun i H' _ h => SqL.of (h.2 _ _ ep)) ?_ ?_
    · rintro i x H' hx ⟨eD, sm⟩
      obtain ⟨z, hz, rfl⟩ := ref_at hx
      have hzm : z ∈ zs' := (List.mem_filter.mp (List.mem_of_getElem? hz)).1
      obtain ⟨xs, ex, g0, _⟩ := ((hent z hzm).kp (Same.tup sm)).tup
      refine ⟨rfl, ?_⟩
      unfold tYes
      dsimp only
      rw [if_pos rfl]
      refine ⟨_, rfl, z.1, xs, 0, _, rfl, rfl, SqT.of ex, g0, _, eD, small1000 ?_, ?_, fun b o e => ?_⟩
      · have h1 := List.length_filter_le (fun z : Addr × En => (·.isDeed) z.2) zs'
        have h2 := pm.length_eq
        have h3 := hB.len
        rw [List.length_map, List.length_map, List.length_take]
        omega
      · rw [upd_same, take_more hz, List.map_append, List.map_append]
        rfl
      · have nb : b ≠ D := ne_of_none e nD
        rw [upd_ne nb]
        exact sm _ _ e
    · rintro H' ⟨eD, sm⟩
      have el : (zs'.filter fun z => (·.isDeed) z.2).take (refs (zs'.filter fun z => (·.isDeed) z.2)).length = zs'.filter fun z => (·.isDeed) z.2 := List.take_of_length_le (by rw [List.length_map]; exact Nat.le_refl _)
      rw [el] at eD
      exact q D zs' H' (eN.trans (.of sm)) (T1.ext sm) (Fresh.of eN nD) eD pm so
end
end Deed

namespace Deed
open PySem PySem.Spec PyProof.Rows L2 LamX
section
variable {P : Program} {w : World} {K : PySem.W.Frag} {mg : Str → Option Value} {base : Heap} {fRi fDe : Addr} {dRi dDe : FuncData} {T : List (Addr × Str)}
end
end Deed

namespace Deed
open PySem PySem.Spec PyProof.Rows L2 LamX
theorem Tabs.kp {T : List (Addr × Str)} {H H' : Hp} {p : Addr} (t : Tabs T H) (k : Kp p H H') (P : PenAt H p) : Tabs T H' := fun q hq => by
  obtain ⟨ps, h1, h2, h3⟩ := t q hq
  refine ⟨ps, k _ _ (P.ne h1 fun _ z => by cases z) h1, h2, fun pos cv hc => ?_⟩
  obtain ⟨c, e1, e2⟩ := h3 pos cv hc
  exact ⟨c, e1, k _ _ (P.ne e2 fun _ z => by unfold CodeO at z; cases z) e2⟩
theorem ExtN.sqL {K : PySem.W.Frag} {H H' : Hp} {a : Addr} {xs : List V} (e : ExtN H H') (h : SqL K H a xs) : SqL K H' a xs := by
  rcases h with (z | ⟨o, z⟩) | z
  · exact .inl (.inl (e _ _ z fun ps z' => by cases z'))
  · exact .inl (.inr ⟨o, e _ _ z fun ps z' => by cases z'⟩)
  · exact .inr z
theorem ExtN.pen {H H' : Hp} {p : Addr} (e : ExtN H H') (h : PenAt H p) : PenAt H' p := by
  obtain ⟨x1, x2, x3, x4, z1, z2⟩ := h
  exact ⟨x1, x2, x3, x4, e _ _ z1 fun ps z => (by cases z), z2⟩
/-- with a pen that is new -/
theorem ExtN.kp {H H1 H2 : Hp} {p : Addr} (e : ExtN H H1) (n : H p = none) (k : Kp p H1 H2) : ExtN H H2 := fun b o z h => k b o (ne_of_none z n) (e b o z h)
theorem ExtN.put {H H' : Hp} {p : Addr} (e : ExtN H H') (f : Fresh H p) (o : HO) : ExtN H (upd H' p o) := fun b u z h => by
  rw [upd_ne (f.ne z h)]
  exact e b u z h
theorem rising_one : ∀ {l m : List Int}, l.Pairwise (· < ·) → m.Pairwise (· < ·) → (∀ x, x ∈ l ↔ x ∈ m) → l = m
  | [], [], _, _, _ => rfl
  | [], y :: m, _, _, h => absurd ((h y).mpr List.mem_cons_self) (by simp)
  | x :: l, [], _, _, h => absurd ((h x).mp List.mem_cons_self) (by simp)
  | x :: l, y :: m, h1, h2, h => by
    have a1 := List.pairwise_cons.mp h1
    have a2 := List.pairwise_cons.mp h2
    have exy : x = y := by
      have m1 := (h x).mp List.mem_cons_self
      have m2 := (h y).mpr List.mem_cons_self
      rcases List.mem_cons.mp m1 with e | e
      · exact e
      · rcases List.mem_cons.mp m2 with e' | e'
        · exact e'.symm
        · have := a1.1 y e'
          have := a2.1 x e
          omega
    subst exy
    congr 1
    refine rising_one a1.2 a2.2 fun z => ?_
    constructor
    · intro hz
      rcases List.mem_cons.mp ((h z).mp (List.mem_cons_of_mem _ hz)) with e | e
      · have := a1.1 z hz
        omega
      · exact e
    · intro hz
      rcases List.mem_cons.mp ((h z).mpr (List.mem_cons_of_mem _ hz)) with e | e
      · have := a2.1 z hz
        omega
      · exact e
/-- the picked numbers of an arrangement by numbers -/
def picked (φ : En → Bool) (zs : List (Addr × En)) : List Int := (zs.filter fun z => φ z.2).map fun z => z.2.num
theorem picked_up {φ : En → Bool} {zs : List (Addr × En)} (h : zs.Pairwise (fun a b => a.2.num < b.2.num)) : (picked φ zs).Pairwise (· < ·) := by
  unfold picked
  exact List.pairwise_map.mpr (h.filter _)
theorem mem_picked {φ : En → Bool} {zs : List (Addr × En)} {x : Int} : x ∈ picked φ zs ↔ ∃ z ∈ zs, φ z.2 = true ∧ z.2.num = x := by
  unfold picked
  simp only [List.mem_map, List.mem_filter]
  constructor
  · rintro ⟨z, ⟨h1, h2⟩, h3⟩
    exact ⟨z, h1, h2, h3⟩
  · rintro ⟨z, h1, h2, h3⟩
    exact ⟨z, ⟨h1, h2⟩, h3⟩
theorem picked_len (φ : En → Bool) (zs : List (Addr × En)) : (picked φ zs).length ≤ zs.length := by
  unfold picked
  rw [List.length_map]
  exact List.length_filter_le _ _
/-- two arrangements of the same entries -/
theorem picked_one {φ : En → Bool} {zs zs' : List (Addr × En)} (h : zs.Pairwise (fun a b => a.2.num < b.2.num)) (h' : zs'.Pairwise (fun a b => a.2.num < b.2.num)) (e : ∀ x, x ∈ ens zs ↔ x ∈ ens zs') : picked φ zs = picked φ zs' := by
  refine rising_one (picked_up h) (picked_up h') fun x => ?_
  rw [mem_picked, mem_picked]
  constructor
  · rintro ⟨z, h1, h2, h3⟩
    obtain ⟨z', h4, h5⟩ := List.mem_map.mp ((e z.2).mp (List.mem_map.mpr ⟨z, h1, rfl⟩))
    exact ⟨z', h4, by rw [h5]; exact h2, by rw [h5]; exact h3⟩
  · rintro ⟨z, h1, h2, h3⟩
    obtain ⟨z', h4, h5⟩ := List.mem_map.mp ((e z.2).mpr (List.mem_map.mpr ⟨z, h1, rfl⟩))
    exact ⟨z', h4, by rw [h5]; exact h2, by rw [h5]; exact h3⟩
theorem ens_perm {zs zs' : List (Addr × En)} (h : zs'.Perm zs) : ∀ x, x ∈ ens zs' ↔ x ∈ ens zs := fun x => (h.map _).mem_iff
end Deed

namespace Deed
open PySem PySem.Spec PyProof.Rows L2 LamX
/-! ### acts in force: the mathematics -/
def En.of (e : En) : Int := match e.kd with
  | .deed _ _ _ _ => -1
  | .act _ o => o
def isOpen (d k : Int) (e : En) : Bool := decide (e.day ≤ d) && decide (e.wri ≤ k)
/-- an entry of the word x that is of the number n -/
def isOn (x : Str) (n : Int) (e : En) : Bool := decide (e.word = x) && decide (e.of = n)
def frcF (es : List En) (d k : Int) : Nat → En → Bool
  | 0, _ => false
  | f + 1, e => isOpen d k e && es.all fun u => !(isOn "undone" e.num u && frcF es d k f u)
def frc (es : List En) (d k : Int) (e : En) : Bool := frcF es d k (31 - e.num).toNat e
theorem EnOk.of_lt {n : Nat} {ds as : List Int} {e : En} (h : EnOk n ds as e) (hd : e.isDeed = false) : e.of < e.num ∧ ((e.word = "undone" ∧ e.of ∈ as) ∨ ((e.word = "paid" ∨ e.word = "void") ∧ e.of ∈ ds)) := by
  unfold En.isDeed at hd
  unfold En.of En.word
  cases hk : e.kd with
  | deed g t rs ws =>
    rw [hk] at hd
    cases hd
  | act x o =>
    have h4 := h.2.2.2
    rw [hk] at h4
    exact ⟨h4.2, h4.1⟩
theorem isOn_act {n : Nat} {ds as : List Int} {e : En} {x : Str} {m : Int} (h : EnOk n ds as e) (hx : x ≠ "deed") (ho : isOn x m e = true) : e.isDeed = false ∧ e.word = x ∧ e.of = m := by
  unfold isOn at ho
  rw [Bool.and_eq_true] at ho
  have h1 := of_decide_eq_true ho.1
  have h2 := of_decide_eq_true ho.2
  refine ⟨?_, h1, h2⟩
  cases hd : e.isDeed with
  | false => rfl
  | true => exact absurd ((h.word.mpr hd).symm.trans h1) (fun z => hx z.symm)
theorem frcF_one {n : Nat} {es : List En} (hB : BkOk n es) (d k : Int) : ∀ (f g : Nat) (e : En), e ∈ es → (31 - e.num).toNat ≤ f → (31 - e.num).toNat ≤ g → frcF es d k f e = frcF es d k g e := by
  intro f
  induction f with
  | zero =>
    intro g e he hf _
    have := hB.rng e he
    omega
  | succ f ih =>
    intro g e he hf hg
    have re := hB.rng e he
    cases g with
    | zero => omega
    | succ g =>
      show (isOpen d k e && es.all fun u => !(isOn "undone" e.num u && frcF es d k f u)) = (isOpen d k e && es.all fun u => !(isOn "undone" e.num u && frcF es d k g u))
      congr 1
      have key : ∀ u ∈ es, (isOn "undone" e.num u && frcF es d k f u) = (isOn "undone" e.num u && frcF es d k g u) := fun u hu => by
        cases ho : isOn "undone" e.num u with
        | false => rfl
        | true =>
          obtain ⟨h1, h2, h3⟩ := isOn_act (hB.ok u hu) (by decide) ho
          have lt := ((hB.ok u hu).of_lt h1).1
          rw [ih g u hu (by omega) (by omega)]
      rw [Bool.eq_iff_iff, List.all_eq_true, List.all_eq_true]
      constructor
      · intro h u hu
        rw [← key u hu]
        exact h u hu
      · intro h u hu
        rw [key u hu]
        exact h u hu
theorem frcF_eq {n : Nat} {es : List En} (hB : BkOk n es) (d k : Int) {f : Nat} {e : En} (he : e ∈ es) (hf : (31 - e.num).toNat ≤ f) : frcF es d k f e = frc es d k e := frcF_one hB d k _ _ e he hf (Nat.le_refl _)
/-- in force: open, and no undone of it in force -/
theorem frc_eq {n : Nat} {es : List En} (hB : BkOk n es) (d k : Int) {e : En} (he : e ∈ es) : frc es d k e = (isOpen d k e && es.all fun u => !(isOn "undone" e.num u && frc es d k u)) := by
  have re := hB.rng e he
  rw [← frcF_eq hB d k (f := 31) he (by omega)]
  show (isOpen d k e && es.all fun u => !(isOn "undone" e.num u && frcF es d k 30 u)) = _
  congr 1
  have key : ∀ u ∈ es, (isOn "undone" e.num u && frcF es d k 30 u) = (isOn "undone" e.num u && frc es d k u) := fun u hu => by
    cases ho : isOn "undone" e.num u with
    | false => rfl
    | true =>
      obtain ⟨h1, h2, h3⟩ := isOn_act (hB.ok u hu) (by decide) ho
      have lt := ((hB.ok u hu).of_lt h1).1
      rw [frcF_eq hB d k hu (by omega)]
  rw [Bool.eq_iff_iff, List.all_eq_true, List.all_eq_true]
  constructor
  · intro h u hu
    rw [← key u hu]
    exact h u hu
  · intro h u hu
    rw [key u hu]
    exact h u hu
theorem frc_open {n : Nat} {es : List En} (hB : BkOk n es) {d k : Int} {e : En} (he : e ∈ es) (h : frc es d k e = true) : isOpen d k e = true := by
  rw [frc_eq hB d k he, Bool.and_eq_true] at h
  exact h.1
theorem num_inj {n : Nat} {es : List En} (hB : BkOk n es) {e e' : En} (he : e ∈ es) (he' : e' ∈ es) (h : e.num = e'.num) : e = e' := by
  obtain ⟨i1, hi1, ei1⟩ := List.mem_iff_getElem.mp he
  obtain ⟨i2, hi2, ei2⟩ := List.mem_iff_getElem.mp he'
  have h1 : (es.map (·.num))[i1]? = some e.num := by rw [List.getElem?_map, List.getElem?_eq_getElem hi1, ei1]; rfl
  have h2 : (es.map (·.num))[i2]? = some e.num := by rw [List.getElem?_map, List.getElem?_eq_getElem hi2, ei2, h]; rfl
  have h3 := nd_ix hB.nd h1 h2
  subst h3
  rw [← ei1, ← ei2]
end Deed

namespace Deed
open PySem PySem.Spec PyProof.Rows L2 LamX
/-! ### the law's own book of entries -/
abbrev dks (zs : List (Addr × En)) : List (Key × V) := zs.map fun z => (Sum.inl z.2.num, V.ref z.1)
structure EdAt (H : Hp) (ed : Addr) (n : Nat) (zs : List (Addr × En)) : Prop where
  at_ : H ed = some (.dK (dks zs))
  ent : ∀ z ∈ zs, EntAt H z.1 z.2
  ok : BkOk n (ens zs)
  len : zs.length ≤ 16
theorem EdAt.same {H H' : Hp} {ed : Addr} {n : Nat} {zs : List (Addr × En)} (h : EdAt H ed n zs) (s : Same H H') : EdAt H' ed n zs := ⟨s _ _ h.at_, fun z hz => (h.ent z hz).kp (Same.tup s), h.ok, h.len⟩
theorem valV_dks {zs : List (Addr × En)} (nd : ((ens zs).map (·.num)).Nodup) {z : Addr × En} (hz : z ∈ zs) : valV (dks zs) (.inl z.2.num) = some (.ref z.1) := by
  induction zs with
  | nil => cases hz
  | cons y r ih =>
    have nd' : (y.2.num :: (ens r).map (·.num)).Nodup := nd
    have h2 := List.nodup_cons.mp nd'
    show Option.map (·.2) (List.find? (fun kv => decide (kv.1 = (Sum.inl z.2.num : Key))) ((Sum.inl y.2.num, V.ref y.1) :: dks r)) = _
    rw [List.find?_cons]
    rcases List.mem_cons.mp hz with rfl | hz
    · simp
    · have hne : ¬ (Sum.inl y.2.num : Key) = Sum.inl z.2.num := fun q => by
        injection q with q
        exact h2.1 (List.mem_map.mpr ⟨z.2, List.mem_map.mpr ⟨z, hz, rfl⟩, q.symm⟩)
      rw [decide_eq_false hne]
      exact ih h2.2 hz
theorem EdAt.get {H : Hp} {ed : Addr} {n : Nat} {zs : List (Addr × En)} (h : EdAt H ed n zs) {z : Addr × En} (hz : z ∈ zs) : DGet H ed (.int z.2.num) (some (.ref z.1)) := by
  have := DGet.k (k := Sum.inl z.2.num) h.at_
  rw [valV_dks h.ok.nd hz] at this
  exact this
theorem mem_inS {x : Str} {ws : List Str} : inV (.str x) (ws.map V.str) = decide (x ∈ ws) := by
  induction ws with
  | nil => simp [inV]
  | cons m r ih =>
    have e : inV (.str x) ((m :: r).map V.str) = (eqV (.str m) (.str x) || inV (.str x) (r.map V.str)) := by simp [inV]
    have e2 : eqV (.str m) (.str x) = decide (m = x) := by
      first | rfl | simp [eqV] | (unfold eqV; simp)
    rw [e, ih, e2]
    by_cases h : m = x
    · subst h
      simp
    · have h' : ¬ x = m := fun z => h z.symm
      simp [h, h']
theorem flat_strs (ws : List Str) : (ws.map V.str).all flatV = true := by
  induction ws with
  | nil => rfl
  | cons n r ih =>
    rw [List.map_cons, List.all_cons, ih]
    rfl
theorem EntAt.five {H : Hp} {a : Addr} {e : En} (h : EntAt H a e) (hd : e.isDeed = false) : ∃ xs, H a = some (.tup xs) ∧ atI xs 5 = some (.int e.of) := by
  unfold EntAt at h
  unfold En.isDeed at hd
  unfold En.of
  cases hk : e.kd with
  | deed g t rs ws =>
    rw [hk] at hd
    cases hd
  | act x o =>
    rw [hk] at h
    exact ⟨_, h, atI_nat (j := 5) rfl⟩
section
variable {P : Program} {w : World} {K : PySem.W.Frag} {mg : Str → Option Value} {base : Heap} {T : List (Addr × Str)} {fOp fOf : Addr} {dOp dOf : FuncData}
abbrev sOpen : Stmt := topS 50
abbrev nOpen : List Str := ["_law_entry_here", "_law_d", "_law_k"]
theorem scOpen : FnScope nOpen nOpen (defScope sOpen) := ⟨rfl, rfl, rfl, by decide +kernel, rfl, by decide +kernel, by decide +kernel⟩
def spOpen : Sp := fun vs H Q _ => ∃ (a : Addr) (e : En) (d k : Int), vs = [.ref a, .int d, .int k] ∧ EntAt H a e ∧ Q (.bl (isOpen d k e)) H
theorem ok_open {f : Addr} {fd : FuncData} {k : Nat} (F : Fun K "_law_open" "_law_open" sOpen f fd) : FnOk P w K mg base CX0 (k + 1) f fd nOpen spOpen := by
  refine F.ok scOpen (fun vs H Q E h => ?_) (fun cdv A outer s H vs Q E hr h => ?_)
  · obtain ⟨a, e, d, k, rfl, _⟩ := h
    rfl
  · obtain ⟨a, e, d, k, rfl, hE, q⟩ := h
    refine ⟨_, pss_one (ps_ret (pe_and (pe_cmpR op_le (pe_ix ix_tup (pv 0) pe_int (fun _ _ => rfl)) (pv 1) (nomark _)) (pe_one (pe_cmpR op_le (pe_ix ix_tup (pv 0) pe_int (fun _ _ => rfl)) (pv 2) (nomark _))))), ?_⟩
    obtain ⟨xs, ex, _, g1, g2, _⟩ := hE.tup
    refine ⟨_, rfl, a, xs, 1, _, rfl, rfl, SqT.of ex, g1, _, rfl, _, _, rfl, rfl, _, rfl, ?_⟩
    unfold isOpen at q
    refine ite2 (fun c => ?_) (fun c => ?_)
    · have c' : decide (e.day ≤ d) = true := c
      rw [c', Bool.true_and] at q
      exact ⟨_, rfl, a, xs, 2, _, rfl, rfl, SqT.of ex, g2, _, rfl, _, _, rfl, rfl, q⟩
    · have c' : decide (e.day ≤ d) = false := by
        have : ¬ decide (e.day ≤ d) = true := c
        simpa using this
      rw [c', Bool.false_and] at q
      exact q
/-! ### those of a number -/
abbrev sOf : Stmt := topS 51
abbrev nOf : List Str := ["_law_entries_here", "_law_number", "_law_words_here", "_law_one"]
abbrev pOf : List Str := ["_law_entries_here", "_law_number", "_law_words_here"]
theorem scOf : FnScope nOf pOf (defScope sOf) := ⟨rfl, rfl, rfl, by decide +kernel, rfl, by decide +kernel, by decide +kernel⟩
def onAny (ws : List Str) (m : Int) (e : En) : Bool := decide (e.word ∈ ws) && decide (e.of = m)
def spOf : Sp := fun vs H Q _ => ∃ (ed wa : Addr) (m : Int) (ws : List Str) (n : Nat) (zs : List (Addr × En)), vs = [.ref ed, .int m, .ref wa] ∧ EdAt H ed n zs ∧ H wa = some (.tup (ws.map V.str)) ∧ ("deed" : Str) ∉ ws ∧
  ∀ p (ns : List Int) H', Same H H' → H p = none → H' p = some (.lst (ns.map V.int)) → ns.Perm (((ens zs).filter (onAny ws m)).map (·.num)) → ns.Pairwise (· ≤ ·) → Q (.ref p) H'
def t_of (K : PySem.W.Frag) : TT := tAnd (tTest (tOp (rIn K false) (tOp (rIxT K) (tDGet (tVar 0) (tVar 3)) (tC (.int 4))) (tVar 2))) (tTest (tOp rEq (tOp (rIxT K) (tDGet (tVar 0) (tVar 3)) (tC (.int 5))) (tVar 1)))
theorem ok_of {f : Addr} {fd : FuncData} {k : Nat} (F : Fun K "_law_of" "_law_of" sOf f fd) (ms : mg "sorted" = none) : FnOk P w K mg base CX0 (k + 1) f fd pOf spOf := by
  refine F.ok scOf (fun vs H Q E h => ?_) (fun cdv A outer s H vs Q E hr h => ?_)
  · obtain ⟨ed, wa, m, ws, n, zs, rfl, _⟩ := h
    rfl
  · obtain ⟨ed, wa, m, ws, n, zs, rfl, hE, hW, hnd, q⟩ := h
    have hu := hu_of hr
    refine ⟨_, pss_one (ps_ret (pe_callB cr_sortedI (by rfl) ms (by decide +kernel) (pa_cons (pe_lock (pe_lc (own := [("_law_one", 3)]) (g := gName 3) (by rfl) scOf.nd (pi_keys (pv 0)) (blkOk_by (own := [("_law_one", 3)]) (N := nOf) (sc := defScope sOf) (by decide +kernel)) (fun _ _ _ _ _ => pg_name (i := 3) scOf.nd rfl (Or.inl rfl))
      (fun _ _ _ _ _ => show PTs _ _ (t_of K) from pts_one (PW.pt (pw_and (pt_cmpR op_in_seq (pe_ix ix_tup (pe_dget hu (pv 0) (pv 3) (fun _ _ => rfl)) pe_int (fun _ _ => rfl)) (pv 2) (by rfl)) (pw_and1 (pt_cmpR op_eq (pe_ix ix_tup (pe_dget hu (pv 0) (pv 3) (fun _ _ => rfl)) pe_int (fun _ _ => rfl)) (pv 1) (nomark _)))))) (fun _ _ _ _ _ => pv 3))) pa_nil))), ?_⟩
    refine ⟨ed, _, hE.at_, trivial, fun od => ?_⟩
    have hL : ∀ b o, b ≠ ed → H b = some o → (upd H ed (.frz od (.dK (dks zs)))) b = some o := fun b o nb e => by
      rw [upd_ne nb]
      exact e
    have hLe : (upd H ed (.frz od (.dK (dks zs)))) ed = some (.frz od (.dK (dks zs))) := upd_same
    have hLn : ∀ b, (upd H ed (.frz od (.dK (dks zs)))) b = none → H b = none := fun b e => by
      have nb : b ≠ ed := fun z => by
        rw [z, upd_same] at e
        cases e
      rw [upd_ne nb] at e
      exact e
    generalize (upd H ed (.frz od (.dK (dks zs)))) = HL at hL hLe hLn
    have tupL : KpT H HL := fun b xs e => hL b _ (fun z => by rw [z, hE.at_] at e; cases e) e
    refine ⟨_, rfl, ed, od, rfl, .inl ⟨dks zs, hLe, fun D nD => ?_⟩⟩
    have nDe : ed ≠ D := ne_of_none hLe nD
    refine lc_it walk_keys (fun i H' => H' D = some (.lst ((((ens zs).take i).filter (onAny ws m)).map (fun e => V.int e.num))) ∧ Same HL H') ⟨upd_same, fun b o e => by rw [upd_ne (ne_of_none e nD)]; exact e⟩ (fun i H' _ h => h.2 _ _ hLe) ?_ ?_
    · rintro i x H' H'' hi ⟨eD, sm⟩ ⟨rfl, kk, vv, hkv, rfl⟩
      rw [List.getElem?_map] at hkv
      cases hz : zs[i]? with
      | none => rw [hz] at hkv; cases hkv
      | some z =>
        rw [hz] at hkv
        injection hkv with hkv
        injection hkv with hk hv
        subst hk
        have hzm : z ∈ zs := List.mem_of_getElem? hz
        have hzi : (ens zs)[i]? = some z.2 := by rw [List.getElem?_map, hz]; rfl
        have et := take_more hzi
        have dg : DGet H'' ed (.int z.2.num) (some (.ref z.1)) := by
          have h1 : DGet H'' ed (kV (.inl z.2.num)) (valV (dks zs) (.inl z.2.num)) := .inl ⟨dks zs, _, .inr ⟨od, sm _ _ hLe⟩, rfl, rfl⟩
          rw [valV_dks hE.ok.nd hzm] at h1
          exact h1
        have kT : KpT H H'' := tupL.trans (Same.tup sm)
        have hEz := (hE.ent z hzm).kp kT
        obtain ⟨xs, ex, _, _, _, _, g4⟩ := hEz.tup
        have hW'' := kT _ _ hW
        refine ⟨rfl, _, rfl, _, rfl, ed, _, rfl, dg, z.1, xs, 4, _, rfl, rfl, SqT.of ex, g4, _, rfl, wa, _, rfl, .inr (SqT.of hW''), rfl, flat_strs ws, _, rfl, ?_⟩
        rw [mem_inS]
        have okz := hE.ok.ok z.2 (List.mem_map.mpr ⟨z, hzm, rfl⟩)
        have out : ∀ hno : onAny ws m z.2 = false, H'' D = some (.lst ((((ens zs).take (i + 1)).filter (onAny ws m)).map (fun e => V.int e.num))) ∧ Same HL H'' := fun hno => by
          refine ⟨?_, sm⟩
          rw [eD, et, List.filter_append]
          simp [hno]
        refine ite2 (fun c1 => ?_) (fun c1 => ?_)
        · have c1' : z.2.word ∈ ws := of_decide_eq_true c1
          have hact : z.2.isDeed = false := by
            cases hh : z.2.isDeed with
            | false => rfl
            | true =>
              rw [okz.word.mpr hh] at c1'
              exact absurd c1' hnd
          obtain ⟨xs5, ex5, g5⟩ := hEz.five hact
          refine ⟨_, rfl, _, rfl, ed, _, rfl, dg, z.1, xs5, 5, _, rfl, rfl, SqT.of ex5, g5, _, rfl, rfl, _, rfl, ?_⟩
          refine ite2 (fun c2 => ?_) (fun c2 => ?_)
          · have c2' : z.2.of = m := by
              have := of_decide_eq_true c2
              injection this
            have hyes : onAny ws m z.2 = true := by
              unfold onAny
              rw [decide_eq_true c1', decide_eq_true c2']
              rfl
            refine ⟨_, rfl, _, eD, small1000 ?_, ?_, fun b o e => ?_⟩
            · have h1 := List.length_filter_le (onAny ws m) ((ens zs).take i)
              have h3 := hE.len
              rw [List.length_map]
              rw [List.length_take, List.length_map] at h1
              omega
            · rw [upd_same, et, List.filter_append]
              simp [hyes, kV]
            · rw [upd_ne (ne_of_none e nD)]
              exact sm _ _ e
          · refine out ?_
            have c2' : ¬ z.2.of = m := fun z0 => c2 (decide_eq_true (by rw [z0]))
            unfold onAny
            rw [decide_eq_false c2', Bool.and_false]
        · refine iteF (out ?_)
          have c1' : ¬ z.2.word ∈ ws := fun z0 => c1 (decide_eq_true z0)
          unfold onAny
          rw [decide_eq_false c1', Bool.false_and]
    · rintro H' ⟨eD, sm⟩
      have el : (ens zs).take (dks zs).length = ens zs := List.take_of_length_le (by rw [List.length_map, List.length_map]; exact Nat.le_refl _)
      rw [el] at eD
      have hed := sm _ _ hLe
      refine ⟨hed, ?_⟩
      have smU : Same H (upd H' ed (.dK (dks zs))) := fun b o e => by
        by_cases hb : b = ed
        · rw [hb] at e ⊢
          rw [upd_same, ← hE.at_]
          exact e
        · rw [upd_ne hb]
          exact sm _ _ (hL b o hb e)
      have eDU : (upd H' ed (.dK (dks zs))) D = some (.lst (((((ens zs).filter (onAny ws m)).map (·.num))).map V.int)) := by
        rw [upd_ne nDe.symm, eD, List.map_map]
        rfl
      generalize (upd H' ed (.dK (dks zs))) = HU at smU eDU
      refine ⟨D, _, rfl, SqL.of eDU, fun ns p pm up np => ?_⟩
      exact q p ns _ (smU.trans fun b o e => by rw [upd_ne (ne_of_none e np)]; exact e) (smU.free np) upd_same pm up
end
end Deed

namespace Deed
open PySem PySem.Spec PyProof.Rows L2 LamX
section
variable {P : Program} {w : World} {K : PySem.W.Frag} {mg : Str → Option Value} {base : Heap} {T : List (Addr × Str)} {fOp fOf fFo fDr : Addr} {dOp dOf dFo dDr : FuncData}
abbrev OpenD (K : PySem.W.Frag) (mg : Str → Option Value) := Df K mg "_law_open" sOpen nOpen
abbrev OfD (K : PySem.W.Frag) (mg : Str → Option Value) := Df K mg "_law_of" sOf pOf
/-! ### whether an act is in force, by itself -/
abbrev sForce : Stmt := topS 52
abbrev nForce : List Str := ["_law_entries_here", "_law_act", "_law_d", "_law_k", "_law_one"]
abbrev pForce : List Str := ["_law_entries_here", "_law_act", "_law_d", "_law_k"]
abbrev ForceD (K : PySem.W.Frag) (mg : Str → Option Value) := Df K mg "_law_force" sForce pForce
theorem scForce : FnScope nForce pForce (defScope sForce) := ⟨rfl, rfl, rfl, by decide +kernel, rfl, by decide +kernel, by decide +kernel⟩
def spForce (fu : Nat) : Sp := fun vs H Q _ => ∃ (ed : Addr) (e : En) (d k : Int) (n : Nat) (zs : List (Addr × En)), vs = [.ref ed, .int e.num, .int d, .int k] ∧ EdAt H ed n zs ∧ e ∈ ens zs ∧ (31 - e.num).toNat ≤ fu ∧ ∀ H', Same H H' → Q (.bl (frc (ens zs) d k e)) H'
theorem no_force {f : Addr} {fd : FuncData} {k : Nat} : FnOk P w K mg base CX0 k f fd pForce (spForce 0) := by
  have no : ∀ vs H Q E, ¬ spForce 0 vs H Q E := fun vs H Q E h => by
    obtain ⟨ed, e, d, k, n, zs, _, hE, he, hf, _⟩ := h
    have := hE.ok.rng e he
    omega
  exact ⟨fun vs H Q E h => absurd h (no vs H Q E), fun A outer s H args us vs Q E _ _ _ _ h => absurd h (no vs H Q E)⟩
theorem step_force {f : Addr} {fd : FuncData} {fu k : Nat} (D : ForceD K mg f fd) (DO : OpenD K mg fOp dOp) (DF : OfD K mg fOf dOf) (ms : mg "sorted" = none) (G : FnOk P w K mg base CX0 (k + 1) f fd pForce (spForce fu)) : FnOk P w K mg base CX0 (k + 2) f fd pForce (spForce (fu + 1)) := by
  have GO : FnOk P w K mg base CX0 (k + 1) fOp dOp nOpen spOpen := ok_open DO.F
  have GF : FnOk P w K mg base CX0 (k + 1) fOf dOf pOf spOf := ok_of DF.F ms
  refine D.F.ok scForce (fun vs H Q E h => ?_) (fun cdv A outer s H vs Q E hr h => ?_)
  · obtain ⟨ed, e, d, k, n, zs, rfl, _⟩ := h
    rfl
  · obtain ⟨ed, e, d, k', n, zs, rfl, hE, he, hf, q⟩ := h
    have hu := hu_of hr
    refine ⟨_, pss_cons (ps_if (pt_not (pt_val (pe_call GO hr (by rfl) DO.g DO.F.kp DO.b .nil pass0 (pa_cons (pe_dget hu (pv 0) (pv 1) (fun _ _ => rfl)) (pa_cons (pv 2) (pa_cons (pv 3) pa_nil)))))) (pss_one (ps_ret pe_bl)) pss_nil)
      (pss_one (ps_ret (pe_cmpR (op_eqD hr.units) (pe_lc (own := [("_law_one", 4)]) (g := gName 4) (by rfl) scForce.nd (pi_list (pe_call GF hr (by rfl) DF.g DF.F.kp DF.b .nil pass0 (pa_cons (pv 0) (pa_cons (pv 1) (pa_cons (pe_tup (pa_cons pe_str pa_nil)) pa_nil))))) (blkOk_by (own := [("_law_one", 4)]) (N := nForce) (sc := defScope sForce) (by decide +kernel)) (fun _ _ _ _ _ => pg_name (i := 4) scForce.nd rfl (Or.inl rfl))
        (fun _ _ _ _ _ => pts_one (pt_val (pe_call G hr (by rfl) D.g D.F.kp D.b .nil pass0 (pa_cons (pv 0) (pa_cons (pv 4) (pa_cons (pv 2) (pa_cons (pv 3) pa_nil))))))) (fun _ _ _ _ _ => pv 4)) (pe_lst pa_nil) (nomark _)))), ?_⟩
    obtain ⟨z, hz, rfl⟩ := List.mem_map.mp he
    refine ⟨_, rfl, _, rfl, ed, _, rfl, hE.get hz, _, rfl, _, rfl, z.1, z.2, d, k', rfl, hE.ent z hz, _, rfl, ?_⟩
    have fq := frc_eq hE.ok d k' he
    cases hop : isOpen d k' z.2 with
    | false =>
      refine iteT ?_
      rw [hop, Bool.false_and] at fq
      rw [fq] at q
      exact q H (Same.refl H)
    | true =>
      refine iteF ?_
      rw [hop, Bool.true_and] at fq
      refine ⟨_, rfl, _, rfl, (by show 1 ≤ sizeLine; decide), fun wa nwa => ?_⟩
      have s1 : Same H (upd H wa (.tup [.str "undone"])) := fun b o e => by rw [upd_ne (ne_of_none e nwa)]; exact e
      have e1 : (upd H wa (.tup [.str "undone"])) wa = some (.tup (([("undone" : Str)] : List Str).map V.str)) := upd_same
      generalize (upd H wa (.tup [.str "undone"])) = H1 at s1 e1
      refine ⟨ed, wa, z.2.num, ["undone"], n, zs, rfl, hE.same s1, e1, by decide, fun p ns H2 s2 np ep pm up => ?_⟩
      have s12 := s1.trans s2
      refine ⟨p, rfl, ⟨_, SqL.of ep⟩, fun D2 nD => ?_⟩
      refine lc_list (K := K) (a := p) (xs := ns.map V.int) (fun i H' => ∃ rs : List Int, H' D2 = some (.lst (rs.map V.int)) ∧ Same H2 H' ∧ rs.length ≤ i ∧ (rs = [] ↔ ∀ x ∈ ns.take i, ∀ u ∈ ens zs, u.num = x → frc (ens zs) d k' u = false)) ⟨[], upd_same, fun b o e => by rw [upd_ne (ne_of_none e nD)]; exact e, Nat.le_refl _, by simp⟩ (fun i H' _ h => ?_) ?_ ?_
      · obtain ⟨rs, _, sm, _⟩ := h
        exact SqL.of (sm _ _ ep)
      · rintro i x H' hx ⟨rs, eD, sm, hrl, hiff⟩
        rw [List.getElem?_map] at hx
        cases hn : ns[i]? with
        | none => rw [hn] at hx; cases hx
        | some m =>
          rw [hn] at hx
          injection hx with hx
          subst hx
          have hmm : m ∈ ((ens zs).filter (onAny ["undone"] z.2.num)).map (·.num) := pm.mem_iff.mp (List.mem_of_getElem? hn)
          obtain ⟨u, hu1, rfl⟩ := List.mem_map.mp hmm
          obtain ⟨hu2, hu3⟩ := List.mem_filter.mp hu1
          have hon : isOn "undone" z.2.num u = true := by
            unfold onAny at hu3
            unfold isOn
            simpa using hu3
          obtain ⟨h1, h2, h3⟩ := isOn_act (hE.ok.ok u hu2) (by decide) hon
          have lt := ((hE.ok.ok u hu2).of_lt h1).1
          have ru := hE.ok.rng u hu2
          have et := take_more hn
          have hlen : ns.length ≤ 16 := by
            rw [pm.length_eq, List.length_map]
            have a1 := List.length_filter_le (onAny ["undone"] z.2.num) (ens zs)
            rw [List.length_map] at a1
            have a2 := hE.len
            omega
          have hi : i < ns.length := (List.getElem?_eq_some_iff.mp hn).1
          refine ⟨rfl, _, rfl, _, rfl, _, rfl, _, rfl, ed, u, d, k', n, zs, rfl, (hE.same s12).same sm, hu2, by omega, fun H3 s3 => ⟨_, rfl, ?_⟩⟩
          cases hfr : frc (ens zs) d k' u with
          | true =>
            refine iteT ?_
            refine ⟨_, rfl, _, s3 _ _ eD, small1000 (by rw [List.length_map]; omega), rs ++ [u.num], ?_, fun b o e => ?_, ?_, ?_⟩
            · rw [upd_same, List.map_append]
              rfl
            · rw [upd_ne (ne_of_none e nD)]
              exact s3 _ _ (sm _ _ e)
            · rw [List.length_append]
              show rs.length + 1 ≤ i + 1
              omega
            · constructor
              · intro h
                exact absurd h (by simp)
              · intro h
                have := h u.num (by rw [et]; exact List.mem_append_right _ List.mem_cons_self) u hu2 rfl
                rw [hfr] at this
                cases this
          | false =>
            refine iteF ?_
            refine ⟨rs, s3 _ _ eD, sm.trans s3, by omega, ?_⟩
            rw [hiff, et]
            constructor
            · intro h x hx u' hu' he'
              rcases List.mem_append.mp hx with hx | hx
              · exact h x hx u' hu' he'
              · rw [List.mem_singleton.mp hx] at he'
                rw [num_inj hE.ok hu' hu2 he']
                exact hfr
            · intro h x hx u' hu' he'
              exact h x (List.mem_append_left _ hx) u' hu' he'
      · rintro H' ⟨rs, eD, sm, hrl, hiff⟩
        have el : ns.take (ns.map V.int).length = ns := List.take_of_length_le (by rw [List.length_map]; exact Nat.le_refl _)
        rw [el] at hiff
        refine ⟨Nat.zero_le _, fun g ng => ?_⟩
        have s3 : Same H' (upd H' g (.lst [])) := fun b o e => by rw [upd_ne (ne_of_none e ng)]; exact e
        have eg : (upd H' g (.lst [])) g = some (.lst []) := upd_same
        refine ⟨.list (rs.map .int), .list (([] : List Int).map .int), .lst (SqL.of (s3 _ _ eD)) (dp_ints rs), .lst (SqL.of eg) (dp_ints []), shaped_ints rs, shaped_ints [], ?_⟩
        rw [eqv_ints]
        have fin : decide (rs = []) = frc (ens zs) d k' z.2 := by
          rw [fq, Bool.eq_iff_iff, decide_eq_true_iff, hiff, List.all_eq_true]
          constructor
          · intro h u hu
            cases ho : isOn "undone" z.2.num u with
            | false => rfl
            | true =>
              have hm : u.num ∈ ns := pm.mem_iff.mpr (List.mem_map.mpr ⟨u, List.mem_filter.mpr ⟨hu, by
                unfold isOn at ho
                unfold onAny
                simpa using ho⟩, rfl⟩)
              rw [h u.num hm u hu rfl]
              rfl
          · intro h x hx u hu he'
            obtain ⟨u', hu1, hu2⟩ := List.mem_map.mp (pm.mem_iff.mp hx)
            obtain ⟨hu3, hu4⟩ := List.mem_filter.mp hu1
            have ee : u = u' := num_inj hE.ok hu hu3 (he'.trans hu2.symm)
            subst ee
            have ho : isOn "undone" z.2.num u = true := by
              unfold onAny at hu4
              unfold isOn
              simpa using hu4
            have := h u hu
            rw [ho, Bool.true_and] at this
            simpa using this
        rw [fin]
        exact q _ (s12.trans (sm.trans s3))
theorem ok_force {f : Addr} {fd : FuncData} (D : ForceD K mg f fd) (DO : OpenD K mg fOp dOp) (DF : OfD K mg fOf dOf) (ms : mg "sorted" = none) : ∀ fu : Nat, FnOk P w K mg base CX0 (fu + 1) f fd pForce (spForce fu)
  | 0 => no_force
  | fu + 1 => step_force D DO DF ms (ok_force D DO DF ms fu)
end
end Deed

namespace Deed
open PySem PySem.Spec PyProof.Rows L2 LamX
theorem putK_new {kvs : List (Key × V)} {k : Key} {v : V} (h : k ∉ kvs.map (·.1)) : putK kvs k v = kvs ++ [(k, v)] := by
  unfold putK
  rw [if_neg]
  intro z
  obtain ⟨kv, h1, h2⟩ := List.any_eq_true.mp z
  exact h (List.mem_map.mpr ⟨kv, h1, of_decide_eq_true h2⟩)
theorem mergeK_new : ∀ (more kvs : List (Key × V)), ((kvs ++ more).map (·.1)).Nodup → mergeK kvs more = kvs ++ more
  | [], kvs, _ => (List.append_nil kvs).symm
  | (k, v) :: r, kvs, h => by
    show mergeK (putK kvs k v) r = kvs ++ (k, v) :: r
    have hk : k ∉ kvs.map (·.1) := fun z => by
      rw [List.map_append, List.nodup_append] at h
      exact h.2.2 k z k List.mem_cons_self rfl
    rw [putK_new hk, mergeK_new r (kvs ++ [(k, v)]) (by rw [List.append_assoc]; exact h), List.append_assoc]
    rfl
theorem dks_nodup {zs : List (Addr × En)} (h : ((ens zs).map (·.num)).Nodup) : ((dks zs).map (·.1)).Nodup := by
  have e : (dks zs).map (·.1) = ((ens zs).map (·.num)).map (Sum.inl : Int → Key) := by
    simp [dks, ens, List.map_map, Function.comp_def]
  rw [e]
  exact List.pairwise_map.mpr (h.imp fun hne e => hne (Sum.inl.inj e))
theorem paired_mono {α β : Type} {F G : α → β → Prop} {l : List α} {m : List β} (h : Paired F l m) (i : ∀ a b, F a b → G a b) : Paired G l m := by
  induction h with
  | nil => exact .nil
  | cons a _ ih => exact .cons (i _ _ a) ih
section
variable {P : Program} {w : World} {K : PySem.W.Frag} {mg : Str → Option Value} {base : Heap} {T : List (Addr × Str)} {fDr : Addr} {dDr : FuncData}
/-! ### the entries as a dict -/
abbrev sEnts : Stmt := topS 55
abbrev nEnts : List Str := ["_law_book_here", "_law_entry_here"]
theorem scEnts : FnScope nEnts ["_law_book_here"] (defScope sEnts) := ⟨rfl, rfl, rfl, by decide +kernel, rfl, by decide +kernel, by decide +kernel⟩
def spEnts : Sp := fun vs H Q _ => ∃ (b fk t : Addr) (n : Nat) (age : Int) (zs : List (Addr × En)), vs = [.ref b] ∧ BookAt H b fk t n age zs ∧ ∀ ed H', Same H H' → H ed = none → EdAt H' ed n zs → Q (.ref ed) H'
theorem ok_ents {f : Addr} {fd : FuncData} {k : Nat} (F : Fun K "_law_entries" "_law_entries" sEnts f fd) (md : mg "dict" = none) : FnOk P w K mg base CX0 (k + 1) f fd ["_law_book_here"] spEnts := by
  refine F.ok scEnts (fun vs H Q E h => ?_) (fun cdv A outer s H vs Q E hr h => ?_)
  · obtain ⟨b, fk, t, n, age, zs, rfl, _⟩ := h
    rfl
  · obtain ⟨b, fk, t, n, age, zs, rfl, hB, q⟩ := h
    refine ⟨_, pss_one (ps_ret (pe_callTy (call_dictP rfl) (by rfl) md (by decide +kernel) (pa_cons (pe_lc (own := [("_law_entry_here", 1)]) (g := gName 1) (by rfl) scEnts.nd (pi_tup (pe_ix ix_tup (pv 0) pe_int (fun _ _ => rfl))) (blkOk_by (own := [("_law_entry_here", 1)]) (N := nEnts) (sc := defScope sEnts) (by decide +kernel)) (fun _ _ _ _ _ => pg_name (i := 1) scEnts.nd rfl (Or.inl rfl)) (fun _ _ _ _ _ => pts_nil)
      (fun _ _ _ _ _ => show PE _ _ (tTup (tCons (tOp (rIxT K) (tVar 1) (tC (.int 0))) (tCons (tVar 1) tNil))) from pe_tup (pa_cons (pe_ix ix_tup (pv 1) pe_int (fun _ _ => rfl)) (pa_cons (pv 1) pa_nil)))) pa_nil))), ?_⟩
    refine ⟨_, rfl, b, _, 2, _, rfl, rfl, SqT.of hB.at_, atI_nat (j := 2) rfl, t, rfl, ⟨_, SqT.of hB.ents⟩, fun D nD => ?_⟩
    refine lc_tup (K := K) (a := t) (xs := refs zs) (fun i H' => ∃ ps : List Addr, H' D = some (.lst (ps.map V.ref)) ∧ Same H H' ∧ ps.length = i ∧ Paired (fun p (kv : Key × V) => H' p = some (.tup [kV kv.1, kv.2])) ps (dks (zs.take i))) ⟨[], upd_same, fun b o e => by rw [upd_ne (ne_of_none e nD)]; exact e, rfl, .nil⟩ (fun i H' _ h => ?_) ?_ ?_
    · obtain ⟨_, _, sm, _⟩ := h
      exact SqT.of (sm _ _ hB.ents)
    · rintro i x H' hx ⟨ps, eD, sm, hpl, hpr⟩
      obtain ⟨z, hz, rfl⟩ := ref_at hx
      have hzm : z ∈ zs := List.mem_of_getElem? hz
      have hi : i < zs.length := (List.getElem?_eq_some_iff.mp hz).1
      obtain ⟨xs, ex, g0, _⟩ := ((hB.ent z hzm).kp (Same.tup sm)).tup
      refine ⟨rfl, ?_⟩
      unfold tYes
      dsimp only
      rw [if_pos rfl]
      refine ⟨_, rfl, z.1, xs, 0, _, rfl, rfl, SqT.of ex, g0, _, rfl, (by show 2 ≤ sizeLine; decide), fun r nr => ?_⟩
      have nrD : D ≠ r := ne_of_none eD nr
      have len := hB.len
      refine ⟨_, by rw [upd_ne nrD]; exact eD, small1000 (by rw [List.length_map]; omega), ps ++ [r], ?_, fun b o e => ?_, ?_, ?_⟩
      · rw [upd_same, List.map_append]
        rfl
      · rw [upd_ne (ne_of_none e nD), upd_ne (ne_of_none (sm _ _ e) nr)]
        exact sm _ _ e
      · rw [List.length_append, hpl]
        rfl
      · have e1 : dks (zs.take (i + 1)) = dks (zs.take i) ++ [(Sum.inl z.2.num, V.ref z.1)] := by
          rw [take_more hz]
          simp [dks]
        rw [e1]
        refine Paired.snoc (paired_mono hpr fun p kv hp => ?_) ?_
        · rw [upd_ne (fun z0 => by rw [z0, eD] at hp; cases hp), upd_ne (ne_of_none hp nr)]
          exact hp
        · rw [upd_ne nrD.symm, upd_same]
          rfl
    · rintro H' ⟨ps, eD, sm, hpl, hpr⟩
      have el : zs.take (refs zs).length = zs := List.take_of_length_le (by rw [List.length_map]; exact Nat.le_refl _)
      rw [el] at hpr
      refine ⟨D, ps, dks zs, rfl, SqL.of eD, paired_mono hpr fun p kv hp => SqT.of hp, fun ed ned => ?_⟩
      have s2 : Same H' (upd H' ed (.dK (mergeK [] (dks zs)))) := fun b o e => by rw [upd_ne (ne_of_none e ned)]; exact e
      have e2 : mergeK [] (dks zs) = dks zs := mergeK_new (dks zs) [] (by rw [List.nil_append]; exact dks_nodup hB.ok.nd)
      refine q ed _ (sm.trans s2) (sm.free ned) ⟨?_, fun z hz => (hB.ent z hz).kp (Same.tup (sm.trans s2)), hB.ok, hB.len⟩
      rw [upd_same, e2]
/-! ### a day and a known day -/
abbrev sDays : Stmt := topS 56
abbrev nDays : List Str := ["_law_pen_here", "_law_book_here", "_law_found", "_law_at", "_law_some", "_law_entry_here"]
abbrev pDays : List Str := ["_law_pen_here", "_law_book_here"]
theorem scDays : FnScope nDays pDays (defScope sDays) := ⟨rfl, rfl, rfl, by decide +kernel, rfl, by decide +kernel, by decide +kernel⟩
def spDays : Sp := fun vs H Q _ => ∃ (p b fk t : Addr) (n : Nat) (age : Int) (zs : List (Addr × En)), vs = [.ref p, .ref b] ∧ PenAt H p ∧ BookAt H b fk t n age zs ∧
  ∀ (a : Addr) (d k : Int) H', Kp p H H' → PenAt H' p → H' a = some (.tup [.int d, .int k]) → (0 ≤ d ∧ d ≤ 9999) → (0 ≤ k ∧ k ≤ 9999) → Q (.ref a) H'
theorem ok_days {f : Addr} {fd : FuncData} {k : Nat} (F : Fun K "_law_days" "_law_days" sDays f fd) (D : DrawD K mg fDr dDr) (B : Bi mg) : FnOk P w K mg base CX0 (k + 2) f fd pDays spDays := by
  have G : FnOk P w K mg base CX0 (k + 1) fDr dDr ["_law_pen_here", "_law_bound"] spDraw := ok_draw D.F
  refine F.ok scDays (fun vs H Q E h => ?_) (fun cdv A outer s H vs Q E hr h => ?_)
  · obtain ⟨p, b, fk, t, n, age, zs, rfl, _⟩ := h
    rfl
  · obtain ⟨p, b, fk, t, n, age, zs, rfl, hP, hB, q⟩ := h
    refine ⟨_, pss_cons (ps_set (i := 2) scDays.nd rfl (.inl rfl) (pe_lst pa_nil))
      (pss_cons (ps_for PassesOwn.never rfl (pi_tup (pe_tup (pa_cons pe_int (pa_cons pe_int pa_nil)))) (pg_name (i := 3) scDays.nd rfl (.inr rfl))
        (pss_cons (ps_set (i := 4) scDays.nd rfl (.inl rfl) (pe_op op_cat (pe_lc (own := [("_law_entry_here", 5)]) (g := gName 5) (by rfl) scDays.nd (pi_tup (pe_ix ix_tup (pv 1) pe_int (fun _ _ => rfl))) (blkOk_by (own := [("_law_entry_here", 5)]) (N := nDays) (sc := defScope sDays) (by decide +kernel)) (fun _ _ _ _ _ => pg_name (i := 5) scDays.nd rfl (Or.inl rfl)) (fun _ _ _ _ _ => pts_nil)
            (fun _ _ _ _ _ => show PE _ _ (tOp (rIxT K) (tVar 5) (tVar 3)) from pe_ix ix_tup (pv 5) (pv 3) (fun _ _ => rfl))) (pe_lst (pa_cons pe_int (pa_cons pe_int (pa_cons (pe_call G hr (by rfl) D.g D.F.kp D.b .nil pass0 (pa_cons (pv 0) (pa_cons pe_int pa_nil))) pa_nil))))))
        (pss_one (ps_expr (pe_bm PySem.F.plainAttrs_list PySem.F.slot_list_append PySem.F.type_list_append mt_append (pv 2) (pa_cons (pe_callB (call_max2 rfl) (by rfl) B.max (by decide +kernel) (pa_cons pe_int (pa_cons (pe_op op_sub (pe_ix ix_list (pv 4) (pe_call G hr (by rfl) D.g D.F.kp D.b .nil pass0 (pa_cons (pv 0) (pa_cons (pe_callB call_len_seq (by rfl) B.len PySem.boot_len (pa_cons (pv 4) pa_nil)) pa_nil))) (fun _ _ => rfl)) (pe_callTy call_int1 (by rfl) B.int (by decide +kernel) (pa_cons (pe_cmpR op_eq (pe_call G hr (by rfl) D.g D.F.kp D.b .nil pass0 (pa_cons (pv 0) (pa_cons pe_int pa_nil))) pe_int (nomark _)) pa_nil))) pa_nil))) pa_nil))))))
      (pss_one (ps_ret (pe_tup (pa_cons (pe_ix ix_list (pv 2) pe_int (fun _ _ => rfl)) (pa_cons (pe_ix ix_list (pv 2) pe_int (fun _ _ => rfl)) pa_nil)))))), ?_⟩
    refine ⟨Nat.zero_le _, fun l nl => ?_⟩
    have k1 : Kp p H (upd H l (.lst [])) := Kp.new nl _
    have P1 := hP.new nl (.lst [])
    have el : (upd H l (.lst [])) l = some (.lst []) := upd_same
    have npl : l ≠ p := hP.free nl
    generalize (upd H l (.lst [])) = H1 at k1 P1 el
    refine ⟨(by show 2 ≤ sizeLine; decide), fun tt ntt => ?_⟩
    have k2 : Kp p H1 (upd H1 tt (.tup [.int 1, .int 2])) := Kp.new ntt _
    have P2 := P1.new ntt (.tup [.int 1, .int 2])
    have ett : (upd H1 tt (.tup [.int 1, .int 2])) tt = some (.tup [.int 1, .int 2]) := upd_same
    have el2 := k2 _ _ npl el
    generalize (upd H1 tt (.tup [.int 1, .int 2])) = H2 at k2 P2 ett el2
    refine ⟨tt, rfl, ⟨_, SqT.of ett⟩, ?_⟩
    refine for_tup (K := K) (a := tt) (xs := [.int 1, .int 2]) (fun i σ H' => ∃ y3 y4 y5, ∃ ns : List Int, σ = [some (.ref p), some (.ref b), some (.ref l), y3, y4, y5] ∧ KpT H2 H' ∧ Kp p H H' ∧ PenAt H' p ∧ H' l = some (.lst (ns.map V.int)) ∧ ns.length = i ∧ ∀ x ∈ ns, 0 ≤ x ∧ x ≤ 9999)
      ⟨none, none, none, [], rfl, KpT.refl _, k1.trans k2, P2, el2, rfl, fun _ h => nomatch h⟩ (fun i σ H' _ h => ?_) ?_ ?_
    · obtain ⟨_, _, _, _, _, kT, _⟩ := h
      exact SqT.of (kT _ _ ett)
    · rintro i x σ H' hx ⟨y3, y4, y5, ns, rfl, kT, kH, P', el', hnl, hns⟩
      obtain ⟨at', hat, rfl⟩ : ∃ at' : Int, (at' = 1 ∨ at' = 2) ∧ x = .int at' := by
        have hm : x ∈ [V.int 1, V.int 2] := List.mem_of_getElem? hx
        rcases List.mem_cons.mp hm with e | hm
        · exact ⟨1, .inl rfl, e⟩
        · exact ⟨2, .inr rfl, List.mem_singleton.mp hm⟩
      have hi2 : i < 2 := (List.getElem?_eq_some_iff.mp hx).1
      have hB' : BookAt H' b fk t n age zs := hB.kp (fun b0 xs0 e0 => kH _ _ (hP.ne e0 fun _ z => by cases z) e0)
      -- the days of entries
      refine ⟨_, rfl, b, _, 2, _, rfl, rfl, SqT.of hB'.at_, atI_nat (j := 2) rfl, t, rfl, ⟨_, SqT.of hB'.ents⟩, fun M nM => ?_⟩
      refine lc_tup (K := K) (a := t) (xs := refs zs) (fun i H'' => ∃ ms : List Int, H'' M = some (.lst (ms.map V.int)) ∧ Same H' H'' ∧ ms.length = i ∧ ∀ x ∈ ms, 0 ≤ x ∧ x ≤ 9999) ⟨[], upd_same, fun b o e => by rw [upd_ne (ne_of_none e nM)]; exact e, rfl, fun _ h => nomatch h⟩ (fun i H' _ h => ?_) ?_ ?_
      · obtain ⟨_, _, sm, _⟩ := h
        exact SqT.of (sm _ _ hB'.ents)
      · rintro j x H3 hx ⟨ms, eM, sm, hml, hms⟩
        obtain ⟨z, hz, rfl⟩ := ref_at hx
        have hzm : z ∈ zs := List.mem_of_getElem? hz
        have hj : j < zs.length := (List.getElem?_eq_some_iff.mp hz).1
        have len := hB.len
        have oz := hB.ok.ok z.2 (List.mem_map.mpr ⟨z, hzm, rfl⟩)
        obtain ⟨xs, ex, _, g1, g2, _⟩ := ((hB'.ent z hzm).kp (Same.tup sm)).tup
        obtain ⟨v, gv, hv⟩ : ∃ v : Int, atI xs at' = some (.int v) ∧ 0 ≤ v ∧ v ≤ 9999 := by
          rcases hat with rfl | rfl
          · exact ⟨_, g1, oz.1⟩
          · exact ⟨_, g2, oz.2.1⟩
        refine ⟨rfl, ?_⟩
        unfold tYes
        dsimp only
        rw [if_pos rfl]
        refine ⟨_, rfl, _, rfl, z.1, xs, at', _, rfl, rfl, SqT.of ex, gv, _, eM, small1000 (by rw [List.length_map]; omega), ms ++ [v], ?_, fun b o e => ?_, ?_, fun y hy => ?_⟩
        · rw [upd_same, List.map_append]
          rfl
        · rw [upd_ne (ne_of_none e nM)]
          exact sm _ _ e
        · rw [List.length_append, hml]
          rfl
        · rcases List.mem_append.mp hy with hy | hy
          · exact hms y hy
          · rw [List.mem_singleton.mp hy]
            exact hv
      rintro H3 ⟨ms, eM, sm, hml, hms⟩
      have len := hB.len
      have hml' : ms.length ≤ 16 := by rw [hml, List.length_map]; exact len
      have P3 : PenAt H3 p := by
        obtain ⟨x1, x2, x3, x4, z1, z2⟩ := P'
        exact ⟨x1, x2, x3, x4, sm _ _ z1, z2⟩
      have k3 : Kp p H' H3 := Kp.same sm
      refine ⟨_, rfl, p, 50, rfl, P3, by decide, by decide, fun v4 H4 k4 P4 a4 b4 => ?_⟩
      refine ⟨(by show 3 ≤ sizeLine; decide), fun N nN => ?_⟩
      have k5 : Kp p H4 (upd H4 N (.lst [.int 0, .int 9999, .int v4])) := Kp.new nN _
      have P5 := P4.new nN (.lst [.int 0, .int 9999, .int v4])
      have eN : (upd H4 N (.lst [.int 0, .int 9999, .int v4])) N = some (.lst (([0, 9999, v4] : List Int).map V.int)) := upd_same
      have nMp : M ≠ p := P'.free nM
      have eM5 := k5 _ _ nMp (k4 _ _ nMp eM)
      generalize (upd H4 N (.lst [.int 0, .int 9999, .int v4])) = H5 at k5 P5 eN eM5
      refine ⟨M, N, _, _, rfl, rfl, eM5, eN, ?_, fun S nS => ?_⟩
      · rw [List.length_map, List.length_map]
        exact Nat.le_of_lt (small1000 (by show ms.length + 3 ≤ 1000; omega))
      have k6 : Kp p H5 (upd H5 S (.lst (ms.map V.int ++ ([0, 9999, v4] : List Int).map V.int))) := Kp.new nS _
      have P6 := P5.new nS (.lst (ms.map V.int ++ ([0, 9999, v4] : List Int).map V.int))
      have nSp : S ≠ p := P5.free nS
      have eS : (upd H5 S (.lst (ms.map V.int ++ ([0, 9999, v4] : List Int).map V.int))) S = some (.lst ((ms ++ [0, 9999, v4]).map V.int)) := by rw [upd_same, List.map_append]
      generalize (upd H5 S (.lst (ms.map V.int ++ ([0, 9999, v4] : List Int).map V.int))) = H6 at k6 P6 eS
      have hss : ∀ x ∈ ms ++ [0, 9999, v4], 0 ≤ x ∧ x ≤ 9999 := fun x hx => by
        rcases List.mem_append.mp hx with hx | hx
        · exact hms x hx
        · simp only [List.mem_cons, List.not_mem_nil, or_false] at hx
          rcases hx with rfl | rfl | rfl <;> omega
      have hsl : (ms ++ [0, 9999, v4]).length = ms.length + 3 := by simp
      generalize ms ++ [0, 9999, v4] = ss at eS hss hsl
      have k36 : Kp p H' H6 := k3.trans (k4.trans (k5.trans k6))
      have el6 := k36 _ _ npl el'
      have hslm : (ss.map V.int).length = ss.length := List.length_map _
      refine ⟨_, rfl, .inl ⟨rfl, _, SqL.of el6⟩, _, rfl, _, rfl, _, rfl, S, _, rfl, .inl (SqL.of eS), p, _, rfl, P6, by omega, by omega, fun v7 H7 k7 P7 a7 b7 => ?_⟩
      rw [hslm] at b7
      have hk7 : v7.toNat < ss.length := by omega
      refine ⟨S, _, v7, .int ss[v7.toNat], rfl, rfl, SqL.of (k7 _ _ nSp eS), at_of (j := v7.toNat) (by omega) (by rw [List.getElem?_map, List.getElem?_eq_getElem hk7] <;> rfl), ?_⟩
      have hv7 := hss _ (List.getElem_mem hk7)
      generalize ss[v7.toNat] = w7 at hv7
      refine ⟨_, rfl, p, 4, rfl, P7, by decide, by decide, fun v8 H8 k8 P8 a8 b8 => ?_⟩
      refine ⟨rfl, .inr ⟨_, rfl, _, _, rfl, rfl, _, _, rfl, ?_⟩⟩
      obtain ⟨m, em, hm⟩ : ∃ m : Int, (if w7 - (if decide (V.int v8 = V.int 0) = true then 1 else 0) > 0 then w7 - (if decide (V.int v8 = V.int 0) = true then 1 else 0) else 0) = m ∧ 0 ≤ m ∧ m ≤ 9999 := ⟨_, rfl, by split <;> split <;> omega, by split <;> split <;> omega⟩
      dsimp only
      rw [em]
      have k78 := k36.trans (k7.trans k8)
      have el8 := k78 _ _ npl el'
      refine ⟨l, _, _, rfl, rfl, el8, small1000 (by rw [List.length_map]; omega), ?_⟩
      refine ⟨_, _, _, ns ++ [m], rfl, fun b0 xs0 e0 => ?_, ?_, P8.put npl _, ?_, ?_, fun y hy => ?_⟩
      · have e1 := k78.tup P' _ _ (kT _ _ e0)
        rw [upd_ne (fun z0 => by rw [z0, el8] at e1; cases e1)]
        exact e1
      · exact (kH.trans k78).over nl _
      · rw [upd_same, List.map_append]
        rfl
      · rw [List.length_append, hnl]
        rfl
      · rcases List.mem_append.mp hy with hy | hy
        · exact hns y hy
        · rw [List.mem_singleton.mp hy]
          exact hm
    · rintro σ H' ⟨y3, y4, y5, ns, rfl, kT, kH, P', el', hnl, hns⟩
      match ns, hnl, hns, el' with
      | [d, kk], _, hns, el' =>
        refine ⟨_, rfl, l, _, 0, _, rfl, rfl, SqL.of el', atI_nat (j := 0) rfl, _, rfl, l, _, 1, _, rfl, rfl, SqL.of el', atI_nat (j := 1) rfl, (by show 2 ≤ sizeLine; decide), fun a na => ?_⟩
        exact q a d kk _ (kH.trans (Kp.new na _)) (P'.new na _) upd_same (hns d List.mem_cons_self) (hns kk (List.mem_cons_of_mem _ List.mem_cons_self))
end
end Deed

namespace Deed
open PySem PySem.Spec PyProof.Rows L2 LamX
section
variable {P : Program} {w : World} {K : PySem.W.Frag} {mg : Str → Option Value} {base : Heap} {T : List (Addr × Str)} {fW fI fY fA : Addr} {dW dI dY dA : FuncData}
/-! ### whole numbers, days: where they are such -/
abbrev sWhole : Stmt := topS 8
theorem scWhole : FnScope ["thing"] ["thing"] (defScope sWhole) := ⟨rfl, rfl, rfl, by decide +kernel, rfl, by decide +kernel, by decide +kernel⟩
def spWholeI : Sp := fun vs H Q _ => ∃ i : Int, vs = [.int i] ∧ Q (.bl true) H
theorem ok_wholeI {f : Addr} {fd : FuncData} {k : Nat} (F : Fun K "is_whole" "is_whole" sWhole f fd) (mi : mg "isinstance" = none) (mn : mg "int" = none) (mb : mg "bool" = none) : FnOk P w K mg base CX0 (k + 1) f fd ["thing"] spWholeI := by
  refine F.ok scWhole (fun vs H Q E h => ?_) (fun cdv A outer s H vs Q E hr h => ?_)
  · obtain ⟨i, rfl, _⟩ := h
    rfl
  · obtain ⟨i, rfl, q⟩ := h
    refine ⟨_, pss_one (ps_ret (pe_and (pe_callB call_isi (by rfl) mi (by decide +kernel) (pa_cons (pv 0) (pa_cons (pe_bltn (v := .ty "int") (by rfl) mn (by decide +kernel) rfl) pa_nil))) (pe_one (pe_not (pe_callB call_isi (by rfl) mi (by decide +kernel) (pa_cons (pv 0) (pa_cons (pe_bltn (v := .ty "bool") (by rfl) mb (by decide +kernel) rfl) pa_nil))))))), ?_⟩
    refine ⟨_, rfl, _, _, _, _, true, rfl, .ty "int", .base (.int i), kit_ty (by decide +kernel), _, rfl, ?_⟩
    refine iteT ?_
    exact ⟨_, rfl, _, _, _, _, false, rfl, .ty "bool", .base (.int i), kit_ty (by decide +kernel), _, rfl, q⟩
abbrev sWithin : Stmt := topS 9
theorem scWithin : FnScope ["thing", "low", "high"] ["thing", "low", "high"] (defScope sWithin) := ⟨rfl, rfl, rfl, by decide +kernel, rfl, by decide +kernel, by decide +kernel⟩
def spWithinI : Sp := fun vs H Q _ => ∃ i lo hi : Int, vs = [.int i, .int lo, .int hi] ∧ lo ≤ i ∧ i ≤ hi ∧ Q (.bl true) H
theorem ok_withinI {f : Addr} {fd : FuncData} {k : Nat} (F : Fun K "is_within" "is_within" sWithin f fd) (DW : Df K mg "is_whole" sWhole ["thing"] fW dW) (mi : mg "isinstance" = none) (mn : mg "int" = none) (mb : mg "bool" = none) : FnOk P w K mg base CX0 (k + 2) f fd ["thing", "low", "high"] spWithinI := by
  have GW : FnOk P w K mg base CX0 (k + 1) fW dW ["thing"] spWholeI := ok_wholeI DW.F mi mn mb
  refine F.ok scWithin (fun vs H Q E h => ?_) (fun cdv A outer s H vs Q E hr h => ?_)
  · obtain ⟨i, lo, hi, rfl, _⟩ := h
    rfl
  · obtain ⟨i, lo, hi, rfl, h1, h2, q⟩ := h
    refine ⟨_, pss_one (ps_ret (pe_and (pe_call GW hr (by rfl) DW.g DW.F.kp DW.b .nil pass0 (pa_cons (pv 0) pa_nil)) (pe_one (pe_chain op_le op_le (pv 1) (pv 0) (pv 2))))), ?_⟩
    refine ⟨_, rfl, i, rfl, true, rfl, ?_⟩
    refine iteT ?_
    refine ⟨_, rfl, _, rfl, _, _, rfl, rfl, _, rfl, ?_⟩
    rw [decide_eq_true h1]
    refine iteT ?_
    refine ⟨_, rfl, _, _, rfl, rfl, ?_⟩
    dsimp only
    rw [decide_eq_true h2]
    exact q
abbrev sIsDay : Stmt := topS 10
theorem scIsDay : FnScope ["thing"] ["thing"] (defScope sIsDay) := ⟨rfl, rfl, rfl, by decide +kernel, rfl, by decide +kernel, by decide +kernel⟩
def spDayI : Sp := fun vs H Q _ => ∃ i : Int, vs = [.int i] ∧ 0 ≤ i ∧ i ≤ 9999 ∧ Q (.bl true) H
theorem ok_dayI {f : Addr} {fd : FuncData} {k : Nat} (F : Fun K "is_day" "is_day" sIsDay f fd) (DI : Df K mg "is_within" sWithin ["thing", "low", "high"] fI dI) (DW : Df K mg "is_whole" sWhole ["thing"] fW dW) (mi : mg "isinstance" = none) (mn : mg "int" = none) (mb : mg "bool" = none) (mL : MgInt mg "LAST_DAY" 9999) : FnOk P w K mg base CX0 (k + 3) f fd ["thing"] spDayI := by
  have GI : FnOk P w K mg base CX0 (k + 2) fI dI ["thing", "low", "high"] spWithinI := ok_withinI DI.F DW mi mn mb
  refine F.ok scIsDay (fun vs H Q E h => ?_) (fun cdv A outer s H vs Q E hr h => ?_)
  · obtain ⟨i, rfl, _⟩ := h
    rfl
  · obtain ⟨i, rfl, h0, h1, q⟩ := h
    refine ⟨_, pss_one (ps_ret (pe_call GI hr (by rfl) DI.g DI.F.kp DI.b .nil pass0 (pa_cons (pv 0) (pa_cons pe_int (pa_cons (pe_num (by rfl) mL) pa_nil))))), ?_⟩
    exact ⟨_, rfl, i, 0, 9999, rfl, h0, h1, q⟩
abbrev sCheckDay : Stmt := topS 20
theorem scCheckDay : FnScope ["thing"] ["thing"] (defScope sCheckDay) := ⟨rfl, rfl, rfl, by decide +kernel, rfl, by decide +kernel, by decide +kernel⟩
def spCkDay : Sp := fun vs H Q _ => ∃ i : Int, vs = [.int i] ∧ 0 ≤ i ∧ i ≤ 9999 ∧ Q .non H
theorem ok_ckDay {f : Addr} {fd : FuncData} {k : Nat} (F : Fun K "check_day" "check_day" sCheckDay f fd) (DY : Df K mg "is_day" sIsDay ["thing"] fY dY) (DI : Df K mg "is_within" sWithin ["thing", "low", "high"] fI dI) (DW : Df K mg "is_whole" sWhole ["thing"] fW dW) (mi : mg "isinstance" = none) (mn : mg "int" = none) (mb : mg "bool" = none) (mL : MgInt mg "LAST_DAY" 9999) : FnOk P w K mg base CX0 (k + 4) f fd ["thing"] spCkDay := by
  have GY : FnOk P w K mg base CX0 (k + 3) fY dY ["thing"] spDayI := ok_dayI DY.F DI DW mi mn mb mL
  refine F.ok scCheckDay (fun vs H Q E h => ?_) (fun cdv A outer s H vs Q E hr h => ?_)
  · obtain ⟨i, rfl, _⟩ := h
    rfl
  · obtain ⟨i, rfl, h0, h1, q⟩ := h
    refine ⟨_, pss_one (ps_if (pt_not (pt_val (pe_call GY hr (by rfl) DY.g DY.F.kp DY.b .nil pass0 (pa_cons (pv 0) pa_nil)))) pss_never pss_nil), ?_⟩
    refine ⟨_, rfl, i, rfl, h0, h1, _, rfl, ?_⟩
    exact iteF q
end
end Deed

namespace Deed
open PySem PySem.Spec PyProof.Rows L2 LamX
section
variable {P : Program} {w : World} {K : PySem.W.Frag} {mg : Str → Option Value} {base : Heap} {T : List (Addr × Str)} {fAe fOn : Addr} {dAe dOn : FuncData}
/-! ### the open acts -/
abbrev sOpenA : Stmt := topS 24
abbrev nOpenA : List Str := ["book", "d", "k", "act"]
theorem scOpenA : FnScope nOpenA ["book", "d", "k"] (defScope sOpenA) := ⟨rfl, rfl, rfl, by decide +kernel, rfl, by decide +kernel, by decide +kernel⟩
/-- the open acts, by their numbers -/
structure OpenActs (n : Nat) (es : List En) (d k : Int) (ys : List (Addr × En)) : Prop where
  mem : ∀ z ∈ ys, z.2 ∈ es ∧ z.2.isDeed = false ∧ isOpen d k z.2 = true
  all : ∀ u ∈ es, u.isDeed = false → isOpen d k u = true → ∃ z ∈ ys, z.2 = u
  up : ys.Pairwise (fun a b => a.2.num < b.2.num)
  len : ys.length ≤ 16
def spOpenA (T : List (Addr × Str)) : Sp := fun vs H Q _ => ∃ (b fk t : Addr) (n : Nat) (age : Int) (zs : List (Addr × En)) (d k : Int), vs = [.ref b, .int d, .int k] ∧ BookAt H b fk t n age zs ∧ Tabs T H ∧
  ∀ (p : Addr) (ys : List (Addr × En)) (H' : Hp), ExtN H H' → Tabs T H' → Fresh H p → H' p = some (.lst (refs ys)) → (∀ z ∈ ys, EntAt H' z.1 z.2) → OpenActs n (ens zs) d k ys → Q (.ref p) H'
def t_openA (K : PySem.W.Frag) : TT := tAnd (tTest (tOp (rI0 fun i j => .bl (decide (i ≤ j))) (tOp (rIxT K) (tVar 3) (tC (.int 2))) (tVar 2))) (tTest (tOp (rI0 fun i j => .bl (decide (i ≤ j))) (tOp (rIxT K) (tVar 3) (tC (.int 1))) (tVar 1)))
theorem ok_openA {f : Addr} {fd : FuncData} {k : Nat} (F : Fun K "open_acts" "open_acts" sOpenA f fd) (DE : Df K mg "act_entries" sActE ["book"] fAe dAe) (GE : FnOk P w K mg base CX0 (k + 3) fAe dAe ["book"] (spPick (fun e => !e.isDeed) T)) (mW : MgInt mg "WRITTEN" 2) (mD : MgInt mg "DAY" 1) :
    FnOk P w K mg base CX0 (k + 4) f fd ["book", "d", "k"] (spOpenA T) := by
  refine F.ok scOpenA (fun vs H Q E h => ?_) (fun cdv A outer s H vs Q E hr h => ?_)
  · obtain ⟨b, fk, t, n, age, zs, d, k, rfl, _⟩ := h
    rfl
  · obtain ⟨b, fk, t, n, age, zs, d, kk, rfl, hB, hT, q⟩ := h
    refine ⟨_, pss_one (ps_ret (pe_lc (own := [("act", 3)]) (g := gName 3) (by rfl) scOpenA.nd (pi_list (pe_call GE hr (by rfl) DE.g DE.F.kp DE.b .nil pass0 (pa_cons (pv 0) pa_nil))) (blkOk_by (own := [("act", 3)]) (N := nOpenA) (sc := defScope sOpenA) (by decide +kernel)) (fun _ _ _ _ _ => pg_name (i := 3) scOpenA.nd rfl (Or.inl rfl))
      (fun _ _ _ _ _ => show PTs _ _ (t_openA K) from pts_one (PW.pt (pw_and (pt_cmpR op_le (pe_ix ix_tup (pv 3) (pe_num (by rfl) mW) (fun _ _ => rfl)) (pv 2) (nomark _)) (pw_and1 (pt_cmpR op_le (pe_ix ix_tup (pv 3) (pe_num (by rfl) mD) (fun _ _ => rfl)) (pv 1) (nomark _)))))) (fun _ _ _ _ _ => pv 3))), ?_⟩
    refine ⟨_, rfl, b, fk, t, n, age, zs, rfl, hB, hT, fun p zs' H1 eN T1 fr ep pm so => ?_⟩
    have hent : ∀ z ∈ zs', EntAt H1 z.1 z.2 := fun z hz => (hB.ent z (pm.mem_iff.mp hz)).kp (ExtN.tup eN)
    have hmem : ∀ z ∈ zs'.filter (fun z => !z.2.isDeed), z ∈ zs' := fun z hz => (List.mem_filter.mp hz).1
    have hlen : (zs'.filter fun z => !z.2.isDeed).length ≤ 16 := by
      have h1 := List.length_filter_le (fun z : Addr × En => !z.2.isDeed) zs'
      have h2 := pm.length_eq
      have h3 := hB.len
      omega
    have hso : (zs'.filter fun z => !z.2.isDeed).Pairwise (fun a b => a.2.num < b.2.num) := so.filter _
    have hact : ∀ z ∈ zs'.filter (fun z => !z.2.isDeed), z.2.isDeed = false := fun z hz => by
      have := (List.mem_filter.mp hz).2
      simpa using this
    have hall : ∀ u ∈ ens zs, u.isDeed = false → ∃ z ∈ zs'.filter (fun z => !z.2.isDeed), z.2 = u := fun u hu hd => by
      obtain ⟨z, hz, rfl⟩ := List.mem_map.mp ((ens_perm pm u).mpr hu)
      exact ⟨z, List.mem_filter.mpr ⟨hz, by rw [hd]; rfl⟩, rfl⟩
    generalize (zs'.filter fun z => !z.2.isDeed) = as at ep hmem hlen hso hact hall
    refine ⟨p, rfl, ⟨_, SqL.of ep⟩, fun D nD => ?_⟩
    refine lc_list (K := K) (a := p) (xs := refs as) (fun i H' => H' D = some (.lst (refs ((as.take i).filter fun z => isOpen d kk z.2))) ∧ Same H1 H') ⟨upd_same, fun b o e => by rw [upd_ne (ne_of_none e nD)]; exact e⟩ (fun i H' _ h => SqL.of (h.2 _ _ ep)) ?_ ?_
    · rintro i x H' hx ⟨eD, sm⟩
      obtain ⟨z, hz, rfl⟩ := ref_at hx
      have hzm := List.mem_of_getElem? hz
      obtain ⟨xs, ex, _, g1, g2, _⟩ := ((hent z (hmem z hzm)).kp (Same.tup sm)).tup
      have et := take_more hz
      have out : ∀ hno : isOpen d kk z.2 = false, H' D = some (.lst (refs ((as.take (i + 1)).filter fun z => isOpen d kk z.2))) ∧ Same H1 H' := fun hno => by
        refine ⟨?_, sm⟩
        rw [eD, et, List.filter_append]
        simp [hno]
      refine ⟨rfl, _, rfl, z.1, xs, 2, _, rfl, rfl, SqT.of ex, g2, _, rfl, _, _, rfl, rfl, _, rfl, ?_⟩
      refine ite2 (fun c1 => ?_) (fun c1 => ?_)
      · have c1' : z.2.wri ≤ kk := of_decide_eq_true c1
        refine ⟨_, rfl, z.1, xs, 1, _, rfl, rfl, SqT.of ex, g1, _, rfl, _, _, rfl, rfl, _, rfl, ?_⟩
        refine ite2 (fun c2 => ?_) (fun c2 => ?_)
        · have c2' : z.2.day ≤ d := of_decide_eq_true c2
          have hyes : isOpen d kk z.2 = true := by
            unfold isOpen
            rw [decide_eq_true c1', decide_eq_true c2']
            rfl
          refine ⟨_, rfl, _, eD, small1000 ?_, ?_, fun b o e => ?_⟩
          · have h1 := List.length_filter_le (fun z : Addr × En => isOpen d kk z.2) (as.take i)
            rw [List.length_map]
            rw [List.length_take] at h1
            omega
          · rw [upd_same, et, List.filter_append]
            simp [hyes, refs]
          · rw [upd_ne (ne_of_none e nD)]
            exact sm _ _ e
        · refine out ?_
          have c2' : ¬ z.2.day ≤ d := fun z0 => c2 (decide_eq_true z0)
          unfold isOpen
          rw [decide_eq_false c2', Bool.false_and]
      · refine iteF (out ?_)
        have c1' : ¬ z.2.wri ≤ kk := fun z0 => c1 (decide_eq_true z0)
        unfold isOpen
        rw [decide_eq_false c1', Bool.and_false]
    · rintro H' ⟨eD, sm⟩
      have el : as.take (refs as).length = as := List.take_of_length_le (by rw [List.length_map]; exact Nat.le_refl _)
      rw [el] at eD
      have esub : ∀ z ∈ as.filter (fun z => isOpen d kk z.2), z ∈ as := fun z hz => (List.mem_filter.mp hz).1
      refine q D _ H' (eN.trans (.of sm)) (T1.ext sm) (Fresh.of eN nD) eD (fun z hz => (hent z (hmem z (esub z hz))).kp (Same.tup sm)) ⟨fun z hz => ⟨?_, hact z (esub z hz), (List.mem_filter.mp hz).2⟩, fun u hu hd ho => ?_, hso.filter _, ?_⟩
      · exact (ens_perm pm _).mp (List.mem_map.mpr ⟨z, hmem z (esub z hz), rfl⟩)
      · obtain ⟨z, hz, rfl⟩ := hall u hu hd
        exact ⟨z, List.mem_filter.mpr ⟨hz, ho⟩, rfl⟩
      · have h1 := List.length_filter_le (fun z : Addr × En => isOpen d kk z.2) as
        omega
/-! ### acts of a word upon a number -/
abbrev sActsOn : Stmt := topS 25
abbrev nActsOn : List Str := ["acts", "word", "number", "act"]
abbrev pActsOn : List Str := ["acts", "word", "number"]
theorem scActsOn : FnScope nActsOn pActsOn (defScope sActsOn) := ⟨rfl, rfl, rfl, by decide +kernel, rfl, by decide +kernel, by decide +kernel⟩
def spActsOn : Sp := fun vs H Q _ => ∃ (la : Addr) (x : Str) (m : Int) (ys : List (Addr × En)), vs = [.ref la, .str x, .int m] ∧ H la = some (.lst (refs ys)) ∧ (∀ z ∈ ys, EntAt H z.1 z.2 ∧ z.2.isDeed = false) ∧ ys.length ≤ 1000 ∧
  ∀ p H', Same H H' → H p = none → H' p = some (.lst (((ys.filter fun z => isOn x m z.2).map fun z => z.2.num).map V.int)) → Q (.ref p) H'
def t_on (K : PySem.W.Frag) : TT := tAnd (tTest (tOp rEq (tOp (rIxT K) (tVar 3) (tC (.int 4))) (tVar 1))) (tTest (tOp rEq (tOp (rIxT K) (tVar 3) (tC (.int 5))) (tVar 2)))
theorem ok_actsOn {f : Addr} {fd : FuncData} {k : Nat} (F : Fun K "acts_on" "acts_on" sActsOn f fd) (mW : MgInt mg "WORD" 4) (mO : MgInt mg "OF" 5) (mN : MgInt mg "NUMBER" 0) : FnOk P w K mg base CX0 (k + 1) f fd pActsOn spActsOn := by
  refine F.ok scActsOn (fun vs H Q E h => ?_) (fun cdv A outer s H vs Q E hr h => ?_)
  · obtain ⟨la, x, m, ys, rfl, _⟩ := h
    rfl
  · obtain ⟨la, x, m, ys, rfl, hl, hys, hlen, q⟩ := h
    refine ⟨_, pss_one (ps_ret (pe_lc (own := [("act", 3)]) (g := gName 3) (by rfl) scActsOn.nd (pi_list (pv 0)) (blkOk_by (own := [("act", 3)]) (N := nActsOn) (sc := defScope sActsOn) (by decide +kernel)) (fun _ _ _ _ _ => pg_name (i := 3) scActsOn.nd rfl (Or.inl rfl))
      (fun _ _ _ _ _ => show PTs _ _ (t_on K) from pts_one (PW.pt (pw_and (pt_cmpR op_eq (pe_ix ix_tup (pv 3) (pe_num (by rfl) mW) (fun _ _ => rfl)) (pv 1) (nomark _)) (pw_and1 (pt_cmpR op_eq (pe_ix ix_tup (pv 3) (pe_num (by rfl) mO) (fun _ _ => rfl)) (pv 2) (nomark _))))))
      (fun _ _ _ _ _ => show PE _ _ (tOp (rIxT K) (tVar 3) (tC (.int 0))) from pe_ix ix_tup (pv 3) (pe_num (by rfl) mN) (fun _ _ => rfl)))), ?_⟩
    refine ⟨_, rfl, la, rfl, ⟨_, SqL.of hl⟩, fun D nD => ?_⟩
    refine lc_list (K := K) (a := la) (xs := refs ys) (fun i H' => H' D = some (.lst ((((ys.take i).filter fun z => isOn x m z.2).map fun z => z.2.num).map V.int)) ∧ Same H H') ⟨upd_same, fun b o e => by rw [upd_ne (ne_of_none e nD)]; exact e⟩ (fun i H' _ h => SqL.of (h.2 _ _ hl)) ?_ ?_
    · rintro i y H' hx ⟨eD, sm⟩
      obtain ⟨z, hz, rfl⟩ := ref_at hx
      have hzm := List.mem_of_getElem? hz
      have hi : i < ys.length := (List.getElem?_eq_some_iff.mp hz).1
      have hEz := (hys z hzm).1.kp (Same.tup sm)
      obtain ⟨xs, ex, g0, _, _, _, g4⟩ := hEz.tup
      obtain ⟨xs5, ex5, g5⟩ := hEz.five (hys z hzm).2
      have et := take_more hz
      have out : ∀ hno : isOn x m z.2 = false, H' D = some (.lst ((((ys.take (i + 1)).filter fun z => isOn x m z.2).map fun z => z.2.num).map V.int)) ∧ Same H H' := fun hno => by
        refine ⟨?_, sm⟩
        rw [eD, et, List.filter_append]
        simp [hno]
      refine ⟨rfl, _, rfl, z.1, xs, 4, _, rfl, rfl, SqT.of ex, g4, _, rfl, rfl, _, rfl, ?_⟩
      refine ite2 (fun c1 => ?_) (fun c1 => ?_)
      · have c1' : z.2.word = x := by
          have := of_decide_eq_true c1
          injection this
        refine ⟨_, rfl, z.1, xs5, 5, _, rfl, rfl, SqT.of ex5, g5, _, rfl, rfl, _, rfl, ?_⟩
        refine ite2 (fun c2 => ?_) (fun c2 => ?_)
        · have c2' : z.2.of = m := by
            have := of_decide_eq_true c2
            injection this
          have hyes : isOn x m z.2 = true := by
            unfold isOn
            rw [decide_eq_true c1', decide_eq_true c2']
            rfl
          refine ⟨_, rfl, z.1, xs, 0, _, rfl, rfl, SqT.of ex, g0, _, eD, small1000 ?_, ?_, fun b o e => ?_⟩
          · have h1 := List.length_filter_le (fun z : Addr × En => isOn x m z.2) (ys.take i)
            rw [List.length_map, List.length_map]
            rw [List.length_take] at h1
            omega
          · rw [upd_same, et, List.filter_append]
            simp [hyes]
          · rw [upd_ne (ne_of_none e nD)]
            exact sm _ _ e
        · refine out ?_
          have c2' : ¬ z.2.of = m := fun z0 => c2 (decide_eq_true (by rw [z0]))
          unfold isOn
          rw [decide_eq_false c2', Bool.and_false]
      · refine iteF (out ?_)
        have c1' : ¬ z.2.word = x := fun z0 => c1 (decide_eq_true (by rw [z0]))
        unfold isOn
        rw [decide_eq_false c1', Bool.false_and]
    · rintro H' ⟨eD, sm⟩
      have el : ys.take (refs ys).length = ys := List.take_of_length_le (by rw [List.length_map]; exact Nat.le_refl _)
      rw [el] at eD
      exact q D H' sm nD eD
/-! ### those in force -/
abbrev sForced : Stmt := topS 26
abbrev nForced : List Str := ["acts", "forced", "act"]
theorem scForced : FnScope nForced ["acts"] (defScope sForced) := ⟨rfl, rfl, rfl, by decide +kernel, rfl, by decide +kernel, by decide +kernel⟩
def spForced : Sp := fun vs H Q _ => ∃ (la : Addr) (n : Nat) (es : List En) (d k : Int) (ys : List (Addr × En)), vs = [.ref la] ∧ H la = some (.lst (refs ys)) ∧ (∀ z ∈ ys, EntAt H z.1 z.2) ∧ BkOk n es ∧ OpenActs n es d k ys ∧
  ∀ p H', Same H H' → H p = none → H' p = some (.lst (refs (ys.reverse.filter fun z => frc es d k z.2))) → Q (.ref p) H'
theorem ok_forced {f : Addr} {fd : FuncData} {k : Nat} (F : Fun K "acts_in_force" "acts_in_force" sForced f fd) (DO : Df K mg "acts_on" sActsOn pActsOn fOn dOn) (mW : MgInt mg "WORD" 4) (mO : MgInt mg "OF" 5) (mN : MgInt mg "NUMBER" 0) : FnOk P w K mg base CX0 (k + 2) f fd ["acts"] spForced := by
  have GO : FnOk P w K mg base CX0 (k + 1) fOn dOn pActsOn spActsOn := ok_actsOn DO.F mW mO mN
  refine F.ok scForced (fun vs H Q E h => ?_) (fun cdv A outer s H vs Q E hr h => ?_)
  · obtain ⟨la, n, es, d, k, ys, rfl, _⟩ := h
    rfl
  · obtain ⟨la, n, es, d, kk, ys, rfl, hl, hys, hB, hO, q⟩ := h
    refine ⟨_, pss_cons (ps_set (i := 1) scForced.nd rfl (.inl rfl) (pe_lst pa_nil))
      (pss_cons (ps_for PassesOwn.never rfl (pi_list (pe_revL (pv 0))) (pg_name (i := 2) scForced.nd rfl (.inl rfl))
        (pss_one (ps_if (pt_not (pt_truth (pe_call GO hr (by rfl) DO.g DO.F.kp DO.b .nil pass0 (pa_cons (pv 1) (pa_cons pe_str (pa_cons (pe_ix ix_tup (pv 2) (pe_num (by rfl) mN) (fun _ _ => rfl)) pa_nil)))) (by intro _; rfl)))
          (pss_one (ps_expr (pe_bm PySem.F.plainAttrs_list PySem.F.slot_list_append PySem.F.type_list_append mt_append (pv 1) (pa_cons (pv 2) pa_nil)))) pss_nil)))
      (pss_one (ps_ret (pv 1)))), ?_⟩
    refine ⟨Nat.zero_le _, fun fo nfo => ?_⟩
    have s1 : Same H (upd H fo (.lst [])) := fun b o e => by rw [upd_ne (ne_of_none e nfo)]; exact e
    have e1 : (upd H fo (.lst [])) fo = some (.lst []) := upd_same
    generalize (upd H fo (.lst [])) = H1 at s1 e1
    refine ⟨_, rfl, la, _, rfl, SqL.of (s1 _ _ hl), fun rv nrv => ?_⟩
    have s2 : Same H1 (upd H1 rv (.lst (refs ys).reverse)) := fun b o e => by rw [upd_ne (ne_of_none e nrv)]; exact e
    have erv : (upd H1 rv (.lst (refs ys).reverse)) rv = some (.lst (refs ys.reverse)) := by rw [upd_same, ← List.map_reverse]
    have e2 := s2 _ _ e1
    have nfr : fo ≠ rv := ne_of_none e1 nrv
    generalize (upd H1 rv (.lst (refs ys).reverse)) = H2 at s2 erv e2
    have s12 := s1.trans s2
    refine ⟨rv, rfl, ⟨_, SqL.of erv⟩, ?_⟩
    refine for_list (K := K) (a := rv) (xs := refs ys.reverse) (fun i σ H' => ∃ y2, σ = [some (.ref la), some (.ref fo), y2] ∧ Same H H' ∧ H' rv = some (.lst (refs ys.reverse)) ∧ H' fo = some (.lst (refs ((ys.reverse.take i).filter fun z => frc es d kk z.2)))) ⟨none, rfl, s12, erv, e2⟩ (fun i σ H' _ h => ?_) ?_ ?_
    · obtain ⟨_, _, _, e, _⟩ := h
      exact SqL.of e
    · rintro i x σ H' hx ⟨y2, rfl, sm, ev, ef⟩
      obtain ⟨z, hz, rfl⟩ := ref_at hx
      have hzr := List.mem_of_getElem? hz
      have hzm : z ∈ ys := List.mem_reverse.mp hzr
      have hi : i < ys.reverse.length := (List.getElem?_eq_some_iff.mp hz).1
      have hlr : ys.reverse.length = ys.length := List.length_reverse
      have hyl := hO.len
      obtain ⟨xs, ex, g0, _⟩ := ((hys z hzm).kp (Same.tup sm)).tup
      obtain ⟨m1, m2, m3⟩ := hO.mem z hzm
      have et := take_more hz
      have hsub : ∀ u ∈ (ys.reverse.take i).filter (fun z => frc es d kk z.2), u ∈ ys ∧ frc es d kk u.2 = true := fun u hu =>
        ⟨List.mem_reverse.mp (List.mem_of_mem_take (List.mem_filter.mp hu).1), (List.mem_filter.mp hu).2⟩
      have hfl : ((ys.reverse.take i).filter (fun z => frc es d kk z.2)).length ≤ 16 := by
        have h1 := List.length_filter_le (fun z : Addr × En => frc es d kk z.2) (ys.reverse.take i)
        rw [List.length_take] at h1
        omega
      refine ⟨_, rfl, _, rfl, z.1, xs, 0, _, rfl, rfl, SqT.of ex, g0, fo, "undone", z.2.num, _, rfl, ef, fun u hu => ⟨(hys u (hsub u hu).1).kp (Same.tup sm), (hO.mem u (hsub u hu).1).2.1⟩, by omega, fun p H3 s3 np ep => ⟨_, .inl ⟨_, SqL.of ep, rfl⟩, ?_⟩⟩
      -- none of the forced undoes it: just where it is in force
      have key : (((((ys.reverse.take i).filter fun z => frc es d kk z.2).filter fun u => isOn "undone" z.2.num u.2).map fun z => z.2.num).map V.int).isEmpty = frc es d kk z.2 := by
        rw [frc_eq hB d kk m1, m3, Bool.true_and, Bool.eq_iff_iff, List.all_eq_true]
        constructor
        · intro h u hu
          cases ho : isOn "undone" z.2.num u with
          | false => rfl
          | true =>
            cases hf : frc es d kk u with
            | false => rfl
            | true =>
              exfalso
              obtain ⟨h1, h2, h3⟩ := isOn_act (hB.ok u hu) (by decide) ho
              have lt := ((hB.ok u hu).of_lt h1).1
              obtain ⟨v, hv, rfl⟩ := hO.all u hu h1 (frc_open hB hu hf)
              -- it stands ahead in the turned list
              have hpre : v ∈ ys.reverse.take i := by
                have hv' : v ∈ ys.reverse := List.mem_reverse.mpr hv
                obtain ⟨j, hj, ej⟩ := List.mem_iff_getElem.mp hv'
                have hup : ys.reverse.Pairwise (fun a b => b.2.num < a.2.num) := List.pairwise_reverse.mpr hO.up
                have hji : j < i := by
                  rcases Nat.lt_trichotomy j i with q1 | q1 | q1
                  · exact q1
                  · subst q1
                    rw [List.getElem?_eq_getElem hj, ej] at hz
                    injection hz with hz
                    rw [hz] at lt h3
                    omega
                  · have := List.pairwise_iff_getElem.mp hup i j hi hj q1
                    have ei : ys.reverse[i] = z := by
                      rw [List.getElem?_eq_getElem hi] at hz
                      exact Option.some.inj hz
                    rw [ei, ej] at this
                    omega
                exact List.mem_take_iff_getElem.mpr ⟨j, by omega, ej⟩
              have hmem : v.2.num ∈ (((ys.reverse.take i).filter fun z => frc es d kk z.2).filter fun u => isOn "undone" z.2.num u.2).map fun z => z.2.num :=
                List.mem_map.mpr ⟨v, List.mem_filter.mpr ⟨List.mem_filter.mpr ⟨hpre, hf⟩, ho⟩, rfl⟩
              rw [List.isEmpty_iff] at h
              have h' := List.map_eq_nil_iff.mp h
              rw [h'] at hmem
              cases hmem
        · intro h
          rw [List.isEmpty_iff, List.map_eq_nil_iff, List.map_eq_nil_iff, List.filter_eq_nil_iff]
          intro u hu ho
          obtain ⟨hu1, hu2⟩ := hsub u hu
          have := h u.2 (hO.mem u hu1).1
          rw [ho, hu2] at this
          cases this
      rw [key]
      have ef3 := s3 _ _ ef
      cases hf : frc es d kk z.2 with
      | true =>
        refine iteT ?_
        refine ⟨_, rfl, .inl ⟨rfl, _, SqL.of ef3⟩, _, rfl, fo, _, _, rfl, rfl, ef3, small1000 (by rw [List.length_map]; omega), ?_⟩
        refine ⟨_, rfl, fun b o e => ?_, ?_, ?_⟩
        · rw [upd_ne (ne_of_none e nfo)]
          exact s3 _ _ (sm _ _ e)
        · rw [upd_ne nfr.symm]
          exact s3 _ _ ev
        · rw [upd_same, et, List.filter_append]
          simp [hf, refs]
      | false =>
        refine iteF ?_
        refine ⟨_, rfl, sm.trans s3, s3 _ _ ev, ?_⟩
        rw [ef3, et, List.filter_append]
        simp [hf]
    · rintro σ H' ⟨y2, rfl, sm, ev, ef⟩
      have el : ys.reverse.take (refs ys.reverse).length = ys.reverse := List.take_of_length_le (by rw [List.length_map]; exact Nat.le_refl _)
      rw [el] at ef
      exact ⟨_, rfl, q fo H' sm nfo ef⟩
end
end Deed

namespace Deed
open PySem PySem.Spec PyProof.Rows L2 LamX
section
variable {P : Program} {w : World} {K : PySem.W.Frag} {mg : Str → Option Value} {base : Heap} {T : List (Addr × Str)} {fW fA : Addr} {dW dA : FuncData}
/-- the number is one of those that φ picks -/
def spCkNum (φ : En → Bool) (T : List (Addr × Str)) : Sp := fun vs H Q _ => ∃ (b fk t : Addr) (n : Nat) (age : Int) (zs : List (Addr × En)) (e : En), vs = [.ref b, .int e.num] ∧ BookAt H b fk t n age zs ∧ Tabs T H ∧ e ∈ ens zs ∧ φ e = true ∧ ∀ H', ExtN H H' → Tabs T H' → Q .non H'
end
end Deed

namespace Deed
open PySem PySem.Spec PyProof.Rows L2 LamX
/-! ### what a deed is: the mathematics -/
def En.rests (e : En) : List Int := match e.kd with
  | .deed _ _ rs _ => rs
  | .act _ _ => []
/-- some act of the word upon the number is in force -/
def anyF (es : List En) (d k : Int) (x : Str) (m : Int) : Bool := es.any fun u => isOn x m u && frc es d k u
def carries (x : Str) : Bool := decide (x ∈ ([("stands" : Str), "paid"] : List Str))
/-- by what its rests are -/
def wordBy (es : List En) (d k : Int) (e : En) (lost : Bool) : Str :=
  if k < e.wri then "unknown" else if d < e.day then "ahead" else if anyF es d k "void" e.num = true then "void" else if lost = true then "fallen" else if anyF es d k "paid" e.num = true then "paid" else "stands"
def isD (m : Int) (e : En) : Bool := e.isDeed && decide (e.num = m)
def stF (es : List En) (d k : Int) : Nat → En → Str
  | 0, _ => "unknown"
  | f + 1, e => wordBy es d k e (e.rests.any fun r => es.any fun u => isD r u && !carries (stF es d k f u))
def st (es : List En) (d k : Int) (e : En) : Str := stF es d k (e.num.toNat + 1) e
theorem EnOk.rest {n : Nat} {ds as : List Int} {e : En} (h : EnOk n ds as e) : ∀ r ∈ e.rests, r ∈ ds ∧ r < e.num := by
  intro r hr
  unfold En.rests at hr
  cases hk : e.kd with
  | deed g t rs ws =>
    rw [hk] at hr
    have h4 := h.2.2.2
    rw [hk] at h4
    exact h4.2.2.2.2.2.1 r hr
  | act x o =>
    rw [hk] at hr
    cases hr
theorem any_congr {α : Type} {l : List α} {p q : α → Bool} (h : ∀ x ∈ l, p x = q x) : l.any p = l.any q := by
  induction l with
  | nil => rfl
  | cons a r ih =>
    rw [List.any_cons, List.any_cons, h a List.mem_cons_self, ih fun x hx => h x (List.mem_cons_of_mem _ hx)]
theorem stF_one {n : Nat} {es : List En} (hB : BkOk n es) (d k : Int) : ∀ (f g : Nat) (e : En), e ∈ es → e.num.toNat + 1 ≤ f → e.num.toNat + 1 ≤ g → stF es d k f e = stF es d k g e := by
  intro f
  induction f with
  | zero =>
    intro g e he hf _
    omega
  | succ f ih =>
    intro g e he hf hg
    cases g with
    | zero => omega
    | succ g =>
      show wordBy es d k e _ = wordBy es d k e _
      congr 1
      refine any_congr fun r hr => any_congr fun u hu => ?_
      cases hd : isD r u with
      | false => rfl
      | true =>
        unfold isD at hd
        rw [Bool.and_eq_true] at hd
        have hn := of_decide_eq_true hd.2
        have lt := ((hB.ok e he).rest r hr).2
        have r1 := hB.rng e he
        have r2 := hB.rng u hu
        rw [ih g u hu (by omega) (by omega)]
theorem st_eq {n : Nat} {es : List En} (hB : BkOk n es) (d k : Int) {e : En} (he : e ∈ es) : st es d k e = wordBy es d k e (e.rests.any fun r => es.any fun u => isD r u && !carries (st es d k u)) := by
  show wordBy es d k e _ = wordBy es d k e _
  congr 1
  refine any_congr fun r hr => any_congr fun u hu => ?_
  cases hd : isD r u with
  | false => rfl
  | true =>
    unfold isD at hd
    rw [Bool.and_eq_true] at hd
    have hn := of_decide_eq_true hd.2
    have lt := ((hB.ok e he).rest r hr).2
    have r1 := hB.rng e he
    have r2 := hB.rng u hu
    rw [stF_one hB d k e.num.toNat (u.num.toNat + 1) u hu (by omega) (by omega)]
    rfl
/-- a rest is lost just where that very deed carries nothing -/
theorem lost_one {n : Nat} {es : List En} (hB : BkOk n es) (d k : Int) {r : Int} {u : En} (hu : u ∈ es) (hd : u.isDeed = true) (hn : u.num = r) : (es.any fun u => isD r u && !carries (st es d k u)) = !carries (st es d k u) := by
  rw [Bool.eq_iff_iff, List.any_eq_true]
  constructor
  · rintro ⟨u', hu', h⟩
    rw [Bool.and_eq_true] at h
    unfold isD at h
    rw [Bool.and_eq_true] at h
    have := num_inj hB hu' hu ((of_decide_eq_true h.1.2).trans hn.symm)
    rw [← this]
    exact h.2
  · intro h
    refine ⟨u, hu, ?_⟩
    unfold isD
    rw [hd, decide_eq_true hn, h]
    rfl
theorem dn_at {es : List En} {r : Int} (h : r ∈ dn es) : ∃ u ∈ es, u.isDeed = true ∧ u.num = r := mem_dn.mp h
/-- the words of deeds, as a dict's pairs -/
abbrev wds (es : List En) (d k : Int) (ys : List (Addr × En)) : List (Key × V) := ys.map fun z => (Sum.inl z.2.num, V.str (st es d k z.2))
theorem valV_map {α : Type} {f : α → Int} {g : α → V} {l : List α} (nd : (l.map f).Nodup) {z : α} (hz : z ∈ l) : valV (l.map fun z => ((Sum.inl (f z) : Key), g z)) (.inl (f z)) = some (g z) := by
  induction l with
  | nil => cases hz
  | cons y r ih =>
    have h2 := List.nodup_cons.mp (show (f y :: r.map f).Nodup from nd)
    show Option.map (·.2) (List.find? (fun kv => decide (kv.1 = (Sum.inl (f z) : Key))) ((Sum.inl (f y), g y) :: r.map fun z => ((Sum.inl (f z) : Key), g z))) = _
    rw [List.find?_cons]
    rcases List.mem_cons.mp hz with rfl | hz
    · simp
    · have hne : ¬ (Sum.inl (f y) : Key) = Sum.inl (f z) := fun q => by
        injection q with q
        exact h2.1 (List.mem_map.mpr ⟨z, hz, q.symm⟩)
      rw [decide_eq_false hne]
      exact ih h2.2 hz
theorem EntAt.seven {H : Hp} {a : Addr} {e : En} (h : EntAt H a e) (hd : e.isDeed = true) : ∃ xs r, H a = some (.tup xs) ∧ atI xs 7 = some (.ref r) ∧ H r = some (.tup (e.rests.map V.int)) := by
  unfold EntAt at h
  unfold En.isDeed at hd
  unfold En.rests
  cases hk : e.kd with
  | deed g t rs ws =>
    rw [hk] at h
    obtain ⟨r, w, h1, h2, _⟩ := h
    exact ⟨_, r, h1, atI_nat (j := 7) rfl, h2⟩
  | act x o =>
    rw [hk] at hd
    cases hd
end Deed

namespace Deed
open PySem PySem.Spec PyProof.Rows L2 LamX
/-- the acts in force, in whatever order -/
structure ForcedAt (es : List En) (d k : Int) (fs : List (Addr × En)) : Prop where
  mem : ∀ z ∈ fs, z.2 ∈ es ∧ z.2.isDeed = false ∧ frc es d k z.2 = true
  all : ∀ u ∈ es, u.isDeed = false → frc es d k u = true → ∃ z ∈ fs, z.2 = u
  len : fs.length ≤ 16
theorem ForcedAt.any {n : Nat} {es : List En} {d k : Int} {fs : List (Addr × En)} (h : ForcedAt es d k fs) (hB : BkOk n es) (x : Str) (hx : x ≠ "deed") (m : Int) : (!((((fs.filter fun z => isOn x m z.2).map fun z => z.2.num).map V.int).isEmpty)) = anyF es d k x m := by
  unfold anyF
  rw [Bool.eq_iff_iff, List.any_eq_true]
  constructor
  · intro hh
    have hne : ¬ (((fs.filter fun z => isOn x m z.2).map fun z => z.2.num).map V.int) = [] := fun z => by
      rw [z] at hh
      cases hh
    have hne2 : fs.filter (fun z => isOn x m z.2) ≠ [] := fun z => hne (by rw [z]; rfl)
    obtain ⟨z, hz⟩ := List.exists_mem_of_ne_nil _ hne2
    obtain ⟨h1, h2⟩ := List.mem_filter.mp hz
    exact ⟨z.2, (h.mem z h1).1, by rw [h2, (h.mem z h1).2.2]; rfl⟩
  · rintro ⟨u, hu, hh⟩
    rw [Bool.and_eq_true] at hh
    obtain ⟨hd, _, _⟩ := isOn_act (hB.ok u hu) hx hh.1
    obtain ⟨z, hz, rfl⟩ := h.all u hu hd hh.2
    have hm : z ∈ fs.filter fun z => isOn x m z.2 := List.mem_filter.mpr ⟨hz, hh.1⟩
    cases hl : fs.filter (fun z => isOn x m z.2) with
    | nil => rw [hl] at hm; cases hm
    | cons a r => rfl
section
variable {P : Program} {w : World} {K : PySem.W.Frag} {mg : Str → Option Value} {base : Heap} {T : List (Addr × Str)} {fOn : Addr} {dOn : FuncData}
/-- the words that carry, of the module's top -/
def CarryAt (K : PySem.W.Frag) (mg : Str → Option Value) : Prop := ∃ a : Addr, mg "CARRYING" = some (.ref a) ∧ ∀ H : Hp, SqT K H a [.str "stands", .str "paid"]
abbrev sWordOf : Stmt := topS 27
abbrev nWordOf : List Str := ["deed", "forced", "words", "d", "k", "rest"]
abbrev pWordOf : List Str := ["deed", "forced", "words", "d", "k"]
theorem scWordOf : FnScope nWordOf pWordOf (defScope sWordOf) := ⟨rfl, rfl, rfl, by decide +kernel, rfl, by decide +kernel, by decide +kernel⟩
def spWordOf : Sp := fun vs H Q _ => ∃ (a fo wd : Addr) (e : En) (n : Nat) (es : List En) (d k : Int) (fs : List (Addr × En)) (kvs : List (Key × V)), vs = [.ref a, .ref fo, .ref wd, .int d, .int k] ∧ EntAt H a e ∧ e ∈ es ∧ e.isDeed = true ∧ BkOk n es ∧ H fo = some (.lst (refs fs)) ∧ (∀ z ∈ fs, EntAt H z.1 z.2) ∧ ForcedAt es d k fs ∧
  H wd = some (.dK kvs) ∧ (∀ r ∈ e.rests, ∃ u ∈ es, u.isDeed = true ∧ u.num = r ∧ valV kvs (.inl r) = some (.str (st es d k u))) ∧ ∀ H', Same H H' → Q (.str (st es d k e)) H'
theorem ok_wordOf {f : Addr} {fd : FuncData} {k : Nat} (F : Fun K "word_of_deed" "word_of_deed" sWordOf f fd) (DO : Df K mg "acts_on" sActsOn pActsOn fOn dOn) (mW : MgInt mg "WORD" 4) (mO : MgInt mg "OF" 5) (mN : MgInt mg "NUMBER" 0) (mWr : MgInt mg "WRITTEN" 2) (mD : MgInt mg "DAY" 1) (mR : MgInt mg "RESTS" 7) (mA : mg "any" = none) (mC : CarryAt K mg) : FnOk P w K mg base CX0 (k + 2) f fd pWordOf spWordOf := by
  have GO : FnOk P w K mg base CX0 (k + 1) fOn dOn pActsOn spActsOn := ok_actsOn DO.F mW mO mN
  obtain ⟨aC, gC, sC⟩ := mC
  refine F.ok scWordOf (fun vs H Q E h => ?_) (fun cdv A outer s H vs Q E hr h => ?_)
  · obtain ⟨a, fo, wd, e, n, es, d, k, fs, kvs, rfl, _⟩ := h
    rfl
  · obtain ⟨a, fo, wd, e, n, es, d, kk, fs, kvs, rfl, hE, he, hd, hB, hfo, hfs, hF, hwd, hrs, q⟩ := h
    have hu := hu_of hr
    refine ⟨_, pss_cons (ps_if (pt_cmpR op_gt (pe_ix ix_tup (pv 0) (pe_num (by rfl) mWr) (fun _ _ => rfl)) (pv 4) (nomark _)) (pss_one (ps_ret pe_str)) pss_nil)
      (pss_cons (ps_if (pt_cmpR op_gt (pe_ix ix_tup (pv 0) (pe_num (by rfl) mD) (fun _ _ => rfl)) (pv 3) (nomark _)) (pss_one (ps_ret pe_str)) pss_nil)
      (pss_cons (ps_if (pt_truth (pe_call GO hr (by rfl) DO.g DO.F.kp DO.b .nil pass0 (pa_cons (pv 1) (pa_cons pe_str (pa_cons (pe_ix ix_tup (pv 0) (pe_num (by rfl) mN) (fun _ _ => rfl)) pa_nil)))) (by intro _; rfl)) (pss_one (ps_ret pe_str)) pss_nil)
      (pss_cons (ps_if (pt_val (pe_callB (cr_any rfl) (by rfl) mA (by decide +kernel) (pa_cons (pe_lc (own := [("rest", 5)]) (g := gName 5) (by rfl) scWordOf.nd (pi_tup (pe_ix ix_tup (pv 0) (pe_num (by rfl) mR) (fun _ _ => rfl))) (blkOk_by (own := [("rest", 5)]) (N := nWordOf) (sc := defScope sWordOf) (by decide +kernel)) (fun _ _ _ _ _ => pg_name (i := 5) scWordOf.nd rfl (Or.inl rfl)) (fun _ _ _ _ _ => pts_nil)
          (fun _ _ _ _ _ => show PE _ _ (tOp (rIn K true) (tDGet (tVar 2) (tVar 5)) (tC (.ref aC))) from pe_cmpR op_notIn_seq (pe_dget hu (pv 2) (pv 5) (fun _ _ => rfl)) (pe_glob (by rfl) gC rfl) (by rfl))) pa_nil))) (pss_one (ps_ret pe_str)) pss_nil)
      (pss_cons (ps_if (pt_truth (pe_call GO hr (by rfl) DO.g DO.F.kp DO.b .nil pass0 (pa_cons (pv 1) (pa_cons pe_str (pa_cons (pe_ix ix_tup (pv 0) (pe_num (by rfl) mN) (fun _ _ => rfl)) pa_nil)))) (by intro _; rfl)) (pss_one (ps_ret pe_str)) pss_nil)
      (pss_one (ps_ret pe_str)))))), ?_⟩
    have sq := st_eq hB d kk he
    unfold wordBy at sq
    obtain ⟨xs, ex, g0, g1, g2, _⟩ := hE.tup
    have hlen := hF.len
    refine ⟨_, rfl, a, xs, 2, _, rfl, rfl, SqT.of ex, g2, _, rfl, _, _, rfl, rfl, _, rfl, ?_⟩
    refine ite2 (fun c => ?_) (fun c => ?_)
    · have c' : kk < e.wri := of_decide_eq_true c
      rw [if_pos c'] at sq
      rw [sq] at q
      exact q H (Same.refl H)
    have c' : ¬ kk < e.wri := fun z => c (decide_eq_true z)
    rw [if_neg c'] at sq
    refine ⟨_, rfl, a, xs, 1, _, rfl, rfl, SqT.of ex, g1, _, rfl, _, _, rfl, rfl, _, rfl, ?_⟩
    refine ite2 (fun c2 => ?_) (fun c2 => ?_)
    · have c2' : d < e.day := of_decide_eq_true c2
      rw [if_pos c2'] at sq
      rw [sq] at q
      exact q H (Same.refl H)
    have c2' : ¬ d < e.day := fun z => c2 (decide_eq_true z)
    rw [if_neg c2'] at sq
    refine ⟨_, rfl, _, rfl, a, xs, 0, _, rfl, rfl, SqT.of ex, g0, fo, "void", e.num, fs, rfl, hfo, fun z hz => ⟨hfs z hz, (hF.mem z hz).2.1⟩, by omega, fun p1 H1 s1 np1 ep1 => ⟨_, .inl ⟨_, SqL.of ep1, rfl⟩, ?_⟩⟩
    rw [hF.any hB "void" (by decide) e.num]
    refine ite2 (fun c3 => ?_) (fun c3 => ?_)
    · rw [if_pos c3] at sq
      rw [sq] at q
      exact q H1 s1
    rw [if_neg c3] at sq
    -- the rests
    obtain ⟨xs7, r, ex7, g7, er⟩ := (hE.kp (Same.tup s1)).seven hd
    refine ⟨_, rfl, a, xs7, 7, _, rfl, rfl, SqT.of ex7, g7, r, rfl, ⟨_, SqT.of er⟩, fun D nD => ?_⟩
    refine lc_tup (K := K) (a := r) (xs := e.rests.map V.int) (fun i H' => H' D = some (.lst (((e.rests.take i).map fun r => es.any fun u => isD r u && !carries (st es d kk u)).map V.bl)) ∧ Same H1 H') ⟨upd_same, fun b o e => by rw [upd_ne (ne_of_none e nD)]; exact e⟩ (fun i H' _ h => SqT.of (h.2 _ _ er)) ?_ ?_
    · rintro i x H' hx ⟨eD, sm⟩
      rw [List.getElem?_map] at hx
      cases hn : e.rests[i]? with
      | none => rw [hn] at hx; cases hx
      | some m =>
        rw [hn] at hx
        injection hx with hx
        subst hx
        obtain ⟨u, hu1, hu2, hu3, hu4⟩ := hrs m (List.mem_of_getElem? hn)
        have hi : i < e.rests.length := (List.getElem?_eq_some_iff.mp hn).1
        have hrl : e.rests.length ≤ 2 := by
          have h4 := (hB.ok e he).2.2.2
          unfold En.rests
          cases hk : e.kd with
          | deed g t rs ws =>
            rw [hk] at h4
            exact h4.2.2.2.1
          | act x o => exact Nat.zero_le _
        refine ⟨rfl, ?_⟩
        unfold tYes
        dsimp only
        rw [if_pos rfl]
        have dg : DGet H' wd (.int m) (some (.str (st es d kk u))) := by
          have h1 := DGet.k (k := Sum.inl m) (sm _ _ (s1 _ _ hwd))
          rw [hu4] at h1
          exact h1
        refine ⟨_, rfl, _, rfl, wd, _, rfl, dg, aC, _, rfl, .inr (sC H'), rfl, rfl, _, eD, small1000 (by rw [List.length_map, List.length_map, List.length_take]; omega), ?_, fun b o e => ?_⟩
        · rw [upd_same, take_more hn, List.map_append, List.map_append]
          have e1 : inV (.str (st es d kk u)) [.str "stands", .str "paid"] = carries (st es d kk u) := mem_inS (ws := ["stands", "paid"])
          have e2 := lost_one hB d kk hu1 hu2 hu3
          simp [e1, e2]
        · rw [upd_ne (ne_of_none e nD)]
          exact sm _ _ e
    rintro H2 ⟨eD, sm⟩
    have el : e.rests.take (e.rests.map V.int).length = e.rests := List.take_of_length_le (by rw [List.length_map]; exact Nat.le_refl _)
    rw [el] at eD
    have s2 := s1.trans sm
    refine ⟨D, _, rfl, SqL.of eD, _, rfl, ?_⟩
    have ea : ((e.rests.map fun r => es.any fun u => isD r u && !carries (st es d kk u)).any id) = e.rests.any fun r => es.any fun u => isD r u && !carries (st es d kk u) := by
      rw [List.any_map]
      rfl
    rw [ea]
    refine ite2 (fun c4 => ?_) (fun c4 => ?_)
    · rw [if_pos c4] at sq
      rw [sq] at q
      exact q H2 s2
    rw [if_neg c4] at sq
    obtain ⟨xs2, ex2, h0, _⟩ := (hE.kp (Same.tup s2)).tup
    refine ⟨_, rfl, _, rfl, a, xs2, 0, _, rfl, rfl, SqT.of ex2, h0, fo, "paid", e.num, fs, rfl, s2 _ _ hfo, fun z hz => ⟨(hfs z hz).kp (Same.tup s2), (hF.mem z hz).2.1⟩, by omega, fun p3 H3 s3 np3 ep3 => ⟨_, .inl ⟨_, SqL.of ep3, rfl⟩, ?_⟩⟩
    rw [hF.any hB "paid" (by decide) e.num]
    refine ite2 (fun c5 => ?_) (fun c5 => ?_)
    · rw [if_pos c5] at sq
      rw [sq] at q
      exact q H3 (s2.trans s3)
    · rw [if_neg c5] at sq
      rw [sq] at q
      exact q H3 (s2.trans s3)
end
end Deed

namespace Deed
open PySem PySem.Spec PyProof.Rows L2 LamX
section
variable {P : Program} {w : World} {K : PySem.W.Frag} {mg : Str → Option Value} {base : Heap} {T : List (Addr × Str)} {fW fA : Addr} {dW dA : FuncData}
abbrev sCheckDeed : Stmt := topS 21
theorem scCheckDeed : FnScope ["book", "thing"] ["book", "thing"] (defScope sCheckDeed) := ⟨rfl, rfl, rfl, by decide +kernel, rfl, by decide +kernel, by decide +kernel⟩
def spCkDeed (T : List (Addr × Str)) : Sp := fun vs H Q _ => ∃ (b fk t : Addr) (n : Nat) (age : Int) (zs : List (Addr × En)) (e : En), vs = [.ref b, .int e.num] ∧ BookAt H b fk t n age zs ∧ Tabs T H ∧ e ∈ ens zs ∧ e.isDeed = true ∧ ∀ H', ExtN H H' → Tabs T H' → Q .non H'
theorem ok_ckDeed {f : Addr} {fd : FuncData} {k : Nat} (F : Fun K "check_deed" "check_deed" sCheckDeed f fd) (DW : Df K mg "is_whole" sWhole ["thing"] fW dW) (mi : mg "isinstance" = none) (mn : mg "int" = none) (mb : mg "bool" = none) (DA : Df K mg "deeds_of" sDeedsOf ["book"] fA dA) (GA : FnOk P w K mg base CX0 (k + 1) fA dA ["book"] (spNums (·.isDeed) T)) :
    FnOk P w K mg base CX0 (k + 2) f fd ["book", "thing"] (spCkDeed T) := by
  have GW : FnOk P w K mg base CX0 (k + 1) fW dW ["thing"] spWholeI := ok_wholeI DW.F mi mn mb
  refine F.ok scCheckDeed (fun vs H Q E h => ?_) (fun cdv A outer s H vs Q E hr h => ?_)
  · obtain ⟨b, fk, t, n, age, zs, e, rfl, _⟩ := h
    rfl
  · obtain ⟨b, fk, t, n, age, zs, e, rfl, hB, hT, he, hφ, q⟩ := h
    refine ⟨_, pss_one (ps_if (PW.pt (pw_or (pt_not (pt_val (pe_call GW hr (by rfl) DW.g DW.F.kp DW.b .nil pass0 (pa_cons (pv 1) pa_nil)))) (pw_or1 (pt_cmpR op_notIn_seq (pv 1) (pe_call GA hr (by rfl) DA.g DA.F.kp DA.b .nil pass0 (pa_cons (pv 0) pa_nil)) (by rfl))))) pss_never pss_nil), ?_⟩
    refine ⟨_, rfl, e.num, rfl, _, rfl, ?_⟩
    refine iteF ?_
    refine ⟨_, rfl, _, rfl, b, fk, t, n, age, zs, rfl, hB, hT, fun p zs' H1 eN T1 _ ep pm so => ?_⟩
    refine ⟨p, _, rfl, .inl (SqL.of ep), rfl, flat_ints _, _, rfl, ?_⟩
    have hm : e.num ∈ (zs'.filter fun z => z.2.isDeed).map fun z => z.2.num := by
      obtain ⟨z, hz, rfl⟩ := List.mem_map.mp he
      exact List.mem_map.mpr ⟨z, List.mem_filter.mpr ⟨pm.mem_iff.mpr hz, hφ⟩, rfl⟩
    rw [mem_inV, decide_eq_true hm]
    exact iteF (q H1 eN T1)
end
end Deed

namespace Deed
open PySem PySem.Spec PyProof.Rows L2 LamX
/-- the deeds of zs by their numbers -/
def DeedsUp (zs ys : List (Addr × En)) : Prop := ys.Pairwise (fun a b => a.2.num < b.2.num) ∧ (∀ x, x ∈ ens ys ↔ x ∈ ens zs ∧ x.isDeed = true) ∧ ys.length ≤ 16
theorem DeedsUp.nodup {zs ys : List (Addr × En)} (h : DeedsUp zs ys) : ((ens ys).map (·.num)).Nodup := by
  have h1 := h.1
  refine List.pairwise_map.mpr (List.pairwise_map.mpr (h1.imp fun hh => ?_))
  omega
theorem wds_one {zs ys ys' : List (Addr × En)} (h : DeedsUp zs ys) (h' : DeedsUp zs ys') : ens ys = ens ys' := by
  have key : ∀ (l m : List En), l.Pairwise (fun a b => a.num < b.num) → m.Pairwise (fun a b => a.num < b.num) → (∀ x, x ∈ l ↔ x ∈ m) → l = m := by
    intro l
    induction l with
    | nil =>
      intro m _ _ hh
      cases m with
      | nil => rfl
      | cons y r => exact absurd ((hh y).mpr List.mem_cons_self) (by simp)
    | cons x l ih =>
      intro m h1 h2 hh
      cases m with
      | nil => exact absurd ((hh x).mp List.mem_cons_self) (by simp)
      | cons y m =>
        have a1 := List.pairwise_cons.mp h1
        have a2 := List.pairwise_cons.mp h2
        have exy : x = y := by
          rcases List.mem_cons.mp ((hh x).mp List.mem_cons_self) with e | e
          · exact e
          · rcases List.mem_cons.mp ((hh y).mpr List.mem_cons_self) with e' | e'
            · exact e'.symm
            · have := a1.1 y e'
              have := a2.1 x e
              omega
        subst exy
        congr 1
        refine ih m a1.2 a2.2 fun z => ?_
        constructor
        · intro hz
          rcases List.mem_cons.mp ((hh z).mp (List.mem_cons_of_mem _ hz)) with e | e
          · have := a1.1 z hz
            rw [e] at this
            omega
          · exact e
        · intro hz
          rcases List.mem_cons.mp ((hh z).mpr (List.mem_cons_of_mem _ hz)) with e | e
          · have := a2.1 z hz
            rw [e] at this
            omega
          · exact e
  refine key _ _ (List.pairwise_map.mpr h.1) (List.pairwise_map.mpr h'.1) fun x => ?_
  rw [h.2.1 x, h'.2.1 x]
/-- the words of deeds, by entries alone -/
abbrev wdE (es : List En) (d k : Int) (ys : List En) : List (Key × V) := ys.map fun e => (Sum.inl e.num, V.str (st es d k e))
section
variable {P : Program} {w : World} {K : PySem.W.Frag} {mg : Str → Option Value} {base : Heap} {T : List (Addr × Str)} {fCD fOA fFo fDE fWo fCk fAl : Addr} {dCD dOA dFo dDE dWo dCk dAl : FuncData}
abbrev sAllSt : Stmt := topS 28
abbrev nAllSt : List Str := ["book", "d", "k", "forced", "words", "entry"]
abbrev pAllSt : List Str := ["book", "d", "k"]
theorem scAllSt : FnScope nAllSt pAllSt (defScope sAllSt) := ⟨rfl, rfl, rfl, by decide +kernel, rfl, by decide +kernel, by decide +kernel⟩
def spAllSt (T : List (Addr × Str)) : Sp := fun vs H Q _ => ∃ (b fk t : Addr) (n : Nat) (age : Int) (zs : List (Addr × En)) (d k : Int), vs = [.ref b, .int d, .int k] ∧ BookAt H b fk t n age zs ∧ Tabs T H ∧ (0 ≤ d ∧ d ≤ 9999) ∧ (0 ≤ k ∧ k ≤ 9999) ∧
  ∀ (p : Addr) (ys : List (Addr × En)) (H' : Hp), ExtN H H' → Tabs T H' → Fresh H p → H' p = some (.dK (wdE (ens zs) d k (ens ys))) → DeedsUp zs ys → Q (.ref p) H'
theorem ok_allSt {f : Addr} {fd : FuncData} {k : Nat} {dv : List V} (F : FunD K "all_standing" "all_standing" (defArgs sAllSt) (defBody sAllSt) (defScope sAllSt) dv [] f fd) (mN : MgInt mg "NUMBER" 0)
    (DCD : Df K mg "check_day" sCheckDay ["thing"] fCD dCD) (GCD : FnOk P w K mg base CX0 k fCD dCD ["thing"] spCkDay)
    (DOA : Df K mg "open_acts" sOpenA ["book", "d", "k"] fOA dOA) (GOA : FnOk P w K mg base CX0 k fOA dOA ["book", "d", "k"] (spOpenA T)) (DFo : Df K mg "acts_in_force" sForced ["acts"] fFo dFo) (GFo : FnOk P w K mg base CX0 k fFo dFo ["acts"] spForced)
    (DDE : Df K mg "deed_entries" sDeedE ["book"] fDE dDE) (GDE : FnOk P w K mg base CX0 k fDE dDE ["book"] (spPick (·.isDeed) T)) (DWo : Df K mg "word_of_deed" sWordOf pWordOf fWo dWo) (GWo : FnOk P w K mg base CX0 k fWo dWo pWordOf spWordOf) : FnOk P w K mg base CX0 (k + 1) f fd pAllSt (spAllSt T) := by
  refine F.ok scAllSt (fun vs H Q E h => ?_) (fun cdv A outer s H vs Q E hr h => ?_)
  · obtain ⟨b, fk, t, n, age, zs, d, k, rfl, _⟩ := h
    rfl
  · obtain ⟨b, fk, t, n, age, zs, d, kk, rfl, hB, hT, hd0, hk0, q⟩ := h
    have hu := hu_of hr
    refine ⟨_, PSs.nox (pss_cons (ps_expr (pe_call GCD hr (by rfl) DCD.g DCD.F.kp DCD.b .nil pass0 (pa_cons (pv 1) pa_nil)))
      (pss_cons (ps_expr (pe_call GCD hr (by rfl) DCD.g DCD.F.kp DCD.b .nil pass0 (pa_cons (pv 2) pa_nil)))
      (pss_cons (ps_set (i := 3) scAllSt.nd rfl (.inl rfl) (pe_call GFo hr (by rfl) DFo.g DFo.F.kp DFo.b .nil pass0 (pa_cons (pe_call GOA hr (by rfl) DOA.g DOA.F.kp DOA.b .nil pass0 (pa_cons (pv 0) (pa_cons (pv 1) (pa_cons (pv 2) pa_nil)))) pa_nil)))
      (pss_cons (ps_set (i := 4) scAllSt.nd rfl (.inl rfl) pe_dnewK)
      (pss_cons (ps_for PassesOwn.never rfl (pi_list (pe_call GDE hr (by rfl) DDE.g DDE.F.kp DDE.b .nil pass0 (pa_cons (pv 0) pa_nil))) (pg_name (i := 5) scAllSt.nd rfl (.inl rfl))
        (pss_one (ps_dput hu (pv 4) (pe_ix ix_tup (pv 5) (pe_num (by rfl) mN) (fun _ _ => rfl)) (pe_call GWo hr (by rfl) DWo.g DWo.F.kp DWo.b .nil pass0 (pa_cons (pv 5) (pa_cons (pv 3) (pa_cons (pv 4) (pa_cons (pv 1) (pa_cons (pv 2) pa_nil)))))) rfl)))
      (pss_one (ps_ret (pv 4)))))))), ?_⟩
    refine ⟨_, rfl, d, rfl, hd0.1, hd0.2, ?_⟩
    refine ⟨_, rfl, kk, rfl, hk0.1, hk0.2, ?_⟩
    refine ⟨_, rfl, _, rfl, _, rfl, b, fk, t, n, age, zs, d, kk, rfl, hB, hT, fun p ys H2 e2 T2 fr2 ep2 hy2 hO => ?_⟩
    refine ⟨p, n, ens zs, d, kk, ys, rfl, ep2, hy2, hB.ok, hO, fun r H3 s3 nr er => ?_⟩
    have hF : ForcedAt (ens zs) d kk (ys.reverse.filter fun z => frc (ens zs) d kk z.2) := by
      refine ⟨fun z hz => ?_, fun u hu hd ho => ?_, ?_⟩
      · have h1 := (List.mem_filter.mp hz)
        have h2 := hO.mem z (List.mem_reverse.mp h1.1)
        exact ⟨h2.1, h2.2.1, h1.2⟩
      · obtain ⟨z, hz, rfl⟩ := hO.all u hu hd (frc_open hB.ok hu ho)
        exact ⟨z, List.mem_filter.mpr ⟨List.mem_reverse.mpr hz, ho⟩, rfl⟩
      · have h1 := List.length_filter_le (fun z : Addr × En => frc (ens zs) d kk z.2) ys.reverse
        have h2 := hO.len
        rw [List.length_reverse] at h1
        omega
    have hfE : ∀ z ∈ ys.reverse.filter (fun z => frc (ens zs) d kk z.2), EntAt H3 z.1 z.2 := fun z hz => (hy2 z (List.mem_reverse.mp (List.mem_filter.mp hz).1)).kp (Same.tup s3)
    generalize (ys.reverse.filter fun z => frc (ens zs) d kk z.2) = fs at er hF hfE
    have e3 : ExtN H H3 := e2.trans (.of s3)
    have T3 : Tabs T H3 := T2.ext s3
    refine fun wd nwd => ?_
    have e4 : ExtN H3 (upd H3 wd (.dK [])) := ExtN.new nwd _
    have T4 : Tabs T (upd H3 wd (.dK [])) := Tabs.new T3 nwd _
    have ew : (upd H3 wd (.dK [])) wd = some (.dK []) := upd_same
    have frw : Fresh H wd := Fresh.of e3 nwd
    generalize (upd H3 wd (.dK [])) = H4 at e4 T4 ew
    have e04 := e3.trans e4
    have hB4 := hB.kp (ExtN.tup e04)
    have nl : ∀ xs : List V, ∀ ps, HO.lst xs ≠ .tbl ps := fun xs ps z => by cases z
    have nk : ∀ kv : List (Key × V), ∀ ps, HO.dK kv ≠ .tbl ps := fun xs ps z => by cases z
    refine ⟨_, rfl, b, fk, t, n, age, zs, rfl, hB4, T4, fun p5 zs' H5 e5 T5 fr5 ep5 pm so => ?_⟩
    have hsub : ∀ z ∈ zs'.filter (fun z => z.2.isDeed), z ∈ zs ∧ z.2.isDeed = true := fun z hz => ⟨pm.mem_iff.mp (List.mem_filter.mp hz).1, (List.mem_filter.mp hz).2⟩
    have hDU : DeedsUp zs (zs'.filter fun z => z.2.isDeed) := by
      refine ⟨so.filter _, fun x => ?_, ?_⟩
      · constructor
        · intro hx
          obtain ⟨z, hz, rfl⟩ := List.mem_map.mp hx
          exact ⟨List.mem_map.mpr ⟨z, (hsub z hz).1, rfl⟩, (hsub z hz).2⟩
        · rintro ⟨hx, hd⟩
          obtain ⟨z, hz, rfl⟩ := List.mem_map.mp hx
          exact List.mem_map.mpr ⟨z, List.mem_filter.mpr ⟨pm.mem_iff.mpr hz, hd⟩, rfl⟩
      · have h1 := List.length_filter_le (fun z : Addr × En => z.2.isDeed) zs'
        have h2 := pm.length_eq
        have h3 := hB.len
        omega
    generalize (zs'.filter fun z => z.2.isDeed) = ds at ep5 hsub hDU
    have nwp : wd ≠ p5 := fr5.ne ew (nk _)
    have nwr : wd ≠ r := fun z => by
      rw [z, er] at nwd
      cases nwd
    refine ⟨p5, rfl, ⟨_, SqL.of ep5⟩, ?_⟩
    refine for_list (K := K) (a := p5) (xs := refs ds) (fun i σ H' => ∃ y5, σ = [some (.ref b), some (.int d), some (.int kk), some (.ref r), some (.ref wd), y5] ∧ (∀ b o, b ≠ wd → H5 b = some o → H' b = some o) ∧ H' wd = some (.dK (wdE (ens zs) d kk (ens (ds.take i)))) ∧ Tabs T H') ⟨none, rfl, fun _ _ _ h => h, e5 _ _ ew (nk _), T5⟩ (fun i σ H' _ h => ?_) ?_ ?_
    · obtain ⟨_, _, kp, _⟩ := h
      exact SqL.of (kp _ _ nwp.symm ep5)
    · rintro i x σ H' hx ⟨y5, rfl, kp, ewd, T'⟩
      obtain ⟨z, hz, rfl⟩ := ref_at hx
      have hzm := List.mem_of_getElem? hz
      have hi : i < ds.length := (List.getElem?_eq_some_iff.mp hz).1
      have hdl := hDU.2.2
      obtain ⟨hz1, hz2⟩ := hsub z hzm
      have hez : z.2 ∈ ens zs := List.mem_map.mpr ⟨z, hz1, rfl⟩
      have kT : KpT H H' := fun b0 xs0 h0 => kp _ _ (frw.ne h0 fun ps z => by cases z).symm.symm (ExtN.tup (e04.trans e5) _ _ h0)
      have er' : H' r = some (.lst (refs fs)) := kp _ _ nwr.symm (e5 _ _ (e4 _ _ er (nl _)) (nl _))
      have kT3 : KpT H3 H' := fun b0 xs0 h0 => kp _ _ (ne_of_none h0 nwd) (ExtN.tup (e4.trans e5) _ _ h0)
      have hEz := (hB.ent z hz1).kp kT
      obtain ⟨xs, ex, g0, _⟩ := hEz.tup
      have hnd : ((ens ds).map (·.num)).Nodup := hDU.nodup
      have hnt : ((ds.take i).map (fun z => z.2.num)).Nodup := by
        have e1 : (ens ds).map (·.num) = ds.map (fun z => z.2.num) := by simp [ens, List.map_map, Function.comp_def]
        rw [e1] at hnd
        exact ((List.take_sublist i ds).map _).nodup hnd
      refine ⟨_, rfl, _, rfl, _, rfl, _, rfl, _, rfl, z.1, r, wd, z.2, n, ens zs, d, kk, fs, _, rfl, hEz, hez, hz2, hB.ok, er', fun u hu => (hfE u hu).kp kT3, hF, ewd, fun m hm => ?_, fun H6 s6 => ?_⟩
      · obtain ⟨h1, h2⟩ := (hB.ok.ok z.2 hez).rest m hm
        obtain ⟨u, hu1, hu2, hu3⟩ := dn_at h1
        refine ⟨u, hu1, hu2, hu3, ?_⟩
        obtain ⟨v, hv, rfl⟩ := List.mem_map.mp ((hDU.2.1 u).mpr ⟨hu1, hu2⟩)
        have hvt : v ∈ ds.take i := by
          obtain ⟨j, hj, ej⟩ := List.mem_iff_getElem.mp hv
          have hji : j < i := by
            rcases Nat.lt_or_ge j i with q1 | q1
            · exact q1
            · have ei : ds[i] = z := by
                rw [List.getElem?_eq_getElem hi] at hz
                exact Option.some.inj hz
              rcases Nat.eq_or_lt_of_le q1 with q2 | q2
              · subst q2
                rw [ei] at ej
                rw [← ej] at hu3
                omega
              · have := List.pairwise_iff_getElem.mp hDU.1 i j hi hj q2
                rw [ei, ej] at this
                omega
          exact List.mem_take_iff_getElem.mpr ⟨j, by omega, ej⟩
        have hv1 := valV_map (f := fun z : Addr × En => z.2.num) (g := fun z : Addr × En => V.str (st (ens zs) d kk z.2)) hnt hvt
        rw [← hu3, show wdE (ens zs) d kk (ens (ds.take i)) = (ds.take i).map (fun z : Addr × En => ((Sum.inl z.2.num : Key), V.str (st (ens zs) d kk z.2))) by simp [wdE, ens, List.map_map, Function.comp_def]]
        exact hv1
      · obtain ⟨xs6, ex6, g06, _⟩ := (hEz.kp (Same.tup s6)).tup
        have ewd6 := s6 _ _ ewd
        have hnew : (Sum.inl z.2.num : Key) ∉ (wdE (ens zs) d kk (ens (ds.take i))).map (·.1) := fun hm => by
          obtain ⟨kv, hkv, ekv⟩ := List.mem_map.mp hm
          obtain ⟨e', he', rfl⟩ := List.mem_map.mp hkv
          injection ekv with ekv
          obtain ⟨v, hv, rfl⟩ := List.mem_map.mp he'
          obtain ⟨j, hj, ej⟩ := List.mem_take_iff_getElem.mp hv
          have ei : ds[i] = z := by
            rw [List.getElem?_eq_getElem hi] at hz
            exact Option.some.inj hz
          have := List.pairwise_iff_getElem.mp hDU.1 j i (by omega) hi (by omega)
          rw [ei, ej] at this
          omega
        refine ⟨_, rfl, _, rfl, z.1, xs6, 0, _, rfl, rfl, SqT.of ex6, g06, wd, _, rfl, DPut.k (k := Sum.inl z.2.num) ewd6 (small1000 ?_), ?_⟩
        · rw [List.length_map, List.length_map, List.length_take]
          omega
        refine ⟨_, rfl, fun b0 o0 nb0 h0 => ?_, ?_, ?_⟩
        · rw [upd_ne nb0]
          exact s6 _ _ (kp _ _ nb0 h0)
        · rw [upd_same, putK_new hnew, take_more hz]
          simp [wdE, ens]
        · intro q0 hq0
          obtain ⟨ps, h1, h2, h3⟩ := (T'.ext s6) q0 hq0
          have n1 : q0.1 ≠ wd := fun z0 => by
            rw [z0, ewd6] at h1
            cases h1
          refine ⟨ps, by rw [upd_ne n1]; exact h1, h2, fun pos cv hcv => ?_⟩
          obtain ⟨c0, e1, e2'⟩ := h3 pos cv hcv
          refine ⟨c0, e1, ?_⟩
          have n2 : c0 ≠ wd := fun z0 => by
            rw [z0, ewd6] at e2'
            unfold CodeO at e2'
            cases e2'
          rw [upd_ne n2]
          exact e2'
    · rintro σ H' ⟨y5, rfl, kp, ewd, T'⟩
      have el : ds.take (refs ds).length = ds := List.take_of_length_le (by rw [List.length_map]; exact Nat.le_refl _)
      rw [el] at ewd
      refine ⟨_, rfl, q wd ds H' (fun b0 o0 h0 ht => ?_) T' frw ewd hDU⟩
      exact kp _ _ (frw.ne h0 ht) ((e04.trans e5) _ _ h0 ht)
end
end Deed

namespace Deed
open PySem PySem.Spec PyProof.Rows L2 LamX
/-! ### list(d.values()) -/
def tListVals (te : TE) : TE := fun σ H Q => te σ H fun x H1 => ∃ (d : Addr) (kvs : List (Key × V)), x = .ref d ∧ H1 d = some (.dK kvs) ∧ ∀ p, H1 p = none → Q (.ref p) (upd H1 p (.lst (kvs.map (·.2))))
theorem vals_snd {kvs : List (Key × V)} {vs : List (Key × Value)} (kv : KV kvs vs) : Vals (kvs.map (·.2)) (vs.map (·.2)) := by
  have kv' : Paired (fun (p : Key × V) (q : Key × Value) => p.1 = q.1 ∧ RelV p.2 q.2) kvs vs := kv
  induction kv' with
  | nil => exact .nil
  | cons h _ ih => exact .cons h.2 (ih (by assumption))
section
variable {X : Cx} {e : Expr} {te : TE} {p apos cpos pos : Pos}
theorem pe_listVals (hc : X.calm = true) (he : PE X e te) (hg : Gl X "list") (hm : X.mg "list" = none) (hbase : attributeBase e "values" X.env (eval e X.env) = eval e X.env := by rfl) (hline : (apos.endLine == cpos.line) = true := by rfl)
    (hs : starEach [.Call (.Attribute e "values" apos) [] [] cpos] X.env = (false, eval (.Call (.Attribute e "values" apos) [] [] cpos) X.env) :: starEach [] X.env := by rfl) :
    PE X (.Call (.Name "list" p) [.Call (.Attribute e "values" apos) [] [] cpos] [] pos) (tListVals te) := by
  refine ⟨fun pins s σ H Q I hq => ?_⟩
  refine wpAny_Call_Name_kw (ld_blt I hg hm (show bootBuiltins "list" = some (.type "list") by decide +kernel) ?_)
  refine PyProof.Rows.callWith_type1 (?_) hs rfl
  rw [hs]
  show wpAny _ _ (spliced ((false, eval (.Call (.Attribute e "values" apos) [] [] cpos) X.env) :: backTo pos (starEach [] X.env))) _ _ s
  refine Calls.spliced_cons (?_)
  refine wpAny_Call_method (T := "dict") (id := "dict.values") hbase rfl hline F.plainAttrs_dict F.slot_dict_values F.type_dict_values (thn (he.run pins s σ H _ I hq) fun u s1 ⟨x, H1, I1, rx, d, kvs, ex, hd, q⟩ => ?_)
  subst ex
  obtain rfl : u = Value.ref d := rx
  obtain ⟨hz, hs0, vs, kv, hdo⟩ := I1.hok d _ hd
  obtain ⟨ep, hat⟩ := hdo.dictAt
  have lk : kvs.length = vs.length := Paired.length kv
  have I2 : Inv X pins σ H1 { s1 with heap := s1.heap.push { cls := .type "dict_values", data := .fields #[.ref d] } } := I1.kept (t' := s1.toks) fun b ob q => Heap.get?_push_of_some _ q
  refine ⟨hdo.typeIs, hdo.mapOf.noDict, ?_⟩
  show wpAny _ _ (callWith cpos (.builtin "dict.values") [.ref d] [] []) _ X.xe s1
  refine method_meetsIn F.slot_dict_values F.entry_dict_values rfl (PySem.evalArgs_none ⟨rfl, hdo.typeIs, F.args_dict_values_1 _, _, meets_dict_values (mixKind X.prog X.w) d hs0, ⟨vs, hdo⟩, ?_⟩)
  refine Calls.spliced_nil (?_)
  refine PySem.W.kdl_call (PySem.W.kdl_values (knd := mixKind X.prog X.w) (kvs := vs) (ep := ep)) (I1.ok.hd hc) ⟨⟨_, Heap.get?_push_size _ rfl, rfl, rfl⟩, hat.push _⟩ (by omega) fun h' tk acc c hk hS hit => ?_
  have ea : acc.toList = vs.map (·.2) := by
    apply List.ext_getElem?
    intro i
    rw [List.getElem?_map]
    by_cases hi : i < vs.length
    · have h1 : i < acc.size := by rw [hit.1]; exact hi
      obtain ⟨k, hk'⟩ := hit.2 i acc[i] (Array.getElem?_eq_getElem h1)
      rw [hk', Array.getElem?_toList, Array.getElem?_eq_getElem h1]
      rfl
    · have h1 : acc.size ≤ i := by rw [hit.1]; omega
      have h2 : vs[i]? = none := List.getElem?_eq_none (by omega)
      rw [h2, Array.getElem?_toList, Array.getElem?_eq_none h1]
      rfl
  have hv := vals_snd kv
  rw [← ea] at hv
  exact ⟨.ref _, _, I2.laid (t' := tk) hk (Nat.le_refl _) (show ObjOk X.prog X.w _ h' _ (.lst (kvs.map (·.2))) from ⟨by rw [List.length_map]; exact hz, acc.toList, c, hv, by rw [Array.toArray_toList]; exact hS⟩), rfl, q _ (I2.hok.fresh (Nat.le_refl _))⟩
end
end Deed

namespace Deed
open PySem PySem.Spec PyProof.Rows L2 LamX
/-- a lesser number stands ahead -/
theorem mem_before {ys : List (Addr × En)} {i : Nat} {z v : Addr × En} (up : ys.Pairwise (fun a b => a.2.num < b.2.num)) (hz : ys[i]? = some z) (hv : v ∈ ys) (h : v.2.num < z.2.num) : v ∈ ys.take i := by
  obtain ⟨j, hj, ej⟩ := List.mem_iff_getElem.mp hv
  obtain ⟨hi, ei⟩ := List.getElem?_eq_some_iff.mp hz
  have hji : j < i := by
    rcases Nat.lt_or_ge j i with q1 | q1
    · exact q1
    · rcases Nat.eq_or_lt_of_le q1 with q2 | q2
      · subst q2
        rw [ei] at ej
        rw [ej] at h
        omega
      · have := List.pairwise_iff_getElem.mp up i j hi hj q2
        rw [ei, ej] at this
        omega
  exact List.mem_take_iff_getElem.mpr ⟨j, by omega, ej⟩
theorem not_before {ys : List (Addr × En)} {i : Nat} {z v : Addr × En} (up : ys.Pairwise (fun a b => a.2.num < b.2.num)) (hz : ys[i]? = some z) (hv : v ∈ ys.take i) : v.2.num < z.2.num := by
  obtain ⟨hi, ei⟩ := List.getElem?_eq_some_iff.mp hz
  obtain ⟨j, hj, ej⟩ := List.mem_take_iff_getElem.mp hv
  have := List.pairwise_iff_getElem.mp up j i (by omega) hi (by omega)
  rw [ei, ej] at this
  exact this
section
variable {P : Program} {w : World} {K : PySem.W.Frag} {mg : Str → Option Value} {base : Heap} {T : List (Addr × Str)} {fOf fFc fAn : Addr} {dOf dFc dAn : FuncData}
abbrev sAny : Stmt := topS 53
abbrev nAny : List Str := ["_law_entries_here", "_law_number", "_law_words_here", "_law_d", "_law_k", "_law_one"]
abbrev pAny : List Str := ["_law_entries_here", "_law_number", "_law_words_here", "_law_d", "_law_k"]
theorem scAny : FnScope nAny pAny (defScope sAny) := ⟨rfl, rfl, rfl, by decide +kernel, rfl, by decide +kernel, by decide +kernel⟩
def spAny : Sp := fun vs H Q _ => ∃ (ed wa : Addr) (m d k : Int) (x : Str) (n : Nat) (zs : List (Addr × En)), vs = [.ref ed, .int m, .ref wa, .int d, .int k] ∧ EdAt H ed n zs ∧ H wa = some (.tup [.str x]) ∧ x ≠ "deed" ∧ ∀ H', Same H H' → Q (.bl (anyF (ens zs) d k x m)) H'
theorem ok_any {f : Addr} {fd : FuncData} {k : Nat} (F : Fun K "_law_any" "_law_any" sAny f fd) (DF : OfD K mg fOf dOf) (ms : mg "sorted" = none) (DC : ForceD K mg fFc dFc) (GC : FnOk P w K mg base CX0 (k + 1) fFc dFc pForce (spForce 31)) : FnOk P w K mg base CX0 (k + 2) f fd pAny spAny := by
  have GF : FnOk P w K mg base CX0 (k + 1) fOf dOf pOf spOf := ok_of DF.F ms
  refine F.ok scAny (fun vs H Q E h => ?_) (fun cdv A outer s H vs Q E hr h => ?_)
  · obtain ⟨ed, wa, m, d, k, x, n, zs, rfl, _⟩ := h
    rfl
  · obtain ⟨ed, wa, m, d, k', x, n, zs, rfl, hE, hW, hx, q⟩ := h
    refine ⟨_, pss_one (ps_ret (pe_cmpR (op_neD hr.units) (pe_lc (own := [("_law_one", 5)]) (g := gName 5) (by rfl) scAny.nd (pi_list (pe_call GF hr (by rfl) DF.g DF.F.kp DF.b .nil pass0 (pa_cons (pv 0) (pa_cons (pv 1) (pa_cons (pv 2) pa_nil))))) (blkOk_by (own := [("_law_one", 5)]) (N := nAny) (sc := defScope sAny) (by decide +kernel)) (fun _ _ _ _ _ => pg_name (i := 5) scAny.nd rfl (Or.inl rfl))
        (fun _ _ _ _ _ => pts_one (pt_val (pe_call GC hr (by rfl) DC.g DC.F.kp DC.b .nil pass0 (pa_cons (pv 0) (pa_cons (pv 5) (pa_cons (pv 3) (pa_cons (pv 4) pa_nil))))))) (fun _ _ _ _ _ => pv 5)) (pe_lst pa_nil) (nomark _))), ?_⟩
    refine ⟨_, rfl, _, rfl, _, rfl, ed, wa, m, [x], n, zs, rfl, hE, hW, fun hh => hx (List.mem_singleton.mp hh).symm, fun p ns H2 s2 np ep pm up => ?_⟩
    refine ⟨p, rfl, ⟨_, SqL.of ep⟩, fun D2 nD => ?_⟩
    have on_iff : ∀ u, onAny [x] m u = isOn x m u := fun u => by
      unfold onAny isOn
      simp
    refine lc_list (K := K) (a := p) (xs := ns.map V.int) (fun i H' => ∃ rs : List Int, H' D2 = some (.lst (rs.map V.int)) ∧ Same H2 H' ∧ rs.length ≤ i ∧ (rs = [] ↔ ∀ y ∈ ns.take i, ∀ u ∈ ens zs, u.num = y → frc (ens zs) d k' u = false)) ⟨[], upd_same, fun b o e => by rw [upd_ne (ne_of_none e nD)]; exact e, Nat.le_refl _, by simp⟩ (fun i H' _ h => ?_) ?_ ?_
    · obtain ⟨rs, _, sm, _⟩ := h
      exact SqL.of (sm _ _ ep)
    · rintro i y H' hx' ⟨rs, eD, sm, hrl, hiff⟩
      rw [List.getElem?_map] at hx'
      cases hn : ns[i]? with
      | none => rw [hn] at hx'; cases hx'
      | some mm =>
        rw [hn] at hx'
        injection hx' with hx'
        subst hx'
        obtain ⟨u, hu1, rfl⟩ := List.mem_map.mp (pm.mem_iff.mp (List.mem_of_getElem? hn))
        obtain ⟨hu2, hu3⟩ := List.mem_filter.mp hu1
        have ru := hE.ok.rng u hu2
        have et := take_more hn
        have hlen : ns.length ≤ 16 := by
          rw [pm.length_eq, List.length_map]
          have a1 := List.length_filter_le (onAny [x] m) (ens zs)
          rw [List.length_map] at a1
          have a2 := hE.len
          omega
        have hi : i < ns.length := (List.getElem?_eq_some_iff.mp hn).1
        refine ⟨rfl, _, rfl, _, rfl, _, rfl, _, rfl, ed, u, d, k', n, zs, rfl, (hE.same s2).same sm, hu2, by omega, fun H3 s3 => ⟨_, rfl, ?_⟩⟩
        cases hfr : frc (ens zs) d k' u with
        | true =>
          refine iteT ?_
          refine ⟨_, rfl, _, s3 _ _ eD, small1000 (by rw [List.length_map]; omega), rs ++ [u.num], ?_, fun b o e => ?_, ?_, ?_⟩
          · rw [upd_same, List.map_append]
            rfl
          · rw [upd_ne (ne_of_none e nD)]
            exact s3 _ _ (sm _ _ e)
          · rw [List.length_append]
            show rs.length + 1 ≤ i + 1
            omega
          · constructor
            · intro h
              exact absurd h (by simp)
            · intro h
              have := h u.num (by rw [et]; exact List.mem_append_right _ List.mem_cons_self) u hu2 rfl
              rw [hfr] at this
              cases this
        | false =>
          refine iteF ?_
          refine ⟨rs, s3 _ _ eD, sm.trans s3, by omega, ?_⟩
          rw [hiff, et]
          constructor
          · intro h y hy u' hu' he'
            rcases List.mem_append.mp hy with hy | hy
            · exact h y hy u' hu' he'
            · rw [List.mem_singleton.mp hy] at he'
              rw [num_inj hE.ok hu' hu2 he']
              exact hfr
          · intro h y hy u' hu' he'
            exact h y (List.mem_append_left _ hy) u' hu' he'
    · rintro H' ⟨rs, eD, sm, hrl, hiff⟩
      have el : ns.take (ns.map V.int).length = ns := List.take_of_length_le (by rw [List.length_map]; exact Nat.le_refl _)
      rw [el] at hiff
      refine ⟨Nat.zero_le _, fun g ng => ?_⟩
      have s3 : Same H' (upd H' g (.lst [])) := fun b o e => by rw [upd_ne (ne_of_none e ng)]; exact e
      have eg : (upd H' g (.lst [])) g = some (.lst []) := upd_same
      refine ⟨.list (rs.map .int), .list (([] : List Int).map .int), .lst (SqL.of (s3 _ _ eD)) (dp_ints rs), .lst (SqL.of eg) (dp_ints []), shaped_ints rs, shaped_ints [], ?_⟩
      rw [eqv_ints]
      have fin : (!decide (rs = [])) = anyF (ens zs) d k' x m := by
        unfold anyF
        rw [Bool.eq_iff_iff, List.any_eq_true]
        have nn : (!decide (rs = [])) = true ↔ ¬ rs = [] := by simp
        rw [nn, hiff]
        constructor
        · intro h
          rcases Classical.em (∃ u ∈ ens zs, (isOn x m u && frc (ens zs) d k' u) = true) with h1 | h1
          · exact h1
          · refine absurd (fun y hy u hu he' => ?_) h
            obtain ⟨u', hu1, hu2⟩ := List.mem_map.mp (pm.mem_iff.mp hy)
            obtain ⟨hu3, hu4⟩ := List.mem_filter.mp hu1
            have ee : u = u' := num_inj hE.ok hu hu3 (he'.trans hu2.symm)
            subst ee
            rw [on_iff] at hu4
            cases hf : frc (ens zs) d k' u with
            | false => rfl
            | true => exact absurd ⟨u, hu, by rw [hu4, hf]; rfl⟩ h1
        · rintro ⟨u, hu, hh⟩ hall
          rw [Bool.and_eq_true] at hh
          have hm : u.num ∈ ns := pm.mem_iff.mpr (List.mem_map.mpr ⟨u, List.mem_filter.mpr ⟨hu, by rw [on_iff]; exact hh.1⟩, rfl⟩)
          have := hall u.num hm u hu rfl
          rw [this] at hh
          exact absurd hh.2 (by simp)
      rw [fin]
      exact q _ (s2.trans (sm.trans s3))
/-! ### what all deeds are, by itself -/
abbrev sWords : Stmt := topS 54
abbrev nWords : List Str := ["_law_entries_here", "_law_d", "_law_k", "_law_found", "_law_number", "_law_entry_here", "_law_lost", "_law_rest"]
abbrev pWords : List Str := ["_law_entries_here", "_law_d", "_law_k"]
theorem scWords : FnScope nWords pWords (defScope sWords) := ⟨rfl, rfl, rfl, by decide +kernel, rfl, by decide +kernel, by decide +kernel⟩
def spWords : Sp := fun vs H Q _ => ∃ (ed : Addr) (d k : Int) (n : Nat) (zs : List (Addr × En)), vs = [.ref ed, .int d, .int k] ∧ EdAt H ed n zs ∧
  ∀ (p : Addr) (ys : List (Addr × En)) (H' : Hp), Same H H' → H p = none → H' p = some (.dK (wdE (ens zs) d k (ens ys))) → DeedsUp zs ys → Q (.ref p) H'
def t_lost (K : PySem.W.Frag) : TT := tTest (tOp (rIn K true) (tDGet (tVar 3) (tVar 7)) (tTup (tCons (tC (.str "stands")) (tCons (tC (.str "paid")) tNil))))
theorem ok_words {f : Addr} {fd : FuncData} {k : Nat} (F : Fun K "_law_words" "_law_words" sWords f fd) (DA : Df K mg "_law_any" sAny pAny fAn dAn) (GA : FnOk P w K mg base CX0 (k + 1) fAn dAn pAny spAny) (ms : mg "sorted" = none) (mi : mg "int" = none) : FnOk P w K mg base CX0 (k + 2) f fd pWords spWords := by
  refine F.ok scWords (fun vs H Q E h => ?_) (fun cdv A outer s H vs Q E hr h => ?_)
  · obtain ⟨ed, d, k, n, zs, rfl, _⟩ := h
    rfl
  · obtain ⟨ed, d, kk, n, zs, rfl, hE, q⟩ := h
    have hu := hu_of hr
    have nd := scWords.nd
    refine ⟨_, pss_cons (ps_set (i := 3) nd rfl (.inr rfl) pe_dnewK)
      (pss_cons (ps_for PassesOwn.never rfl (pi_list (pe_callB (call_sortedDI rfl) (by rfl) ms (by decide +kernel) (pa_cons (pv 0) pa_nil))) (pg_name (i := 4) nd rfl (.inl rfl))
        (pss_cons (ps_set (i := 5) nd rfl (.inl rfl) (pe_dget hu (pv 0) (pv 4) (fun _ _ => rfl)))
        (pss_one (ps_if (pt_cmpR op_eq (pe_ix ix_tup (pv 5) pe_int (fun _ _ => rfl)) pe_str (nomark _))
          (pss_cons (ps_setLc (i := 6) (own := [("_law_rest", 7)]) (g := gName 7) (by rfl) nd rfl rfl (sw_true rfl rfl rfl (by decide +kernel)) (pi_tup (pe_ix ix_tup (pv 5) pe_int (fun _ _ => rfl))) (blkOk_by (own := [("_law_rest", 7)]) (N := nWords) (sc := defScope sWords) (by decide +kernel)) (fun _ _ _ _ _ => pg_name (i := 7) nd rfl (Or.inl rfl))
              (fun _ _ _ _ _ => show PTs _ _ (t_lost K) from pts_one (pt_cmpR op_notIn_seq (pe_dget hu (pv 3) (pv 7) (fun _ _ => rfl)) (pe_tup (pa_cons pe_str (pa_cons pe_str pa_nil))) (by rfl))) (fun _ _ _ _ _ => pv 7))
          (pss_one (ps_if (PW.pt (pw_or (pt_cmpR op_gt (pe_ix ix_tup (pv 5) pe_int (fun _ _ => rfl)) (pv 2) (nomark _)) (pw_or1 (pt_cmpR op_gt (pe_ix ix_tup (pv 5) pe_int (fun _ _ => rfl)) (pv 1) (nomark _)))))
            (pss_one (ps_dput hu (pv 3) (pv 4) (pe_ix ix_list (pe_lst (pa_cons pe_str (pa_cons pe_str pa_nil))) (pe_callTy call_int1 (by rfl) mi (by decide +kernel) (pa_cons (pe_cmpR op_gt (pe_ix ix_tup (pv 5) pe_int (fun _ _ => rfl)) (pv 2) (nomark _)) pa_nil)) (fun _ _ => rfl)) rfl))
            (pss_one (ps_if (pt_val (pe_call GA hr (by rfl) DA.g DA.F.kp DA.b .nil pass0 (pa_cons (pv 0) (pa_cons (pv 4) (pa_cons (pe_tup (pa_cons pe_str pa_nil)) (pa_cons (pv 1) (pa_cons (pv 2) pa_nil)))))))
              (pss_one (ps_dput hu (pv 3) (pv 4) pe_str rfl))
              (pss_one (ps_if (pt_cmpR (op_neD hr.units) (pv 6) (pe_lst pa_nil) (nomark _))
                (pss_one (ps_dput hu (pv 3) (pv 4) pe_str rfl))
                (pss_one (ps_dput hu (pv 3) (pv 4) (pe_ix ix_list (pe_lst (pa_cons pe_str (pa_cons pe_str pa_nil))) (pe_callTy call_int1 (by rfl) mi (by decide +kernel) (pa_cons (pe_call GA hr (by rfl) DA.g DA.F.kp DA.b .nil pass0 (pa_cons (pv 0) (pa_cons (pv 4) (pa_cons (pe_tup (pa_cons pe_str pa_nil)) (pa_cons (pv 1) (pa_cons (pv 2) pa_nil)))))) pa_nil)) (fun _ _ => rfl)) rfl)))))))))
          pss_nil))))
      (pss_one (ps_ret (pv 3)))), ?_⟩
    refine fun fo nfo => ?_
    have s1 : Same H (upd H fo (.dK [])) := fun b o e => by rw [upd_ne (ne_of_none e nfo)]; exact e
    have e1 : (upd H fo (.dK [])) fo = some (.dK []) := upd_same
    generalize (upd H fo (.dK [])) = H1 at s1 e1
    have hE1 := hE.same s1
    refine ⟨_, rfl, ed, dks zs, (ens zs).map (·.num), rfl, .inl hE1.at_, by simp [dks, ens], by rw [List.length_map, List.length_map]; have := hE.len; omega, fun ns sl pm up nsl => ?_⟩
    have s2 : Same H1 (upd H1 sl (.lst (ns.map V.int))) := fun b o e => by rw [upd_ne (ne_of_none e nsl)]; exact e
    have esl : (upd H1 sl (.lst (ns.map V.int))) sl = some (.lst (ns.map V.int)) := upd_same
    have e2 := s2 _ _ e1
    have nfs : fo ≠ sl := ne_of_none e1 nsl
    generalize (upd H1 sl (.lst (ns.map V.int))) = H2 at s2 esl e2
    have s12 := s1.trans s2
    obtain ⟨zs2, rfl, pz⟩ := perm_pairs (fun z : Addr × En => z.2.num) (ys := ns) (xs := (ens zs).map (·.num)) pm zs (by simp [ens])
    have nd2 : (zs2.map fun z => z.2.num).Nodup := by
      have e : (ens zs).map (·.num) = zs.map (fun z => z.2.num) := by simp [ens]
      have := hE.ok.nd
      rw [e] at this
      exact (pz.map _).nodup_iff.mpr this
    have up2 : zs2.Pairwise (fun a b => a.2.num < b.2.num) := List.pairwise_map.mp (rising_of nd2 up)
    have l2 : zs2.length ≤ 16 := by rw [pz.length_eq]; exact hE.len
    refine ⟨sl, rfl, ⟨_, SqL.of esl⟩, ?_⟩
    refine for_list (K := K) (a := sl) (xs := (zs2.map fun z => z.2.num).map V.int) (fun i σ H' => ∃ y4 y5 y6 y7, σ = [some (.ref ed), some (.int d), some (.int kk), some (.ref fo), y4, y5, y6, y7] ∧ Same H H' ∧ H' sl = some (.lst ((zs2.map fun z => z.2.num).map V.int)) ∧ H' fo = some (.dK (wdE (ens zs) d kk (ens ((zs2.take i).filter fun z => z.2.isDeed))))) ⟨none, none, none, none, rfl, s12, esl, e2⟩ (fun i σ H' _ h => ?_) ?_ ?_
    · obtain ⟨_, _, _, _, _, _, e, _⟩ := h
      exact SqL.of e
    · rintro i x σ H' hx ⟨y4, y5, y6, y7, rfl, sm, es', ef⟩
      rw [List.getElem?_map, List.getElem?_map] at hx
      cases hz : zs2[i]? with
      | none => rw [hz] at hx; cases hx
      | some z =>
        rw [hz] at hx
        injection hx with hx
        subst hx
        have hzm2 := List.mem_of_getElem? hz
        have hzm : z ∈ zs := pz.mem_iff.mp hzm2
        have hez : z.2 ∈ ens zs := List.mem_map.mpr ⟨z, hzm, rfl⟩
        have hi : i < zs2.length := (List.getElem?_eq_some_iff.mp hz).1
        have hE' := hE.same sm
        have et := take_more hz
        have wd := (hE.ok.ok z.2 hez).word
        obtain ⟨xs, ex, g0, g1, g2, _, g4⟩ := (hE'.ent z hzm).tup
        refine ⟨_, rfl, _, rfl, ed, _, rfl, hE'.get hzm, ?_⟩
        refine ⟨_, rfl, z.1, xs, 4, _, rfl, rfl, SqT.of ex, g4, rfl, _, rfl, ?_⟩
        refine ite2 (fun c => ?_) (fun c => ?_)
        · have hd : z.2.isDeed = true := wd.mp (by
            have := of_decide_eq_true c
            injection this)
          -- the put, whatever way leads there
          have hnew : (Sum.inl z.2.num : Key) ∉ (wdE (ens zs) d kk (ens ((zs2.take i).filter fun z => z.2.isDeed))).map (·.1) := fun hm => by
            obtain ⟨kv, hkv, ekv⟩ := List.mem_map.mp hm
            obtain ⟨e', he', rfl⟩ := List.mem_map.mp hkv
            injection ekv with ekv
            obtain ⟨v, hv, rfl⟩ := List.mem_map.mp he'
            have := not_before up2 hz (List.mem_filter.mp hv).1
            omega
          have hlk : (wdE (ens zs) d kk (ens ((zs2.take i).filter fun z => z.2.isDeed))).length < sizeLine := small1000 (by
            have h1 := List.length_filter_le (fun z : Addr × En => z.2.isDeed) (zs2.take i)
            rw [List.length_take] at h1
            rw [List.length_map, List.length_map]
            omega)
          have eput : putK (wdE (ens zs) d kk (ens ((zs2.take i).filter fun z => z.2.isDeed))) (.inl z.2.num) (.str (st (ens zs) d kk z.2)) = wdE (ens zs) d kk (ens ((zs2.take (i + 1)).filter fun z => z.2.isDeed)) := by
            rw [putK_new hnew, et, List.filter_append]
            simp [wdE, ens, hd]
          have done : ∀ (y6 y7 : Option V) (H9 : Hp), Same H' H9 → ∃ H10, DPut H9 fo (.int z.2.num) (.str (st (ens zs) d kk z.2)) H10 ∧ ∃ a4 a5 a6 a7, [some (.ref ed), some (.int d), some (.int kk), some (.ref fo), some (V.int z.2.num), some (V.ref z.1), y6, y7] = [some (.ref ed), some (.int d), some (.int kk), some (.ref fo), a4, a5, a6, a7] ∧ Same H H10 ∧ H10 sl = some (.lst ((zs2.map fun z => z.2.num).map V.int)) ∧ H10 fo = some (.dK (wdE (ens zs) d kk (ens ((zs2.take (i + 1)).filter fun z => z.2.isDeed)))) := fun y6 y7 H9 s9 => by
            refine ⟨_, DPut.k (k := Sum.inl z.2.num) (s9 _ _ ef) hlk, _, _, _, _, rfl, fun b o e => ?_, ?_, ?_⟩
            · rw [upd_ne (ne_of_none e nfo)]
              exact s9 _ _ (sm _ _ e)
            · rw [upd_ne nfs.symm]
              exact s9 _ _ es'
            · rw [upd_same, eput]
          have sq := st_eq hE.ok d kk hez
          unfold wordBy at sq
          -- lost
          obtain ⟨xs7, r, ex7, g7, er⟩ := (hE'.ent z hzm).seven hd
          have hrl : z.2.rests.length ≤ 2 := by
            have h4 := (hE.ok.ok z.2 hez).2.2.2
            unfold En.rests
            cases hk : z.2.kd with
            | deed g t rs ws =>
              rw [hk] at h4
              exact h4.2.2.2.1
            | act x o => exact Nat.zero_le _
          refine ⟨_, rfl, z.1, xs7, 7, _, rfl, rfl, SqT.of ex7, g7, r, rfl, ⟨_, SqT.of er⟩, fun D nD => ?_⟩
          refine lc_tup (K := K) (a := r) (xs := z.2.rests.map V.int) (fun i H3 => ∃ rs : List Int, H3 D = some (.lst (rs.map V.int)) ∧ Same H' H3 ∧ rs.length ≤ i ∧ ((!decide (rs = [])) = (z.2.rests.take i).any fun r => (ens zs).any fun u => isD r u && !carries (st (ens zs) d kk u))) ⟨[], upd_same, fun b o e => by rw [upd_ne (ne_of_none e nD)]; exact e, Nat.le_refl _, rfl⟩ (fun i H3 _ h => ?_) ?_ ?_
          · obtain ⟨_, _, s3, _⟩ := h
            exact SqT.of (s3 _ _ er)
          · rintro j y H3 hy ⟨rs, eD, s3, hrsl, hiff⟩
            rw [List.getElem?_map] at hy
            cases hn : z.2.rests[j]? with
            | none => rw [hn] at hy; cases hy
            | some m =>
              rw [hn] at hy
              injection hy with hy
              subst hy
              have hj : j < z.2.rests.length := (List.getElem?_eq_some_iff.mp hn).1
              obtain ⟨h1, h2⟩ := (hE.ok.ok z.2 hez).rest m (List.mem_of_getElem? hn)
              obtain ⟨u, hu1, hu2, hu3⟩ := dn_at h1
              obtain ⟨v, hv, rfl⟩ := List.mem_map.mp hu1
              have hvb : v ∈ zs2.take i := mem_before up2 hz (pz.mem_iff.mpr hv) (by omega)
              have hvf : v.2 ∈ ens ((zs2.take i).filter fun z => z.2.isDeed) := List.mem_map.mpr ⟨v, List.mem_filter.mpr ⟨hvb, hu2⟩, rfl⟩
              have ndf : ((ens ((zs2.take i).filter fun z => z.2.isDeed)).map (fun e => e.num)).Nodup := by
                have e : (ens ((zs2.take i).filter fun z => z.2.isDeed)).map (fun e => e.num) = ((zs2.take i).filter fun z => z.2.isDeed).map (fun z => z.2.num) := by simp [ens]
                rw [e]
                exact ((List.filter_sublist.trans (List.take_sublist i zs2)).map _).nodup nd2
              have dg : DGet H3 fo (.int m) (some (.str (st (ens zs) d kk v.2))) := by
                have g1' := DGet.k (k := Sum.inl m) (s3 _ _ ef)
                rw [← hu3, valV_map (f := fun e : En => e.num) (g := fun e : En => V.str (st (ens zs) d kk e)) ndf hvf] at g1'
                rw [← hu3]
                exact g1'
              have etj := take_more hn
              have lo := lost_one hE.ok d kk (r := m) hu1 hu2 hu3
              refine ⟨rfl, _, rfl, _, rfl, fo, _, rfl, dg, (by show 2 ≤ sizeLine; decide), fun tp ntp => ?_⟩
              have s4 : Same H3 (upd H3 tp (.tup [.str "stands", .str "paid"])) := fun b o e => by rw [upd_ne (ne_of_none e ntp)]; exact e
              have etp : (upd H3 tp (.tup [.str "stands", .str "paid"])) tp = some (.tup [.str "stands", .str "paid"]) := upd_same
              generalize (upd H3 tp (.tup [.str "stands", .str "paid"])) = H4 at s4 etp
              have ei : inV (.str (st (ens zs) d kk v.2)) [.str "stands", .str "paid"] = carries (st (ens zs) d kk v.2) := mem_inS (ws := ["stands", "paid"])
              refine ⟨tp, _, rfl, .inr (SqT.of etp), rfl, rfl, _, rfl, ?_⟩
              rw [ei]
              cases hc : carries (st (ens zs) d kk v.2) with
              | false =>
                refine iteT ?_
                refine ⟨_, rfl, _, s4 _ _ eD, small1000 (by rw [List.length_map]; omega), rs ++ [m], ?_, fun b o e => ?_, ?_, ?_⟩
                · rw [upd_same, List.map_append]
                  rfl
                · rw [upd_ne (ne_of_none e nD)]
                  exact s4 _ _ (s3 _ _ e)
                · rw [List.length_append]
                  show rs.length + 1 ≤ j + 1
                  omega
                · rw [etj, List.any_append, List.any_cons, lo, hc]
                  simp
              | true =>
                refine iteF ?_
                refine ⟨rs, s4 _ _ eD, s3.trans s4, by omega, ?_⟩
                rw [etj, List.any_append, List.any_cons, lo, hc, hiff]
                simp
          rintro H3 ⟨rs, eD, s3, hrsl, hiff⟩
          have elr : z.2.rests.take (z.2.rests.map V.int).length = z.2.rests := List.take_of_length_le (by rw [List.length_map]; exact Nat.le_refl _)
          rw [elr] at hiff
          have hE3 := hE'.same s3
          obtain ⟨xs3, ex3, _, h1, h2, _⟩ := (hE3.ent z hzm).tup
          -- unknown, ahead
          refine ⟨_, rfl, z.1, xs3, 2, _, rfl, rfl, SqT.of ex3, h2, _, rfl, _, _, rfl, rfl, _, rfl, ?_⟩
          refine ite2 (fun c1 => ?ua1) (fun c1 => (⟨_, rfl, z.1, xs3, 1, _, rfl, rfl, SqT.of ex3, h1, _, rfl, _, _, rfl, rfl, _, rfl, ite2 (fun c2 => ?ua2) (fun c2 => ?nx)⟩))
          case nx =>
            have c1' : ¬ kk < z.2.wri := fun q0 => c1 (decide_eq_true q0)
            have c2' : ¬ d < z.2.day := fun q0 => c2 (decide_eq_true q0)
            rw [if_neg c1', if_neg c2'] at sq
            refine ⟨_, rfl, _, rfl, (by show 1 ≤ sizeLine; decide), fun wa nwa => ?_⟩
            have s4 : Same H3 (upd H3 wa (.tup [.str "void"])) := fun b o e => by rw [upd_ne (ne_of_none e nwa)]; exact e
            have ewa : (upd H3 wa (.tup [.str "void"])) wa = some (.tup [.str "void"]) := upd_same
            generalize (upd H3 wa (.tup [.str "void"])) = H4 at s4 ewa
            refine ⟨_, rfl, _, rfl, ed, wa, z.2.num, d, kk, "void", n, zs, rfl, hE3.same s4, ewa, by decide, fun H5 s5 => ⟨_, rfl, ?_⟩⟩
            have s35 := s3.trans (s4.trans s5)
            refine ite2 (fun c3 => ?_) (fun c3 => ?_)
            · rw [if_pos c3] at sq
              obtain ⟨H10, dp, fin⟩ := done (some (.ref D)) _ H5 s35
              rw [sq] at dp
              exact ⟨_, rfl, _, rfl, fo, H10, rfl, dp, fin⟩
            rw [if_neg c3] at sq
            refine ⟨_, rfl, Nat.zero_le _, fun g ng => ?_⟩
            have s6 : Same H5 (upd H5 g (.lst [])) := fun b o e => by rw [upd_ne (ne_of_none e ng)]; exact e
            have eg : (upd H5 g (.lst [])) g = some (.lst []) := upd_same
            generalize (upd H5 g (.lst [])) = H6 at s6 eg
            have s36 := s35.trans s6
            refine ⟨.list (rs.map .int), .list (([] : List Int).map .int), .lst (SqL.of ((s4.trans (s5.trans s6)) _ _ eD)) (dp_ints rs), .lst (SqL.of eg) (dp_ints []), shaped_ints rs, shaped_ints [], _, rfl, ?_⟩
            rw [eqv_ints, hiff]
            refine ite2 (fun c4 => ?_) (fun c4 => ?_)
            · rw [if_pos c4] at sq
              obtain ⟨H10, dp, fin⟩ := done (some (.ref D)) _ H6 s36
              rw [sq] at dp
              exact ⟨_, rfl, _, rfl, fo, H10, rfl, dp, fin⟩
            rw [if_neg c4] at sq
            refine ⟨(by show 2 ≤ sizeLine; decide), fun m2 nm2 => ?_⟩
            have s7 : Same H6 (upd H6 m2 (.lst [.str "stands", .str "paid"])) := fun b o e => by rw [upd_ne (ne_of_none e nm2)]; exact e
            have em2 : (upd H6 m2 (.lst [.str "stands", .str "paid"])) m2 = some (.lst [.str "stands", .str "paid"]) := upd_same
            generalize (upd H6 m2 (.lst [.str "stands", .str "paid"])) = H7 at s7 em2
            refine ⟨_, rfl, _, rfl, (by show 1 ≤ sizeLine; decide), fun wb nwb => ?_⟩
            have s8 : Same H7 (upd H7 wb (.tup [.str "paid"])) := fun b o e => by rw [upd_ne (ne_of_none e nwb)]; exact e
            have ewb : (upd H7 wb (.tup [.str "paid"])) wb = some (.tup [.str "paid"]) := upd_same
            generalize (upd H7 wb (.tup [.str "paid"])) = H8 at s8 ewb
            have s38 := s36.trans (s7.trans s8)
            refine ⟨_, rfl, _, rfl, ed, wb, z.2.num, d, kk, "paid", n, zs, rfl, hE'.same s38, ewb, by decide, fun H9 s9 => ?_⟩
            refine .inr ⟨_, rfl, ?_⟩
            obtain ⟨H10, dp, fin⟩ := done (some (.ref D)) _ H9 (s38.trans s9)
            have ga : atI [V.str "stands", V.str "paid"] (if anyF (ens zs) d kk "paid" z.2.num = true then 1 else 0) = some (.str (st (ens zs) d kk z.2)) := by
              rw [sq]
              cases anyF (ens zs) d kk "paid" z.2.num with
              | true => exact atI_nat (j := 1) rfl
              | false => exact atI_nat (j := 0) rfl
            exact ⟨m2, _, _, _, rfl, rfl, SqL.of (s9 _ _ (s8 _ _ em2)), ga, _, rfl, _, rfl, fo, H10, rfl, dp, fin⟩
          all_goals
            refine ⟨(by show 2 ≤ sizeLine; decide), fun m2 nm2 => ?_⟩
            have s4 : Same H3 (upd H3 m2 (.lst [.str "ahead", .str "unknown"])) := fun b o e => by rw [upd_ne (ne_of_none e nm2)]; exact e
            have em2 : (upd H3 m2 (.lst [.str "ahead", .str "unknown"])) m2 = some (.lst [.str "ahead", .str "unknown"]) := upd_same
            generalize (upd H3 m2 (.lst [.str "ahead", .str "unknown"])) = H4 at s4 em2
            obtain ⟨xs4, ex4, _, _, h24, _⟩ := ((hE3.same s4).ent z hzm).tup
            refine ⟨_, rfl, z.1, xs4, 2, _, rfl, rfl, SqT.of ex4, h24, _, rfl, _, _, rfl, rfl, .inr ⟨_, rfl, ?_⟩⟩
            obtain ⟨H10, dp, fin⟩ := done (some (.ref D)) _ H4 (s3.trans s4)
            have ga : atI [V.str "ahead", V.str "unknown"] (if decide (kk < z.2.wri) = true then 1 else 0) = some (.str (st (ens zs) d kk z.2)) := by
              rw [sq]
              by_cases cw : kk < z.2.wri
              · rw [if_pos cw, decide_eq_true cw]
                exact atI_nat (j := 1) rfl
              · have cd : d < z.2.day := by
                  first
                    | exact of_decide_eq_true c2
                    | exact absurd (of_decide_eq_true c1) cw
                rw [if_neg cw, if_pos cd, decide_eq_false cw]
                exact atI_nat (j := 0) rfl
            exact ⟨m2, _, _, _, rfl, rfl, SqL.of em2, ga, _, rfl, _, rfl, fo, H10, rfl, dp, fin⟩
        · have hd : z.2.isDeed = false := by
            cases hh : z.2.isDeed with
            | false => rfl
            | true =>
              refine absurd (decide_eq_true ?_) c
              rw [wd.mpr hh]
          refine ⟨_, _, _, _, rfl, sm, es', ?_⟩
          rw [ef, et, List.filter_append]
          simp [hd]
    · rintro σ H' ⟨y4, y5, y6, y7, rfl, sm, es', ef⟩
      have el : zs2.take ((zs2.map fun z => z.2.num).map V.int).length = zs2 := List.take_of_length_le (by rw [List.length_map, List.length_map]; exact Nat.le_refl _)
      rw [el] at ef
      refine ⟨_, rfl, q fo _ H' sm nfo ef ⟨up2.filter _, fun x => ?_, ?_⟩⟩
      · constructor
        · intro hx
          obtain ⟨z, hz, rfl⟩ := List.mem_map.mp hx
          obtain ⟨h1, h2⟩ := List.mem_filter.mp hz
          exact ⟨List.mem_map.mpr ⟨z, pz.mem_iff.mp h1, rfl⟩, h2⟩
        · rintro ⟨hx, hd⟩
          obtain ⟨z, hz, rfl⟩ := List.mem_map.mp hx
          exact List.mem_map.mpr ⟨z, List.mem_filter.mpr ⟨pz.mem_iff.mpr hz, hd⟩, rfl⟩
      · have h1 := List.length_filter_le (fun z : Addr × En => z.2.isDeed) zs2
        omega
end
end Deed

namespace Deed
open PySem PySem.Spec PyProof.Rows L2 LamX
/-- all but the pen and the tables is as it was -/
def XP (p : Addr) (H H' : Hp) : Prop := ∀ b o, b ≠ p → H b = some o → (∀ ps, o ≠ .tbl ps) → H' b = some o
theorem XP.refl (p : Addr) (H : Hp) : XP p H H := fun _ _ _ h _ => h
theorem XP.trans {p : Addr} {H H1 H2 : Hp} (a : XP p H H1) (b : XP p H1 H2) : XP p H H2 := fun c o n h t => b c o n (a c o n h t) t
theorem XP.ofN {p : Addr} {H H' : Hp} (e : ExtN H H') : XP p H H' := fun b o _ h t => e b o h t
theorem XP.ofK {p : Addr} {H H' : Hp} (k : Kp p H H') : XP p H H' := fun b o n h _ => k b o n h
theorem XP.ofS {p : Addr} {H H' : Hp} (s : Same H H') : XP p H H' := fun b o _ h _ => s b o h
theorem XP.tup {p : Addr} {H H' : Hp} (x : XP p H H') (P : PenAt H p) : KpT H H' := fun b xs e => x _ _ (P.ne e fun _ z => by cases z) e fun ps z => by cases z
theorem XP.toN {p : Addr} {H0 H H' : Hp} (e : ExtN H0 H) (n : H0 p = none) (x : XP p H H') : ExtN H0 H' := fun b o h t => x b o (ne_of_none h n) (e b o h t) t
theorem EdAt.xp {p : Addr} {H H' : Hp} {ed : Addr} {n : Nat} {zs : List (Addr × En)} (h : EdAt H ed n zs) (x : XP p H H') (P : PenAt H p) : EdAt H' ed n zs :=
  ⟨x _ _ (P.ne h.at_ fun _ z => by cases z) h.at_ fun ps z => (by cases z), fun z hz => (h.ent z hz).kp (x.tup P), h.ok, h.len⟩
theorem EdAt.extN {H H' : Hp} {ed : Addr} {n : Nat} {zs : List (Addr × En)} (h : EdAt H ed n zs) (e : ExtN H H') : EdAt H' ed n zs :=
  ⟨e _ _ h.at_ fun ps z => (by cases z), fun z hz => (h.ent z hz).kp (ExtN.tup e), h.ok, h.len⟩
section
variable (K : PySem.W.Frag) (mg : Str → Option Value)
abbrev CellD := Df K mg "_law_cell_at" sCell ["_law_script", "_law_k"]
abbrev PenD := Df K mg "_law_pen" sPen ["_law_cell"]
abbrev BookD := Df K mg "_law_book" sBook ["_law_pen_here", "_law_most"]
end
/-- how many cells are looked at -/
theorem turns3 (m : Nat) : ∃ tn : Int, (if (if 3 < (m : Int) then 3 else (m : Int)) > 1 then (if 3 < (m : Int) then 3 else (m : Int)) else 1) = tn ∧ 0 ≤ tn ∧ tn ≤ 3 := ⟨_, rfl, by split <;> split <;> omega, by split <;> split <;> omega⟩
end Deed

namespace Deed
open PySem PySem.Spec PyProof.Rows L2 LamX
theorem dp_strs {K : PySem.W.Frag} {H : Hp} : ∀ ns : List Str, DpAll K H (ns.map V.str) (ns.map PyData.str)
  | [] => .nil
  | n :: r => .cons (.str n) (dp_strs r)
theorem lay_strs : ∀ ns : List Str, (∀ x ∈ ns, PyData.strOk x = true) → PyData.canLayAll0 (ns.map PyData.str) = true
  | [], _ => by simp [PyData.canLayAll0]
  | n :: r, h => by simp [PyData.canLayAll0, PyData.canLay0, h n List.mem_cons_self, lay_strs r fun x hx => h x (List.mem_cons_of_mem _ hx)]
theorem depth_strs : ∀ ns : List Str, PyData.depthAll (ns.map PyData.str) ≤ 1
  | [] => by simp [PyData.depthAll]
  | n :: r => by
    have h := depth_strs r
    simp only [List.map_cons, PyData.depthAll, PyData.depth]
    omega
theorem shaped_strs (ns : List Str) (hok : ∀ x ∈ ns, PyData.strOk x = true) : SeqAt.shaped (.list (ns.map PyData.str)) = true := by
  have h1 := depth_strs ns
  have h2 : PyData.depth (.list (ns.map PyData.str)) ≤ 64 := by
    simp only [PyData.depth]
    omega
  show (PyData.canLay0 (.list (ns.map PyData.str)) && decide (PyData.depth (.list (ns.map PyData.str)) ≤ 64)) = true
  rw [Bool.and_eq_true]
  exact ⟨by simp only [PyData.canLay0]; exact lay_strs ns hok, decide_eq_true h2⟩
theorem eqvAll_strs : ∀ ns : List Str, PyData.eqvAll (ns.map PyData.str) (ns.map PyData.str) = true
  | [] => by simp [PyData.eqvAll]
  | n :: r => by simp [PyData.eqvAll, PyData.eqv, eqvAll_strs r]
theorem eqv_strs (ns : List Str) : PyData.eqv (.list (ns.map PyData.str)) (.list (ns.map PyData.str)) = true := by
  simp only [PyData.eqv]
  exact eqvAll_strs ns
theorem st_ok (es : List En) (d k : Int) (e : En) : PyData.strOk (st es d k e) = true := by
  unfold st stF wordBy
  split
  · decide +kernel
  · split
    · decide +kernel
    · split
      · decide +kernel
      · split
        · decide +kernel
        · split
          · decide +kernel
          · decide +kernel
theorem Tabs.lock {T : List (Addr × Str)} {H : Hp} (t : Tabs T H) {d : Addr} {kvs : List (Key × V)} (e : H d = some (.dK kvs)) (o : HO) : Tabs T (upd H d o) := fun q0 hq0 => by
  obtain ⟨ps, h1, h2, h3⟩ := t q0 hq0
  have n1 : q0.1 ≠ d := fun z0 => by
    rw [z0, e] at h1
    cases h1
  refine ⟨ps, by rw [upd_ne n1]; exact h1, h2, fun pos cv hcv => ?_⟩
  obtain ⟨c0, e1, e2⟩ := h3 pos cv hcv
  refine ⟨c0, e1, ?_⟩
  have n2 : c0 ≠ d := fun z0 => by
    rw [z0, e] at e2
    unfold CodeO at e2
    cases e2
  rw [upd_ne n2]
  exact e2
theorem Tabs.unlock {T : List (Addr × Str)} {H : Hp} (t : Tabs T H) {d : Addr} {ob : Obj} {kvs : List (Key × V)} (e : H d = some (.frz ob (.dK kvs))) (o : HO) : Tabs T (upd H d o) := fun q0 hq0 => by
  obtain ⟨ps, h1, h2, h3⟩ := t q0 hq0
  have n1 : q0.1 ≠ d := fun z0 => by
    rw [z0, e] at h1
    cases h1
  refine ⟨ps, by rw [upd_ne n1]; exact h1, h2, fun pos cv hcv => ?_⟩
  obtain ⟨c0, e1, e2⟩ := h3 pos cv hcv
  refine ⟨c0, e1, ?_⟩
  have n2 : c0 ≠ d := fun z0 => by
    rw [z0, e] at e2
    unfold CodeO at e2
    cases e2
  rw [upd_ne n2]
  exact e2
end Deed

namespace Deed
open PySem PySem.Spec PyProof.Rows L2 LamX
/-! ### things, as data -/
inductive Dat where
  | non
  | bl (b : Bool)
  | int (i : Int)
  | str (x : Str)
  | tup (xs : List Dat)
  | oth
mutual
def Dat.py : Dat → PyData
  | .non => .none
  | .bl b => .bool b
  | .int i => .int i
  | .str x => .str x
  | .tup xs => .tuple (Dat.pyAll xs)
  | .oth => .none
def Dat.pyAll : List Dat → List PyData
  | [] => []
  | x :: r => x.py :: Dat.pyAll r
end
mutual
/-- no list, no dict; the texts are texts -/
def Dat.okD : Dat → Bool
  | .str x => PyData.strOk x
  | .tup xs => Dat.okAll xs
  | .oth => false
  | _ => true
def Dat.okAll : List Dat → Bool
  | [] => true
  | x :: r => x.okD && Dat.okAll r
end
mutual
def Dat.dep : Dat → Nat
  | .tup xs => Dat.depAll xs + 1
  | _ => 0
def Dat.depAll : List Dat → Nat
  | [] => 0
  | x :: r => max x.dep (Dat.depAll r)
end
mutual
inductive Da (H : Hp) : V → Dat → Prop
  | non : Da H .non .non
  | bl (b : Bool) : Da H (.bl b) (.bl b)
  | int (i : Int) : Da H (.int i) (.int i)
  | str (x : Str) : Da H (.str x) (.str x)
  | tup {a : Addr} {xs : List V} {ds : List Dat} : H a = some (.tup xs) → DaAll H xs ds → Da H (.ref a) (.tup ds)
  | lst {a : Addr} {xs : List V} : H a = some (.lst xs) → Da H (.ref a) .oth
  | dct {a : Addr} {kvs : List (Key × V)} : H a = some (.dK kvs) → Da H (.ref a) .oth
inductive DaAll (H : Hp) : List V → List Dat → Prop
  | nil : DaAll H [] []
  | cons {v : V} {vs : List V} {d : Dat} {ds : List Dat} : Da H v d → DaAll H vs ds → DaAll H (v :: vs) (d :: ds)
end
mutual
theorem Da.dp (K : PySem.W.Frag) {H : Hp} : ∀ {d : Dat} {v : V}, Da H v d → d.okD = true → Dp K H v d.py
  | .non, _, h, _ => by cases h; exact .non
  | .bl b, _, h, _ => by cases h; exact .bl b
  | .int i, _, h, _ => by cases h; exact .int i
  | .str x, _, h, _ => by cases h; exact .str x
  | .tup ds, _, h, o => by
    cases h with
    | tup e h => exact .tup (SqT.of e) (DaAll.dp K h (by unfold Dat.okD at o; exact o))
  | .oth, _, h, o => by unfold Dat.okD at o; cases o
theorem DaAll.dp (K : PySem.W.Frag) {H : Hp} : ∀ {ds : List Dat} {vs : List V}, DaAll H vs ds → Dat.okAll ds = true → DpAll K H vs (Dat.pyAll ds)
  | [], _, h, _ => by cases h; exact .nil
  | d :: r, _, h, o => by
    unfold Dat.okAll at o
    rw [Bool.and_eq_true] at o
    cases h with
    | cons h1 h2 => exact .cons (Da.dp K h1 o.1) (DaAll.dp K h2 o.2)
end
mutual
theorem Da.ext {H H' : Hp} (e : ExtN H H') : ∀ {d : Dat} {v : V}, Da H v d → Da H' v d
  | .non, _, h => by cases h; exact .non
  | .bl b, _, h => by cases h; exact .bl b
  | .int i, _, h => by cases h; exact .int i
  | .str x, _, h => by cases h; exact .str x
  | .tup ds, _, h => by
    cases h with
    | tup z h => exact .tup (e _ _ z fun ps z => by cases z) (DaAll.ext e h)
  | .oth, _, h => by
    cases h with
    | lst z => exact .lst (e _ _ z fun ps z => by cases z)
    | dct z => exact .dct (e _ _ z fun ps z => by cases z)
theorem DaAll.ext {H H' : Hp} (e : ExtN H H') : ∀ {ds : List Dat} {vs : List V}, DaAll H vs ds → DaAll H' vs ds
  | [], _, h => by cases h; exact .nil
  | d :: r, _, h => by
    cases h with
    | cons h1 h2 => exact .cons (Da.ext e h1) (DaAll.ext e h2)
end
mutual
theorem Da.kpT {H H' : Hp} (e : KpT H H') : ∀ {d : Dat} {v : V}, Da H v d → d.okD = true → Da H' v d
  | .non, _, h, _ => by cases h; exact .non
  | .bl b, _, h, _ => by cases h; exact .bl b
  | .int i, _, h, _ => by cases h; exact .int i
  | .str x, _, h, _ => by cases h; exact .str x
  | .tup ds, _, h, o => by
    cases h with
    | tup z h => exact .tup (e _ _ z) (DaAll.kpT e h (by unfold Dat.okD at o; exact o))
  | .oth, _, h, o => by unfold Dat.okD at o; cases o
theorem DaAll.kpT {H H' : Hp} (e : KpT H H') : ∀ {ds : List Dat} {vs : List V}, DaAll H vs ds → Dat.okAll ds = true → DaAll H' vs ds
  | [], _, h, _ => by cases h; exact .nil
  | d :: r, _, h, o => by
    unfold Dat.okAll at o
    rw [Bool.and_eq_true] at o
    cases h with
    | cons h1 h2 => exact .cons (Da.kpT e h1 o.1) (DaAll.kpT e h2 o.2)
end
theorem DaAll.len {H : Hp} : ∀ {vs : List V} {ds : List Dat}, DaAll H vs ds → vs.length = ds.length
  | _, _, .nil => rfl
  | _, _, .cons _ h => by rw [List.length_cons, List.length_cons, h.len]
theorem DaAll.at {H : Hp} : ∀ {vs : List V} {ds : List Dat} {i : Nat} {v : V}, DaAll H vs ds → vs[i]? = some v → ∃ d, ds[i]? = some d ∧ Da H v d
  | _, _, i, _, .nil, h => by simp at h
  | _, _, 0, v, .cons h1 _, h => by
    simp at h
    exact ⟨_, rfl, h ▸ h1⟩
  | _, _, i + 1, v, .cons _ h2, h => by
    obtain ⟨d, e, q⟩ := h2.at (i := i) (by simpa using h)
    exact ⟨d, by simpa using e, q⟩
theorem DaAll.at' {H : Hp} : ∀ {vs : List V} {ds : List Dat} {i : Nat} {d : Dat}, DaAll H vs ds → ds[i]? = some d → ∃ v, vs[i]? = some v ∧ Da H v d
  | _, _, i, _, .nil, h => by simp at h
  | _, _, 0, v, .cons h1 _, h => by
    simp at h
    exact ⟨_, rfl, h ▸ h1⟩
  | _, _, i + 1, v, .cons _ h2, h => by
    obtain ⟨d, e, q⟩ := h2.at' (i := i) (by simpa using h)
    exact ⟨d, by simpa using e, q⟩
theorem DaAll.map {α : Type} {H : Hp} {f : α → V} {g : α → Dat} : ∀ {l : List α}, (∀ x ∈ l, Da H (f x) (g x)) → DaAll H (l.map f) (l.map g)
  | [], _ => .nil
  | a :: r, h => .cons (h a List.mem_cons_self) (DaAll.map fun x hx => h x (List.mem_cons_of_mem _ hx))
theorem okAll_of : ∀ {l : List Dat}, (∀ x ∈ l, x.okD = true) → Dat.okAll l = true
  | [], _ => rfl
  | a :: r, h => by
    unfold Dat.okAll
    rw [h a List.mem_cons_self, okAll_of fun x hx => h x (List.mem_cons_of_mem _ hx)]
    rfl
theorem depAll_of {m : Nat} : ∀ {l : List Dat}, (∀ x ∈ l, x.dep ≤ m) → Dat.depAll l ≤ m
  | [], _ => Nat.zero_le _
  | a :: r, h => by
    unfold Dat.depAll
    have h1 := h a List.mem_cons_self
    have h2 := depAll_of (l := r) fun x hx => h x (List.mem_cons_of_mem _ hx)
    omega
mutual
theorem Dat.lay : ∀ {d : Dat}, d.okD = true → PyData.canLay0 d.py = true
  | .non, _ => rfl
  | .bl b, _ => rfl
  | .int i, _ => by simp [Dat.py, PyData.canLay0]
  | .str x, o => by
    unfold Dat.okD at o
    simp [Dat.py, PyData.canLay0, o]
  | .tup ds, o => by
    unfold Dat.okD at o
    simp [Dat.py, PyData.canLay0, Dat.layAll o]
  | .oth, o => by unfold Dat.okD at o; cases o
theorem Dat.layAll : ∀ {ds : List Dat}, Dat.okAll ds = true → PyData.canLayAll0 (Dat.pyAll ds) = true
  | [], _ => by simp [Dat.pyAll, PyData.canLayAll0]
  | d :: r, o => by
    unfold Dat.okAll at o
    rw [Bool.and_eq_true] at o
    simp [Dat.pyAll, PyData.canLayAll0, Dat.lay o.1, Dat.layAll o.2]
end
mutual
theorem Dat.depth : ∀ (d : Dat), PyData.depth d.py ≤ 2 * d.dep + 1
  | .non => by simp [Dat.py, PyData.depth]
  | .bl b => by simp [Dat.py, PyData.depth]
  | .int i => by simp [Dat.py, PyData.depth]
  | .str x => by simp [Dat.py, PyData.depth]
  | .tup ds => by
    have h := Dat.depthAll ds
    simp only [Dat.py, PyData.depth, Dat.dep]
    omega
  | .oth => by simp [Dat.py, PyData.depth]
theorem Dat.depthAll : ∀ (ds : List Dat), PyData.depthAll (Dat.pyAll ds) ≤ 2 * Dat.depAll ds + 1
  | [] => by simp [Dat.pyAll, PyData.depthAll]
  | d :: r => by
    have h1 := Dat.depth d
    have h2 := Dat.depthAll r
    simp only [Dat.pyAll, PyData.depthAll, Dat.depAll]
    omega
end
theorem Dat.shaped {d : Dat} (o : d.okD = true) (h : d.dep ≤ 31) : SeqAt.shaped d.py = true := by
  show (PyData.canLay0 d.py && decide (PyData.depth d.py ≤ 64)) = true
  rw [Bool.and_eq_true]
  have := Dat.depth d
  exact ⟨Dat.lay o, decide_eq_true (by omega)⟩
end Deed
namespace Deed
open PySem PySem.Spec PyProof.Rows L2 LamX
mutual
/-- a list that is no part is written -/
theorem Da.putL {H : Hp} {l : Addr} {xs : List V} (e : H l = some (.lst xs)) (ys : List V) : ∀ {d : Dat} {v : V}, Da H v d → Da (upd H l (.lst ys)) v d
  | .non, _, h => by cases h; exact .non
  | .bl b, _, h => by cases h; exact .bl b
  | .int i, _, h => by cases h; exact .int i
  | .str x, _, h => by cases h; exact .str x
  | .tup ds, _, h => by
    cases h with
    | tup z h => exact .tup (by rw [upd_ne fun q => by rw [q, e] at z; cases z]; exact z) (DaAll.putL e ys h)
  | .oth, v, h => by
    cases h with
    | @lst a xs' z =>
      by_cases ha : a = l
      · exact .lst (by rw [ha, upd_same])
      · exact .lst (by rw [upd_ne ha]; exact z)
    | @dct a kvs z => exact .dct (by rw [upd_ne fun q => by rw [q, e] at z; cases z]; exact z)
theorem DaAll.putL {H : Hp} {l : Addr} {xs : List V} (e : H l = some (.lst xs)) (ys : List V) : ∀ {ds : List Dat} {vs : List V}, DaAll H vs ds → DaAll (upd H l (.lst ys)) vs ds
  | [], _, h => by cases h; exact .nil
  | d :: r, _, h => by
    cases h with
    | cons h1 h2 => exact .cons (Da.putL e ys h1) (DaAll.putL e ys h2)
end
mutual
theorem Da.putD {H : Hp} {l : Addr} {xs : List (Key × V)} (e : H l = some (.dK xs)) (ys : List (Key × V)) : ∀ {d : Dat} {v : V}, Da H v d → Da (upd H l (.dK ys)) v d
  | .non, _, h => by cases h; exact .non
  | .bl b, _, h => by cases h; exact .bl b
  | .int i, _, h => by cases h; exact .int i
  | .str x, _, h => by cases h; exact .str x
  | .tup ds, _, h => by
    cases h with
    | tup z h => exact .tup (by rw [upd_ne fun q => by rw [q, e] at z; cases z]; exact z) (DaAll.putD e ys h)
  | .oth, v, h => by
    cases h with
    | @lst a xs' z => exact .lst (by rw [upd_ne fun q => by rw [q, e] at z; cases z]; exact z)
    | @dct a kvs z =>
      by_cases ha : a = l
      · exact .dct (by rw [ha, upd_same])
      · exact .dct (by rw [upd_ne ha]; exact z)
theorem DaAll.putD {H : Hp} {l : Addr} {xs : List (Key × V)} (e : H l = some (.dK xs)) (ys : List (Key × V)) : ∀ {ds : List Dat} {vs : List V}, DaAll H vs ds → DaAll (upd H l (.dK ys)) vs ds
  | [], _, h => by cases h; exact .nil
  | d :: r, _, h => by
    cases h with
    | cons h1 h2 => exact .cons (Da.putD e ys h1) (DaAll.putD e ys h2)
end
end Deed

namespace Deed
open PySem PySem.Spec PyProof.Rows L2 LamX
/-! ### papers -/
def isYesD : Dat → Bool
  | .tup (.str w :: _) => decide (w = "yes")
  | _ => false
def papO (n : Int) (ps : List Dat) : Dat := match ps.filter isYesD with
  | y :: _ => .tup [.str "no", .int n, y]
  | [] => .tup [.str "yes", .int n, .tup ps]
def papF (ys : List En) : Nat → En → Dat
  | 0, _ => .non
  | f + 1, e => papO e.num ((ys.filter (isOn "undone" e.num)).map (papF ys f))
def pap (ys : List En) (e : En) : Dat := papF ys (31 - e.num).toNat e
/-- the open acts of es by their numbers -/
structure Oa (n : Nat) (es : List En) (d k : Int) (ys : List En) : Prop where
  bk : BkOk n es
  mem : ∀ u ∈ ys, u ∈ es ∧ u.isDeed = false ∧ isOpen d k u = true
  all : ∀ u ∈ es, u.isDeed = false → isOpen d k u = true → u ∈ ys
  up : ys.Pairwise (fun a b => a.num < b.num)
theorem OpenActs.oa {n : Nat} {es : List En} {d k : Int} {ys : List (Addr × En)} (h : OpenActs n es d k ys) (hB : BkOk n es) : Oa n es d k (ens ys) := by
  refine ⟨hB, fun u hu => ?_, fun u hu h1 h2 => ?_, ?_⟩
  · obtain ⟨z, hz, rfl⟩ := List.mem_map.mp hu
    exact h.mem z hz
  · obtain ⟨z, hz, e⟩ := h.all u hu h1 h2
    exact List.mem_map.mpr ⟨z, hz, e⟩
  · rw [List.pairwise_map]
    exact h.up
theorem en_one : ∀ {l m : List En}, l.Pairwise (fun a b => a.num < b.num) → m.Pairwise (fun a b => a.num < b.num) → (∀ x, x ∈ l ↔ x ∈ m) → l = m
  | [], [], _, _, _ => rfl
  | [], b :: m, _, _, h => absurd ((h b).mpr List.mem_cons_self) (by simp)
  | a :: l, [], _, _, h => absurd ((h a).mp List.mem_cons_self) (by simp)
  | a :: l, b :: m, h1, h2, h => by
    rw [List.pairwise_cons] at h1 h2
    have e : a = b := by
      rcases List.mem_cons.mp ((h a).mp List.mem_cons_self) with e | ha
      · exact e
      · rcases List.mem_cons.mp ((h b).mpr List.mem_cons_self) with e | hb
        · exact e.symm
        · have := h2.1 a ha
          have := h1.1 b hb
          omega
    subst e
    have := en_one h1.2 h2.2 fun x => by
      constructor
      · intro hx
        rcases List.mem_cons.mp ((h x).mp (List.mem_cons_of_mem _ hx)) with e | hm
        · have := h1.1 x hx
          rw [e] at this
          omega
        · exact hm
      · intro hx
        rcases List.mem_cons.mp ((h x).mpr (List.mem_cons_of_mem _ hx)) with e | hm
        · have := h2.1 x hx
          rw [e] at this
          omega
        · exact hm
    rw [this]
theorem Oa.one {n n' : Nat} {es : List En} {d k : Int} {ys ys' : List En} (h : Oa n es d k ys) (h' : Oa n' es d k ys') : ys = ys' :=
  en_one h.up h'.up fun x => ⟨fun hx => have a := h.mem x hx; h'.all x a.1 a.2.1 a.2.2, fun hx => have a := h'.mem x hx; h.all x a.1 a.2.1 a.2.2⟩
theorem Oa.undo {n : Nat} {es : List En} {d k : Int} {ys : List En} (h : Oa n es d k ys) {e u : En} (hu : u ∈ ys.filter (isOn "undone" e.num)) : u ∈ ys ∧ e.num < u.num ∧ 0 ≤ u.num ∧ u.num ≤ 30 := by
  obtain ⟨h1, h2⟩ := List.mem_filter.mp hu
  have hm := h.mem u h1
  have hok := h.bk.ok u hm.1
  obtain ⟨a1, a2, a3⟩ := isOn_act hok (by decide) h2
  have := hok.of_lt hm.2.1
  have hr := h.bk.rng u hm.1
  exact ⟨h1, by rw [← a3]; exact this.1, hr.1, hr.2⟩
theorem papF_one {n : Nat} {es : List En} {d k : Int} {ys : List En} (h : Oa n es d k ys) : ∀ (f g : Nat) (e : En), (31 - e.num).toNat ≤ f → (31 - e.num).toNat ≤ g → e.num ≤ 30 → papF ys f e = papF ys g e
  | 0, _, e, h1, _, h3 => by omega
  | _ + 1, 0, e, _, h2, h3 => by omega
  | f + 1, g + 1, e, h1, h2, h3 => by
    unfold papF
    congr 1
    refine List.map_congr_left fun u hu => ?_
    obtain ⟨_, a2, a3, a4⟩ := h.undo hu
    exact papF_one h f g u (by omega) (by omega) a4
theorem pap_eq {n : Nat} {es : List En} {d k : Int} {ys : List En} (h : Oa n es d k ys) {e : En} (he : e ∈ ys) : pap ys e = papO e.num ((ys.filter (isOn "undone" e.num)).map (pap ys)) := by
  have hr := h.bk.rng e (h.mem e he).1
  unfold pap
  obtain ⟨f, hf⟩ : ∃ f, (31 - e.num).toNat = f + 1 := ⟨(31 - e.num).toNat - 1, by omega⟩
  rw [hf]
  show papO e.num _ = _
  congr 1
  refine List.map_congr_left fun u hu => ?_
  obtain ⟨_, a2, a3, a4⟩ := h.undo hu
  exact papF_one h _ _ u (by omega) (Nat.le_refl _) a4
theorem yes_papO (n : Int) (ps : List Dat) : isYesD (papO n ps) = (ps.filter isYesD).isEmpty := by
  unfold papO
  cases ps.filter isYesD with
  | nil => rfl
  | cons y r => rfl
theorem pap_yesF {n : Nat} {es : List En} {d k : Int} {ys : List En} (h : Oa n es d k ys) : ∀ (f : Nat) (e : En), e ∈ ys → (31 - e.num).toNat ≤ f → isYesD (pap ys e) = frc es d k e
  | 0, e, he, hf => by
    have hr := h.bk.rng e (h.mem e he).1
    omega
  | f + 1, e, he, hf => by
    have hm := h.mem e he
    rw [pap_eq h he, yes_papO, frc_eq h.bk d k hm.1, hm.2.2, Bool.true_and]
    have ih : ∀ u ∈ ys.filter (isOn "undone" e.num), isYesD (pap ys u) = frc es d k u := fun u hu => by
      obtain ⟨a1, a2, a3, a4⟩ := h.undo hu
      exact pap_yesF h f u a1 (by omega)
    rw [Bool.eq_iff_iff, List.isEmpty_iff, List.filter_eq_nil_iff, List.all_eq_true]
    constructor
    · intro hn u hu
      cases ho : isOn "undone" e.num u with
      | false => rfl
      | true =>
        cases hfu : frc es d k u with
        | false => rfl
        | true =>
          have hop := frc_open h.bk hu hfu
          have hok := h.bk.ok u hu
          obtain ⟨a1, _, _⟩ := isOn_act hok (by decide) ho
          have huy := h.all u hu a1 hop
          have hmf : u ∈ ys.filter (isOn "undone" e.num) := List.mem_filter.mpr ⟨huy, ho⟩
          have := hn (pap ys u) (List.mem_map.mpr ⟨u, hmf, rfl⟩)
          rw [ih u hmf, hfu] at this
          exact absurd rfl this
    · intro ha x hx
      obtain ⟨u, hu, rfl⟩ := List.mem_map.mp hx
      rw [ih u hu]
      obtain ⟨h1, h2⟩ := List.mem_filter.mp hu
      have := ha u (h.mem u h1).1
      rw [h2, Bool.true_and] at this
      simpa using this
theorem pap_yes {n : Nat} {es : List En} {d k : Int} {ys : List En} (h : Oa n es d k ys) {e : En} (he : e ∈ ys) : isYesD (pap ys e) = frc es d k e := pap_yesF h _ e he (Nat.le_refl _)
/-- in force: all papers of the undones are noes -/
theorem pap_is {n : Nat} {es : List En} {d k : Int} {ys : List En} (h : Oa n es d k ys) {e : En} (he : e ∈ ys) (hf : frc es d k e = true) : pap ys e = .tup [.str "yes", .int e.num, .tup ((ys.filter (isOn "undone" e.num)).map (pap ys))] := by
  have h1 := pap_yes h he
  rw [hf, pap_eq h he, yes_papO, List.isEmpty_iff] at h1
  rw [pap_eq h he]
  unfold papO
  rw [h1]
theorem pap_not {n : Nat} {es : List En} {d k : Int} {ys : List En} (h : Oa n es d k ys) {e : En} (he : e ∈ ys) (hf : frc es d k e = false) : ∃ u r, (ys.filter (isOn "undone" e.num)).filter (frc es d k) = u :: r ∧ pap ys e = .tup [.str "no", .int e.num, pap ys u] := by
  have h1 := pap_yes h he
  rw [hf, pap_eq h he, yes_papO] at h1
  have ef : ((ys.filter (isOn "undone" e.num)).map (pap ys)).filter isYesD = ((ys.filter (isOn "undone" e.num)).filter (frc es d k)).map (pap ys) := by
    rw [List.filter_map]
    congr 1
    refine List.filter_congr fun u hu => ?_
    exact pap_yes h (List.mem_filter.mp hu).1
  rw [ef] at h1
  cases hc : (ys.filter (isOn "undone" e.num)).filter (frc es d k) with
  | nil => rw [hc] at h1; cases h1
  | cons u r =>
    refine ⟨u, r, rfl, ?_⟩
    rw [pap_eq h he]
    unfold papO
    rw [ef, hc]
    rfl
/-! ### whether a thing is a yes, a no -/
def Dat.at (x : Dat) (i : Nat) : Dat := match x with
  | .tup xs => xs.getD i .non
  | _ => .non
def headD (x : Dat) (sz : Nat) (w : Str) (m : Int) : Bool := match x with
  | .tup (.str a :: .int b :: r) => decide (r.length + 2 = sz) && (decide (a = w) && decide (b = m))
  | _ => false
def holdF (ys : List En) : Nat → Bool → En → Dat → Bool
  | 0, _, _, _ => false
  | f + 1, true, e, x => headD x 3 "yes" e.num && (match x.at 2 with
    | .tup ps => decide (ps.length = (ys.filter (isOn "undone" e.num)).length) && ((ys.filter (isOn "undone" e.num)).zip ps).all fun z => holdF ys f false z.1 z.2
    | _ => false)
  | f + 1, false, e, x => headD x 3 "no" e.num && (ys.filter (isOn "undone" e.num)).any fun u => holdF ys f true u (x.at 2)
def hold (ys : List En) (b : Bool) (e : En) (x : Dat) : Bool := holdF ys (31 - e.num).toNat b e x
theorem zip_all_congr {α β : Type} {p q : α × β → Bool} : ∀ {l : List α} {m : List β}, (∀ a ∈ l, ∀ b, p (a, b) = q (a, b)) → (l.zip m).all p = (l.zip m).all q
  | [], _, _ => rfl
  | _ :: _, [], _ => rfl
  | a :: l, b :: m, h => by
    rw [List.zip_cons_cons, List.all_cons, List.all_cons, h a List.mem_cons_self b, zip_all_congr fun x hx b => h x (List.mem_cons_of_mem _ hx) b]
theorem holdF_one {n : Nat} {es : List En} {d k : Int} {ys : List En} (h : Oa n es d k ys) : ∀ (f g : Nat) (b : Bool) (e : En) (x : Dat), (31 - e.num).toNat ≤ f → (31 - e.num).toNat ≤ g → e.num ≤ 30 → holdF ys f b e x = holdF ys g b e x
  | 0, _, _, e, _, h1, _, h3 => by omega
  | _ + 1, 0, _, e, _, _, h2, h3 => by omega
  | f + 1, g + 1, true, e, x, h1, h2, h3 => by
    unfold holdF
    congr 1
    cases x.at 2 with
    | tup ps =>
      dsimp only
      congr 1
      refine zip_all_congr fun u hu b => ?_
      obtain ⟨_, a2, a3, a4⟩ := h.undo hu
      exact holdF_one h f g _ u _ (by omega) (by omega) a4
    | _ => rfl
  | f + 1, g + 1, false, e, x, h1, h2, h3 => by
    unfold holdF
    congr 1
    refine any_congr fun u hu => ?_
    obtain ⟨_, a2, a3, a4⟩ := h.undo hu
    exact holdF_one h f g _ u _ (by omega) (by omega) a4
/-- rows of noes -/
def nosD (ys us : List En) (x : Dat) : Bool := match x with
  | .tup ps => decide (ps.length = us.length) && (us.zip ps).all fun z => hold ys false z.1 z.2
  | _ => false
def someYes (ys us : List En) (x : Dat) : Bool := us.any fun u => hold ys true u x
theorem hold_yes {n : Nat} {es : List En} {d k : Int} {ys : List En} (h : Oa n es d k ys) {e : En} (he : e ∈ ys) (x : Dat) : hold ys true e x = (headD x 3 "yes" e.num && nosD ys (ys.filter (isOn "undone" e.num)) (x.at 2)) := by
  have hr := h.bk.rng e (h.mem e he).1
  unfold hold
  obtain ⟨f, hf⟩ : ∃ f, (31 - e.num).toNat = f + 1 := ⟨(31 - e.num).toNat - 1, by omega⟩
  rw [hf]
  unfold holdF nosD
  congr 1
  cases x.at 2 with
  | tup ps =>
    dsimp only
    congr 1
    refine zip_all_congr fun u hu b => ?_
    obtain ⟨_, a2, a3, a4⟩ := h.undo hu
    exact holdF_one h _ _ _ u _ (by omega) (Nat.le_refl _) a4
  | _ => rfl
theorem hold_no {n : Nat} {es : List En} {d k : Int} {ys : List En} (h : Oa n es d k ys) {e : En} (he : e ∈ ys) (x : Dat) : hold ys false e x = (headD x 3 "no" e.num && someYes ys (ys.filter (isOn "undone" e.num)) (x.at 2)) := by
  have hr := h.bk.rng e (h.mem e he).1
  unfold hold
  obtain ⟨f, hf⟩ : ∃ f, (31 - e.num).toNat = f + 1 := ⟨(31 - e.num).toNat - 1, by omega⟩
  rw [hf]
  unfold holdF someYes
  congr 1
  refine any_congr fun u hu => ?_
  obtain ⟨_, a2, a3, a4⟩ := h.undo hu
  exact holdF_one h _ _ _ u _ (by omega) (Nat.le_refl _) a4
theorem zip_map_all {α β : Type} {f : α → β} {p : α × β → Bool} : ∀ {l : List α}, (∀ a ∈ l, p (a, f a) = true) → (l.zip (l.map f)).all p = true
  | [], _ => rfl
  | a :: l, h => by
    rw [List.map_cons, List.zip_cons_cons, List.all_cons, h a List.mem_cons_self, zip_map_all fun x hx => h x (List.mem_cons_of_mem _ hx)]
    rfl
/-- the told papers hold -/
theorem hold_papF {n : Nat} {es : List En} {d k : Int} {ys : List En} (h : Oa n es d k ys) : ∀ (f : Nat) (e : En), e ∈ ys → (31 - e.num).toNat ≤ f → hold ys (frc es d k e) e (pap ys e) = true
  | 0, e, he, hf => by
    have hr := h.bk.rng e (h.mem e he).1
    omega
  | f + 1, e, he, hf => by
    cases hc : frc es d k e with
    | true =>
      rw [hold_yes h he, pap_is h he hc]
      show ((decide (1 + 2 = 3) && (decide (("yes" : Str) = "yes") && decide (e.num = e.num))) && _) = true
      rw [decide_eq_true rfl, decide_eq_true rfl, decide_eq_true rfl]
      show nosD ys _ (.tup _) = true
      unfold nosD
      dsimp only
      rw [List.length_map, decide_eq_true rfl, Bool.true_and]
      refine zip_map_all fun u hu => ?_
      obtain ⟨a1, a2, a3, a4⟩ := h.undo hu
      have := hold_papF h f u a1 (by omega)
      have hnf : frc es d k u = false := by
        have h1 := pap_yes h he
        rw [hc, pap_eq h he, yes_papO, List.isEmpty_iff, List.filter_eq_nil_iff] at h1
        have := h1 _ (List.mem_map.mpr ⟨u, hu, rfl⟩)
        rw [pap_yes h a1] at this
        simpa using this
      rw [hnf] at this
      exact this
    | false =>
      obtain ⟨u, r, hu, e1⟩ := pap_not h he hc
      rw [hold_no h he, e1]
      show ((decide (1 + 2 = 3) && (decide (("no" : Str) = "no") && decide (e.num = e.num))) && _) = true
      rw [decide_eq_true rfl, decide_eq_true rfl, decide_eq_true rfl]
      show someYes ys _ (pap ys u) = true
      unfold someYes
      have hm : u ∈ (ys.filter (isOn "undone" e.num)).filter (frc es d k) := by rw [hu]; exact List.mem_cons_self
      obtain ⟨h1, h2⟩ := List.mem_filter.mp hm
      obtain ⟨a1, a2, a3, a4⟩ := h.undo h1
      have := hold_papF h f u a1 (by omega)
      rw [h2] at this
      exact List.any_eq_true.mpr ⟨u, h1, this⟩
theorem hold_pap {n : Nat} {es : List En} {d k : Int} {ys : List En} (h : Oa n es d k ys) {e : En} (he : e ∈ ys) : hold ys (frc es d k e) e (pap ys e) = true := hold_papF h _ e he (Nat.le_refl _)
/-- what holds is so -/
theorem hold_soundF {n : Nat} {es : List En} {d k : Int} {ys : List En} (h : Oa n es d k ys) : ∀ (f : Nat) (b : Bool) (e : En) (x : Dat), e ∈ ys → (31 - e.num).toNat ≤ f → hold ys b e x = true → frc es d k e = b
  | 0, b, e, x, he, hf, _ => by
    have hr := h.bk.rng e (h.mem e he).1
    omega
  | f + 1, true, e, x, he, hf, hh => by
    rw [hold_yes h he, Bool.and_eq_true] at hh
    have hm := h.mem e he
    rw [frc_eq h.bk d k hm.1, hm.2.2, Bool.true_and, List.all_eq_true]
    intro u hu
    cases ho : isOn "undone" e.num u with
    | false => rfl
    | true =>
      cases hfu : frc es d k u with
      | false => rfl
      | true =>
        exfalso
        have hop := frc_open h.bk hu hfu
        obtain ⟨a1, _, _⟩ := isOn_act (h.bk.ok u hu) (by decide) ho
        have hmf : u ∈ ys.filter (isOn "undone" e.num) := List.mem_filter.mpr ⟨h.all u hu a1 hop, ho⟩
        obtain ⟨b1, b2, b3, b4⟩ := h.undo hmf
        have h2 := hh.2
        unfold nosD at h2
        cases hx : x.at 2 with
        | tup ps =>
          rw [hx] at h2
          dsimp only at h2
          rw [Bool.and_eq_true, List.all_eq_true] at h2
          have hl := of_decide_eq_true h2.1
          obtain ⟨i, hi⟩ := List.getElem?_of_mem hmf
          have hil : i < ps.length := by
            have := (List.getElem?_eq_some_iff.mp hi).1
            omega
          have hz : (u, ps[i]) ∈ (ys.filter (isOn "undone" e.num)).zip ps := List.mem_of_getElem? (i := i) (by
            rw [List.getElem?_zip_eq_some]
            exact ⟨hi, List.getElem?_eq_getElem hil⟩)
          have := hold_soundF h f false u _ b1 (by omega) (h2.2 _ hz)
          rw [hfu] at this
          cases this
        | non => rw [hx] at h2; cases h2
        | bl _ => rw [hx] at h2; cases h2
        | int _ => rw [hx] at h2; cases h2
        | str _ => rw [hx] at h2; cases h2
        | oth => rw [hx] at h2; cases h2
  | f + 1, false, e, x, he, hf, hh => by
    rw [hold_no h he, Bool.and_eq_true] at hh
    have hm := h.mem e he
    obtain ⟨u, hu, hy⟩ := List.any_eq_true.mp hh.2
    obtain ⟨b1, b2, b3, b4⟩ := h.undo hu
    have h1 := hold_soundF h f true u _ b1 (by omega) hy
    obtain ⟨_, ho⟩ := List.mem_filter.mp hu
    rw [frc_eq h.bk d k hm.1, hm.2.2, Bool.true_and, List.all_eq_false]
    exact ⟨u, (h.mem u b1).1, by rw [ho, h1]; decide⟩
theorem hold_sound {n : Nat} {es : List En} {d k : Int} {ys : List En} (h : Oa n es d k ys) {b : Bool} {e : En} {x : Dat} (he : e ∈ ys) (hh : hold ys b e x = true) : frc es d k e = b := hold_soundF h _ b e x he (Nat.le_refl _) hh
/-! ### texts, depth -/
theorem pap_okF {n : Nat} {es : List En} {d k : Int} {ys : List En} (h : Oa n es d k ys) : ∀ (f : Nat) (e : En), e ∈ ys → (31 - e.num).toNat ≤ f → (pap ys e).okD = true
  | 0, e, he, hf => by
    have hr := h.bk.rng e (h.mem e he).1
    omega
  | f + 1, e, he, hf => by
    have ih : ∀ u ∈ ys.filter (isOn "undone" e.num), (pap ys u).okD = true := fun u hu => by
      obtain ⟨a1, a2, a3, a4⟩ := h.undo hu
      exact pap_okF h f u a1 (by omega)
    cases hc : frc es d k e with
    | true =>
      rw [pap_is h he hc]
      have h1 : Dat.okAll ((ys.filter (isOn "undone" e.num)).map (pap ys)) = true := okAll_of fun x hx => by
        obtain ⟨u, hu, rfl⟩ := List.mem_map.mp hx
        exact ih u hu
      simp only [Dat.okD, Dat.okAll, h1, Bool.and_true]
      decide +kernel
    | false =>
      obtain ⟨u, r, hu, e1⟩ := pap_not h he hc
      have hm : u ∈ (ys.filter (isOn "undone" e.num)).filter (frc es d k) := by rw [hu]; exact List.mem_cons_self
      have h1 := ih u (List.mem_filter.mp hm).1
      rw [e1]
      simp only [Dat.okD, Dat.okAll, h1, Bool.and_true]
      decide +kernel
theorem pap_ok {n : Nat} {es : List En} {d k : Int} {ys : List En} (h : Oa n es d k ys) {e : En} (he : e ∈ ys) : (pap ys e).okD = true := pap_okF h _ e he (Nat.le_refl _)
/-- how many of them stand from e on -/
def from_ (ys : List En) (e : En) : Nat := (ys.filter fun u => decide (e.num ≤ u.num)).length
theorem from_lt {ys : List En} {e u : En} (he : e ∈ ys) (hlt : e.num < u.num) : from_ ys u + 1 ≤ from_ ys e := by
  unfold from_
  have h1 : (ys.filter fun x => decide (u.num ≤ x.num)).Sublist (ys.filter fun x => decide (e.num ≤ x.num)) := by
    have : (ys.filter fun x => decide (u.num ≤ x.num)) = (ys.filter fun x => decide (e.num ≤ x.num)).filter fun x => decide (u.num ≤ x.num) := by
      rw [List.filter_filter]
      refine List.filter_congr fun x _ => ?_
      by_cases hx : u.num ≤ x.num
      · simp [hx, show e.num ≤ x.num by omega]
      · simp [hx]
    rw [this]
    exact List.filter_sublist
  rcases Nat.lt_or_ge (ys.filter fun x => decide (u.num ≤ x.num)).length (ys.filter fun x => decide (e.num ≤ x.num)).length with hl | hl
  · exact hl
  · have e2 := h1.eq_of_length_le hl
    have hm : e ∈ ys.filter fun x => decide (e.num ≤ x.num) := List.mem_filter.mpr ⟨he, decide_eq_true (Int.le_refl _)⟩
    rw [← e2] at hm
    have := of_decide_eq_true (List.mem_filter.mp hm).2
    omega
theorem pap_depF {n : Nat} {es : List En} {d k : Int} {ys : List En} (h : Oa n es d k ys) : ∀ (f : Nat) (e : En), e ∈ ys → (31 - e.num).toNat ≤ f → (pap ys e).dep ≤ 2 * from_ ys e
  | 0, e, he, hf => by
    have hr := h.bk.rng e (h.mem e he).1
    omega
  | f + 1, e, he, hf => by
    have ih : ∀ u ∈ ys.filter (isOn "undone" e.num), (pap ys u).dep + 2 ≤ 2 * from_ ys e := fun u hu => by
      obtain ⟨a1, a2, a3, a4⟩ := h.undo hu
      have := pap_depF h f u a1 (by omega)
      have := from_lt he a2
      omega
    have hp : 1 ≤ from_ ys e := List.length_pos_of_mem (List.mem_filter.mpr ⟨he, decide_eq_true (Int.le_refl _)⟩)
    cases hc : frc es d k e with
    | true =>
      rw [pap_is h he hc]
      have h1 : Dat.depAll ((ys.filter (isOn "undone" e.num)).map (pap ys)) ≤ 2 * from_ ys e - 2 := depAll_of fun x hx => by
        obtain ⟨u, hu, rfl⟩ := List.mem_map.mp hx
        have := ih u hu
        omega
      simp only [Dat.dep, Dat.depAll]
      omega
    | false =>
      obtain ⟨u, r, hu, e1⟩ := pap_not h he hc
      have hm : u ∈ (ys.filter (isOn "undone" e.num)).filter (frc es d k) := by rw [hu]; exact List.mem_cons_self
      have h1 := ih u (List.mem_filter.mp hm).1
      rw [e1]
      simp only [Dat.dep, Dat.depAll]
      omega
theorem pap_dep {n : Nat} {es : List En} {d k : Int} {ys : List En} (h : Oa n es d k ys) {e : En} (he : e ∈ ys) : (pap ys e).dep ≤ 2 * ys.length := by
  have h1 := pap_depF h _ e he (Nat.le_refl _)
  have h2 : from_ ys e ≤ ys.length := List.length_filter_le _ _
  omega
end Deed

namespace Deed
open PySem PySem.Spec PyProof.Rows L2 LamX
/-! ### whys -/
def fy (ys us : List En) : Dat := ((us.map (pap ys)).filter isYesD).headD .non
def lostD : Dat → Bool
  | .tup (.str w :: _) => !carries w
  | _ => true
abbrev voids (ys : List En) (e : En) : List En := ys.filter (isOn "void" e.num)
abbrev paids (ys : List En) (e : En) : List En := ys.filter (isOn "paid" e.num)
abbrev both (ys : List En) (e : En) : List En := ys.filter fun u => isOn "void" e.num u || isOn "paid" e.num u
def whyO (ys : List En) (w : Str) (e : En) (below : List Dat) : Dat :=
  if w = "void" then .tup [.str "void", .int e.num, fy ys (voids ys e)]
  else if w = "fallen" then .tup [.str "fallen", .int e.num, (below.filter lostD).headD .non]
  else if w = "paid" then .tup [.str "paid", .int e.num, .tup ((voids ys e).map (pap ys)), .tup below, fy ys (paids ys e)]
  else if w = "stands" then .tup [.str "stands", .int e.num, .tup ((both ys e).map (pap ys)), .tup below]
  else .tup [.str w, .int e.num]
def whyN (es ys : List En) (d k : Int) : Nat → Int → Dat
  | 0, _ => .non
  | f + 1, m => match es.find? (isD m) with
    | some e => whyO ys (st es d k e) e (e.rests.map (whyN es ys d k f))
    | none => .non
def why (es ys : List En) (d k : Int) (m : Int) : Dat := whyN es ys d k (m.toNat + 1) m
theorem find_deed {n : Nat} {es : List En} (hB : BkOk n es) {e : En} (he : e ∈ es) (hd : e.isDeed = true) : es.find? (isD e.num) = some e := by
  cases hf : es.find? (isD e.num) with
  | none =>
    rw [List.find?_eq_none] at hf
    exact absurd (show isD e.num e = true by unfold isD; rw [hd]; simp) (hf e he)
  | some u =>
    have h1 := List.find?_some hf
    have h2 := List.mem_of_find?_eq_some hf
    unfold isD at h1
    rw [Bool.and_eq_true] at h1
    rw [num_inj hB h2 he (of_decide_eq_true h1.2)]
theorem rest_deed {n : Nat} {es : List En} (hB : BkOk n es) {e : En} (he : e ∈ es) {r : Int} (hr : r ∈ e.rests) : ∃ u ∈ es, u.isDeed = true ∧ u.num = r ∧ r < e.num := by
  obtain ⟨h1, h2⟩ := (hB.ok e he).rest r hr
  obtain ⟨u, a, b, c⟩ := dn_at h1
  exact ⟨u, a, b, c, h2⟩
theorem whyN_one {n : Nat} {es : List En} (hB : BkOk n es) (ys : List En) (d k : Int) : ∀ (f g : Nat) (m : Int), m.toNat + 1 ≤ f → m.toNat + 1 ≤ g → whyN es ys d k f m = whyN es ys d k g m
  | 0, _, m, h, _ => by omega
  | _ + 1, 0, m, _, h => by omega
  | f + 1, g + 1, m, h1, h2 => by
    unfold whyN
    cases hf : es.find? (isD m) with
    | none => rfl
    | some e =>
      have he := List.mem_of_find?_eq_some hf
      have hm := List.find?_some hf
      unfold isD at hm
      rw [Bool.and_eq_true] at hm
      have hn : e.num = m := of_decide_eq_true hm.2
      dsimp only
      congr 1
      refine List.map_congr_left fun r hr => ?_
      obtain ⟨u, hu, _, hun, hlt⟩ := rest_deed hB he hr
      have := hB.rng u hu
      exact whyN_one hB ys d k f g r (by omega) (by omega)
theorem why_eq {n : Nat} {es : List En} (hB : BkOk n es) (ys : List En) (d k : Int) {e : En} (he : e ∈ es) (hd : e.isDeed = true) : why es ys d k e.num = whyO ys (st es d k e) e (e.rests.map (why es ys d k)) := by
  show (match es.find? (isD e.num) with
    | some e' => whyO ys (st es d k e') e' (e'.rests.map (whyN es ys d k e.num.toNat))
    | none => .non) = _
  rw [find_deed hB he hd]
  dsimp only
  congr 1
  refine List.map_congr_left fun r hr => ?_
  obtain ⟨u, hu, _, hun, hlt⟩ := rest_deed hB he hr
  have := hB.rng u hu
  exact whyN_one hB ys d k _ _ r (by omega) (Nat.le_refl _)
theorem whyO_head (ys : List En) (w : Str) (e : En) (below : List Dat) : ∃ r, whyO ys w e below = .tup (.str w :: .int e.num :: r) := by
  unfold whyO
  by_cases h1 : w = "void"
  · rw [if_pos h1, h1]; exact ⟨_, rfl⟩
  rw [if_neg h1]
  by_cases h2 : w = "fallen"
  · rw [if_pos h2, h2]; exact ⟨_, rfl⟩
  rw [if_neg h2]
  by_cases h3 : w = "paid"
  · rw [if_pos h3, h3]; exact ⟨_, rfl⟩
  rw [if_neg h3]
  by_cases h4 : w = "stands"
  · rw [if_pos h4, h4]; exact ⟨_, rfl⟩
  rw [if_neg h4]
  exact ⟨_, rfl⟩
theorem why_lost {n : Nat} {es : List En} (hB : BkOk n es) (ys : List En) (d k : Int) {e : En} (he : e ∈ es) (hd : e.isDeed = true) : lostD (why es ys d k e.num) = !carries (st es d k e) := by
  rw [why_eq hB ys d k he hd]
  obtain ⟨r, h⟩ := whyO_head ys (st es d k e) e (e.rests.map (why es ys d k))
  rw [h]
  rfl
/-! ### what a word tells -/
def restLost (es : List En) (d k : Int) (r : Int) : Bool := es.any fun u => isD r u && !carries (st es d k u)
theorem st_cases {n : Nat} {es : List En} (hB : BkOk n es) (d k : Int) {e : En} (he : e ∈ es) :
    (st es d k e = "unknown" ∧ e.wri > k) ∨ (st es d k e = "ahead" ∧ e.wri ≤ k ∧ e.day > d) ∨ (st es d k e = "void" ∧ anyF es d k "void" e.num = true) ∨
    (st es d k e = "fallen" ∧ anyF es d k "void" e.num = false ∧ e.rests.any (restLost es d k) = true) ∨
    (st es d k e = "paid" ∧ anyF es d k "void" e.num = false ∧ e.rests.any (restLost es d k) = false ∧ anyF es d k "paid" e.num = true) ∨
    (st es d k e = "stands" ∧ anyF es d k "void" e.num = false ∧ e.rests.any (restLost es d k) = false ∧ anyF es d k "paid" e.num = false) := by
  rw [st_eq hB d k he]
  unfold wordBy
  by_cases h1 : e.wri > k
  · rw [if_pos h1]; exact .inl ⟨rfl, h1⟩
  rw [if_neg h1]
  by_cases h2 : e.day > d
  · rw [if_pos h2]; exact .inr (.inl ⟨rfl, by omega, h2⟩)
  rw [if_neg h2]
  show _ ∨ _ ∨ _ ∨ (_ ∧ _ ∧ (e.rests.any fun r => es.any fun u => isD r u && !carries (st es d k u)) = true) ∨ (_ ∧ _ ∧ (e.rests.any fun r => es.any fun u => isD r u && !carries (st es d k u)) = false ∧ _) ∨ (_ ∧ _ ∧ (e.rests.any fun r => es.any fun u => isD r u && !carries (st es d k u)) = false ∧ _)
  cases h3 : anyF es d k "void" e.num with
  | true => exact .inr (.inr (.inl ⟨rfl, rfl⟩))
  | false =>
    cases h4 : (e.rests.any fun r => es.any fun u => isD r u && !carries (st es d k u)) with
    | true => exact .inr (.inr (.inr (.inl ⟨rfl, rfl, rfl⟩)))
    | false =>
      cases h5 : anyF es d k "paid" e.num with
      | true => exact .inr (.inr (.inr (.inr (.inl ⟨rfl, rfl, rfl, rfl⟩))))
      | false => exact .inr (.inr (.inr (.inr (.inr ⟨rfl, rfl, rfl, rfl⟩))))
theorem Oa.any {n : Nat} {es : List En} {d k : Int} {ys : List En} (h : Oa n es d k ys) {x : Str} (hx : x ≠ "deed") (m : Int) : anyF es d k x m = (ys.filter (isOn x m)).any (frc es d k) := by
  unfold anyF
  rw [Bool.eq_iff_iff, List.any_eq_true, List.any_eq_true]
  constructor
  · rintro ⟨u, hu, hh⟩
    rw [Bool.and_eq_true] at hh
    obtain ⟨a1, _, _⟩ := isOn_act (h.bk.ok u hu) hx hh.1
    exact ⟨u, List.mem_filter.mpr ⟨h.all u hu a1 (frc_open h.bk hu hh.2), hh.1⟩, hh.2⟩
  · rintro ⟨u, hu, hh⟩
    obtain ⟨h1, h2⟩ := List.mem_filter.mp hu
    exact ⟨u, (h.mem u h1).1, by rw [h2, hh]; rfl⟩
theorem yes_filter {n : Nat} {es : List En} {d k : Int} {ys : List En} (h : Oa n es d k ys) {us : List En} (hs : ∀ u ∈ us, u ∈ ys) : (us.map (pap ys)).filter isYesD = (us.filter (frc es d k)).map (pap ys) := by
  rw [List.filter_map]
  congr 1
  exact List.filter_congr fun u hu => pap_yes h (hs u hu)
theorem fy_is {n : Nat} {es : List En} {d k : Int} {ys : List En} (h : Oa n es d k ys) {us : List En} (hs : ∀ u ∈ us, u ∈ ys) (ha : us.any (frc es d k) = true) : ∃ u r, us.filter (frc es d k) = u :: r ∧ u ∈ us ∧ u ∈ ys ∧ frc es d k u = true ∧ fy ys us = pap ys u := by
  cases hc : us.filter (frc es d k) with
  | nil =>
    obtain ⟨u, hu, hh⟩ := List.any_eq_true.mp ha
    have : u ∈ us.filter (frc es d k) := List.mem_filter.mpr ⟨hu, hh⟩
    rw [hc] at this
    cases this
  | cons u r =>
    have hm : u ∈ us.filter (frc es d k) := by rw [hc]; exact List.mem_cons_self
    obtain ⟨h1, h2⟩ := List.mem_filter.mp hm
    refine ⟨u, r, rfl, h1, hs u h1, h2, ?_⟩
    unfold fy
    rw [yes_filter h hs, hc]
    rfl
theorem restLost_at {n : Nat} {es : List En} (hB : BkOk n es) (d k : Int) {u : En} (hu : u ∈ es) (hd : u.isDeed = true) : restLost es d k u.num = !carries (st es d k u) := lost_one hB d k hu hd rfl
theorem lost_filter {n : Nat} {es : List En} (hB : BkOk n es) (ys : List En) (d k : Int) {e : En} (he : e ∈ es) : (e.rests.map (why es ys d k)).filter lostD = (e.rests.filter (restLost es d k)).map (why es ys d k) := by
  rw [List.filter_map]
  congr 1
  refine List.filter_congr fun r hr => ?_
  obtain ⟨u, hu, hd, hn, _⟩ := rest_deed hB he hr
  subst hn
  show lostD (why es ys d k u.num) = _
  rw [why_lost hB ys d k hu hd, restLost_at hB d k hu hd]
/-! ### whether a thing is a why -/
def sizeW (w : Str) : Nat := if w = "void" ∨ w = "fallen" then 3 else if w = "paid" then 5 else if w = "stands" then 4 else 2
def whysD (p : Int → Dat → Bool) (rs : List Int) (x : Dat) : Bool := match x with
  | .tup ps => decide (ps.length = rs.length) && (rs.zip ps).all fun z => p z.1 z.2
  | _ => false
def whyB (es ys : List En) (d k : Int) (p : Int → Dat → Bool) (w : Str) (e : En) (x : Dat) : Bool :=
  headD x (sizeW w) w e.num &&
    (if w = "void" then someYes ys (voids ys e) (x.at 2)
     else if w = "fallen" then (e.rests.filter (restLost es d k)).any fun r => p r (x.at 2)
     else if w = "paid" then nosD ys (voids ys e) (x.at 2) && (whysD p e.rests (x.at 3) && someYes ys (paids ys e) (x.at 4))
     else if w = "stands" then nosD ys (both ys e) (x.at 2) && whysD p e.rests (x.at 3)
     else true)
def whyHN (es ys : List En) (d k : Int) : Nat → Int → Dat → Bool
  | 0, _, _ => false
  | f + 1, m, x => match es.find? (isD m) with
    | some e => whyB es ys d k (whyHN es ys d k f) (st es d k e) e x
    | none => false
def whyH (es ys : List En) (d k : Int) (m : Int) (x : Dat) : Bool := whyHN es ys d k (m.toNat + 1) m x
theorem whysD_congr {p q : Int → Dat → Bool} {rs : List Int} (h : ∀ r ∈ rs, ∀ x, p r x = q r x) (x : Dat) : whysD p rs x = whysD q rs x := by
  unfold whysD
  cases x with
  | tup ps =>
    dsimp only
    congr 1
    exact zip_all_congr fun r hr b => h r hr b
  | _ => rfl
theorem whyB_congr {es ys : List En} {d k : Int} {p q : Int → Dat → Bool} {w : Str} {e : En} (h : ∀ r ∈ e.rests, ∀ x, p r x = q r x) (x : Dat) : whyB es ys d k p w e x = whyB es ys d k q w e x := by
  unfold whyB
  rw [whysD_congr h, any_congr (p := fun r => p r (x.at 2)) (q := fun r => q r (x.at 2)) (l := e.rests.filter (restLost es d k)) fun r hr => h r (List.mem_filter.mp hr).1 _]
theorem whyHN_one {n : Nat} {es : List En} (hB : BkOk n es) (ys : List En) (d k : Int) : ∀ (f g : Nat) (m : Int) (x : Dat), m.toNat + 1 ≤ f → m.toNat + 1 ≤ g → whyHN es ys d k f m x = whyHN es ys d k g m x
  | 0, _, m, _, h, _ => by omega
  | _ + 1, 0, m, _, _, h => by omega
  | f + 1, g + 1, m, x, h1, h2 => by
    unfold whyHN
    cases hf : es.find? (isD m) with
    | none => rfl
    | some e =>
      have he := List.mem_of_find?_eq_some hf
      have hm := List.find?_some hf
      unfold isD at hm
      rw [Bool.and_eq_true] at hm
      have hn : e.num = m := of_decide_eq_true hm.2
      refine whyB_congr (fun r hr y => ?_) x
      obtain ⟨u, hu, _, hun, hlt⟩ := rest_deed hB he hr
      have := hB.rng u hu
      exact whyHN_one hB ys d k f g r y (by omega) (by omega)
theorem whyH_eq {n : Nat} {es : List En} (hB : BkOk n es) (ys : List En) (d k : Int) {e : En} (he : e ∈ es) (hd : e.isDeed = true) (x : Dat) : whyH es ys d k e.num x = whyB es ys d k (whyH es ys d k) (st es d k e) e x := by
  show (match es.find? (isD e.num) with
    | some e' => whyB es ys d k (whyHN es ys d k e.num.toNat) (st es d k e') e' x
    | none => false) = _
  rw [find_deed hB he hd]
  refine whyB_congr (fun r hr y => ?_) x
  obtain ⟨u, hu, _, hun, hlt⟩ := rest_deed hB he hr
  have := hB.rng u hu
  exact whyHN_one hB ys d k _ _ r y (by omega) (Nat.le_refl _)
theorem nosD_pap {n : Nat} {es : List En} {d k : Int} {ys : List En} (h : Oa n es d k ys) {us : List En} (hs : ∀ u ∈ us, u ∈ ys) (hn : ∀ u ∈ us, frc es d k u = false) : nosD ys us (.tup (us.map (pap ys))) = true := by
  unfold nosD
  dsimp only
  rw [List.length_map, decide_eq_true rfl, Bool.true_and]
  refine zip_map_all fun u hu => ?_
  have := hold_pap h (hs u hu)
  rw [hn u hu] at this
  exact this
theorem someYes_fy {n : Nat} {es : List En} {d k : Int} {ys : List En} (h : Oa n es d k ys) {us : List En} (hs : ∀ u ∈ us, u ∈ ys) (ha : us.any (frc es d k) = true) : someYes ys us (fy ys us) = true := by
  obtain ⟨u, r, _, h1, h2, h3, h4⟩ := fy_is h hs ha
  rw [h4]
  unfold someYes
  have := hold_pap h h2
  rw [h3] at this
  exact List.any_eq_true.mpr ⟨u, h1, this⟩
theorem any_false {α : Type} {l : List α} {p : α → Bool} (h : l.any p = false) : ∀ x ∈ l, p x = false := fun x hx => by
  rw [List.any_eq_false] at h
  simpa using h x hx
theorem neW : ¬ (("unknown" : Str) = "void") ∧ ¬ (("unknown" : Str) = "fallen") ∧ ¬ (("unknown" : Str) = "paid") ∧ ¬ (("unknown" : Str) = "stands") ∧ ¬ (("ahead" : Str) = "void") ∧ ¬ (("ahead" : Str) = "fallen") ∧ ¬ (("ahead" : Str) = "paid") ∧ ¬ (("ahead" : Str) = "stands") ∧ ¬ (("void" : Str) = "fallen") ∧ ¬ (("void" : Str) = "paid") ∧ ¬ (("void" : Str) = "stands") ∧ ¬ (("fallen" : Str) = "void") ∧ ¬ (("fallen" : Str) = "paid") ∧ ¬ (("fallen" : Str) = "stands") ∧ ¬ (("paid" : Str) = "void") ∧ ¬ (("paid" : Str) = "fallen") ∧ ¬ (("paid" : Str) = "stands") ∧ ¬ (("stands" : Str) = "void") ∧ ¬ (("stands" : Str) = "fallen") ∧ ¬ (("stands" : Str) = "paid") := by decide
theorem whyH_whyF {n : Nat} {es : List En} {d k : Int} {ys : List En} (h : Oa n es d k ys) : ∀ (f : Nat) (e : En), e ∈ es → e.isDeed = true → e.num.toNat + 1 ≤ f → whyH es ys d k e.num (why es ys d k e.num) = true
  | 0, e, _, _, hf => by omega
  | f + 1, e, he, hd, hf => by
    have hB := h.bk
    have hsv : ∀ u ∈ voids ys e, u ∈ ys := fun u hu => (List.mem_filter.mp hu).1
    have hsp : ∀ u ∈ paids ys e, u ∈ ys := fun u hu => (List.mem_filter.mp hu).1
    have ih : ∀ r ∈ e.rests, whyH es ys d k r (why es ys d k r) = true := fun r hr => by
      obtain ⟨u, hu, hud, hun, hlt⟩ := rest_deed hB he hr
      subst hun
      have := hB.rng u hu
      have := hB.rng e he
      exact whyH_whyF h f u hu hud (by omega)
    have hw : whysD (whyH es ys d k) e.rests (.tup (e.rests.map (why es ys d k))) = true := by
      unfold whysD
      dsimp only
      rw [List.length_map, decide_eq_true rfl, Bool.true_and]
      exact zip_map_all fun r hr => ih r hr
    rw [whyH_eq hB ys d k he hd, why_eq hB ys d k he hd]
    rcases st_cases hB d k he with ⟨h1, h2⟩ | ⟨h1, h2⟩ | ⟨h1, h2⟩ | ⟨h1, h2, h3⟩ | ⟨h1, h2, h3, h4⟩ | ⟨h1, h2, h3, h4⟩
    · rw [h1]
      simp [neW, whyB, whyO, headD, sizeW, Dat.at]
    · rw [h1]
      simp [neW, whyB, whyO, headD, sizeW, Dat.at]
    · rw [h1]
      rw [h.any (by decide)] at h2
      have := someYes_fy h hsv h2
      simp [neW, whyB, whyO, headD, sizeW, Dat.at, this]
    · rw [h1]
      cases hc : e.rests.filter (restLost es d k) with
      | nil =>
        obtain ⟨r, hr, hh⟩ := List.any_eq_true.mp h3
        have : r ∈ e.rests.filter (restLost es d k) := List.mem_filter.mpr ⟨hr, hh⟩
        rw [hc] at this
        cases this
      | cons r t =>
        have hm : r ∈ e.rests.filter (restLost es d k) := by rw [hc]; exact List.mem_cons_self
        have h5 := ih r (List.mem_filter.mp hm).1
        simp [neW, whyB, whyO, headD, sizeW, Dat.at, lost_filter hB ys d k he, hc, h5]
    · rw [h1]
      rw [h.any (by decide)] at h2 h4
      have a1 := nosD_pap h hsv (any_false h2)
      have a2 := someYes_fy h hsp h4
      simp [neW, whyB, whyO, headD, sizeW, Dat.at, a1, a2, hw]
    · rw [h1]
      rw [h.any (by decide)] at h2 h4
      have a1 := nosD_pap h (us := both ys e) (fun u hu => (List.mem_filter.mp hu).1) fun u hu => by
        obtain ⟨b1, b2⟩ := List.mem_filter.mp hu
        rw [Bool.or_eq_true] at b2
        rcases b2 with b2 | b2
        · exact any_false h2 u (List.mem_filter.mpr ⟨b1, b2⟩)
        · exact any_false h4 u (List.mem_filter.mpr ⟨b1, b2⟩)
      simp [neW, whyB, whyO, headD, sizeW, Dat.at, a1, hw]
theorem whyH_why {n : Nat} {es : List En} {d k : Int} {ys : List En} (h : Oa n es d k ys) {e : En} (he : e ∈ es) (hd : e.isDeed = true) : whyH es ys d k e.num (why es ys d k e.num) = true := whyH_whyF h _ e he hd (Nat.le_refl _)
/-! ### texts, depth -/
def upTo (es : List En) (e : En) : Nat := (es.filter fun u => decide (u.num ≤ e.num)).length
theorem upTo_lt {es : List En} {e u : En} (he : e ∈ es) (hlt : u.num < e.num) : upTo es u + 1 ≤ upTo es e := by
  unfold upTo
  have h1 : (es.filter fun x => decide (x.num ≤ u.num)).Sublist (es.filter fun x => decide (x.num ≤ e.num)) := by
    have : (es.filter fun x => decide (x.num ≤ u.num)) = (es.filter fun x => decide (x.num ≤ e.num)).filter fun x => decide (x.num ≤ u.num) := by
      rw [List.filter_filter]
      refine List.filter_congr fun x _ => ?_
      by_cases hx : x.num ≤ u.num
      · simp [hx, show x.num ≤ e.num by omega]
      · simp [hx]
    rw [this]
    exact List.filter_sublist
  rcases Nat.lt_or_ge (es.filter fun x => decide (x.num ≤ u.num)).length (es.filter fun x => decide (x.num ≤ e.num)).length with hl | hl
  · exact hl
  · have e2 := h1.eq_of_length_le hl
    have hm : e ∈ es.filter fun x => decide (x.num ≤ e.num) := List.mem_filter.mpr ⟨he, decide_eq_true (Int.le_refl _)⟩
    rw [← e2] at hm
    have := of_decide_eq_true (List.mem_filter.mp hm).2
    omega
/-- right texts, and no deeper than m -/
def Fine (m : Nat) (x : Dat) : Prop := x.okD = true ∧ x.dep ≤ m
theorem Fine.mono {m m' : Nat} {x : Dat} (h : Fine m x) (hm : m ≤ m') : Fine m' x := ⟨h.1, Nat.le_trans h.2 hm⟩
theorem Fine.tup {m : Nat} {l : List Dat} (h : ∀ x ∈ l, Fine m x) : Fine (m + 1) (.tup l) := by
  refine ⟨?_, ?_⟩
  · unfold Dat.okD
    exact okAll_of fun x hx => (h x hx).1
  · unfold Dat.dep
    have := depAll_of (l := l) fun x hx => (h x hx).2
    omega
theorem Fine.str {m : Nat} {x : Str} (h : PyData.strOk x = true) : Fine m (.str x) := ⟨by unfold Dat.okD; exact h, by unfold Dat.dep; omega⟩
theorem Fine.int {m : Nat} {i : Int} : Fine m (.int i) := ⟨rfl, by unfold Dat.dep; omega⟩
theorem pap_fine {n : Nat} {es : List En} {d k : Int} {ys : List En} (h : Oa n es d k ys) {e : En} (he : e ∈ ys) : Fine (2 * ys.length) (pap ys e) := ⟨pap_ok h he, pap_dep h he⟩
theorem two_len {α : Type} (p : α → Bool) : ∀ l : List α, (l.filter p).length + (l.filter fun x => !p x).length = l.length
  | [] => rfl
  | a :: r => by
    have ih := two_len p r
    cases h : p a <;> simp [List.filter_cons, h] <;> omega
theorem why_fineF {n : Nat} {es : List En} {d k : Int} {ys : List En} (h : Oa n es d k ys) : ∀ (f : Nat) (e : En), e ∈ es → e.isDeed = true → e.num.toNat + 1 ≤ f → Fine (2 * upTo (es.filter (·.isDeed)) e + 2 * ys.length) (why es ys d k e.num)
  | 0, e, _, _, hf => by omega
  | f + 1, e, he, hd, hf => by
    have hB := h.bk
    have hp : 1 ≤ upTo (es.filter (·.isDeed)) e := List.length_pos_of_mem (List.mem_filter.mpr ⟨List.mem_filter.mpr ⟨he, hd⟩, decide_eq_true (Int.le_refl _)⟩)
    have ih : ∀ r ∈ e.rests, Fine (2 * upTo (es.filter (·.isDeed)) e + 2 * ys.length - 2) (why es ys d k r) := fun r hr => by
      obtain ⟨u, hu, hud, hun, hlt⟩ := rest_deed hB he hr
      subst hun
      have := hB.rng u hu
      have := hB.rng e he
      have h9 : upTo (es.filter (·.isDeed)) u + 1 ≤ upTo (es.filter (·.isDeed)) e := upTo_lt (List.mem_filter.mpr ⟨he, hd⟩) hlt
      exact (why_fineF h f u hu hud (by omega)).mono (by omega)
    have hpp : ∀ us : List En, (∀ u ∈ us, u ∈ ys) → Fine (2 * upTo (es.filter (·.isDeed)) e + 2 * ys.length - 1) (.tup (us.map (pap ys))) := fun us hus => by
      refine (Fine.tup (m := 2 * ys.length) fun x hx => ?_).mono (by omega)
      obtain ⟨u, hu, rfl⟩ := List.mem_map.mp hx
      exact pap_fine h (hus u hu)
    have hbl : Fine (2 * upTo (es.filter (·.isDeed)) e + 2 * ys.length - 1) (.tup (e.rests.map (why es ys d k))) := by
      refine (Fine.tup (m := 2 * upTo (es.filter (·.isDeed)) e + 2 * ys.length - 2) fun x hx => ?_).mono (by omega)
      obtain ⟨r, hr, rfl⟩ := List.mem_map.mp hx
      exact ih r hr
    have hsv : ∀ u ∈ voids ys e, u ∈ ys := fun u hu => (List.mem_filter.mp hu).1
    have hsp : ∀ u ∈ paids ys e, u ∈ ys := fun u hu => (List.mem_filter.mp hu).1
    have hfy : ∀ us : List En, (∀ u ∈ us, u ∈ ys) → us.any (frc es d k) = true → Fine (2 * upTo (es.filter (·.isDeed)) e + 2 * ys.length - 1) (fy ys us) := fun us hus ha => by
      obtain ⟨u, r, _, h1, h2, h3, h4⟩ := fy_is h hus ha
      rw [h4]
      exact (pap_fine h h2).mono (by omega)
    have hfin : ∀ l : List Dat, (∀ x ∈ l, Fine (2 * upTo (es.filter (·.isDeed)) e + 2 * ys.length - 1) x) → Fine (2 * upTo (es.filter (·.isDeed)) e + 2 * ys.length) (.tup l) := fun l hl => (Fine.tup hl).mono (by omega)
    have q0 : ∀ x : Dat, x ∈ ([] : List Dat) → Fine (2 * upTo (es.filter (·.isDeed)) e + 2 * ys.length - 1) x := fun _ hx => nomatch hx
    have qc : ∀ {a : Dat} {l : List Dat}, Fine (2 * upTo (es.filter (·.isDeed)) e + 2 * ys.length - 1) a → (∀ x ∈ l, Fine (2 * upTo (es.filter (·.isDeed)) e + 2 * ys.length - 1) x) → ∀ x ∈ a :: l, Fine (2 * upTo (es.filter (·.isDeed)) e + 2 * ys.length - 1) x := fun ha hl x hx => by
      rcases List.mem_cons.mp hx with rfl | hx
      · exact ha
      · exact hl x hx
    rw [why_eq hB ys d k he hd]
    rcases st_cases hB d k he with ⟨h1, h2⟩ | ⟨h1, h2⟩ | ⟨h1, h2⟩ | ⟨h1, h2, h3⟩ | ⟨h1, h2, h3, h4⟩ | ⟨h1, h2, h3, h4⟩
    · rw [h1]
      exact hfin _ (qc (.str (by decide +kernel)) (qc .int q0))
    · rw [h1]
      exact hfin _ (qc (.str (by decide +kernel)) (qc .int q0))
    · rw [h1]
      rw [h.any (by decide)] at h2
      exact hfin _ (qc (.str (by decide +kernel)) (qc .int (qc (hfy _ hsv h2) q0)))
    · rw [h1]
      refine hfin _ (qc (.str (by decide +kernel)) (qc .int (qc ?_ q0)))
      rw [lost_filter hB ys d k he]
      cases hc : e.rests.filter (restLost es d k) with
      | nil =>
        obtain ⟨r, hr, hh⟩ := List.any_eq_true.mp h3
        have : r ∈ e.rests.filter (restLost es d k) := List.mem_filter.mpr ⟨hr, hh⟩
        rw [hc] at this
        cases this
      | cons r t =>
        have hm : r ∈ e.rests.filter (restLost es d k) := by rw [hc]; exact List.mem_cons_self
        exact (ih r (List.mem_filter.mp hm).1).mono (by omega)
    · rw [h1]
      rw [h.any (by decide)] at h4
      exact hfin _ (qc (.str (by decide +kernel)) (qc .int (qc (hpp _ hsv) (qc hbl (qc (hfy _ hsp h4) q0)))))
    · rw [h1]
      exact hfin _ (qc (.str (by decide +kernel)) (qc .int (qc (hpp _ fun u hu => (List.mem_filter.mp hu).1) (qc hbl q0))))
theorem Oa.len {n : Nat} {es : List En} {d k : Int} {ys : List En} (h : Oa n es d k ys) : (es.filter (·.isDeed)).length + ys.length ≤ es.length := by
  have h1 : (ys.map (·.num)).length ≤ ((es.filter fun e => !e.isDeed).map (·.num)).length := nodup_len (by
    rw [List.nodup_iff_pairwise_ne, List.pairwise_map]
    exact h.up.imp fun h => by omega) fun x hx => by
      obtain ⟨u, hu, rfl⟩ := List.mem_map.mp hx
      have := h.mem u hu
      exact List.mem_map.mpr ⟨u, List.mem_filter.mpr ⟨this.1, by rw [this.2.1]; rfl⟩, rfl⟩
  rw [List.length_map, List.length_map] at h1
  have h2 := two_len (·.isDeed) es
  omega
theorem why_fine {n : Nat} {es : List En} {d k : Int} {ys : List En} (h : Oa n es d k ys) {e : En} (he : e ∈ es) (hd : e.isDeed = true) : Fine (2 * es.length) (why es ys d k e.num) := by
  have h1 := why_fineF h _ e he hd (Nat.le_refl _)
  have h2 := h.len
  have h3 : upTo (es.filter (·.isDeed)) e ≤ (es.filter (·.isDeed)).length := List.length_filter_le _ _
  exact h1.mono (by omega)
theorem pap_fine2 {n : Nat} {es : List En} {d k : Int} {ys : List En} (h : Oa n es d k ys) {e : En} (he : e ∈ ys) : Fine (2 * es.length) (pap ys e) := (pap_fine h he).mono (by have := h.len; omega)
end Deed

namespace Deed
open PySem PySem.Spec PyProof.Rows L2 LamX
mutual
theorem Dat.self : ∀ d : Dat, PyData.eqv d.py d.py = true
  | .non => by simp [Dat.py, PyData.eqv]
  | .bl b => by simp [Dat.py, PyData.eqv]
  | .int i => by simp [Dat.py, PyData.eqv]
  | .str x => by simp [Dat.py, PyData.eqv]
  | .oth => by simp [Dat.py, PyData.eqv]
  | .tup xs => by
    have := Dat.selfAll xs
    simp [Dat.py, PyData.eqv, this]
theorem Dat.selfAll : ∀ ds : List Dat, PyData.eqvAll (Dat.pyAll ds) (Dat.pyAll ds) = true
  | [] => by simp [Dat.pyAll, PyData.eqvAll]
  | d :: r => by
    have h1 := Dat.self d
    have h2 := Dat.selfAll r
    simp [Dat.pyAll, PyData.eqvAll, h1, h2]
end
theorem oa_some {n : Nat} {es : List En} (hB : BkOk n es) (d k : Int) : ∃ ys, Oa n es d k ys := by
  let l := es.filter fun u => !u.isDeed && isOpen d k u
  let ys := l.mergeSort fun a b => decide (a.num ≤ b.num)
  have pm : ys.Perm l := List.mergeSort_perm _ _
  have up : ys.Pairwise (fun a b => decide (a.num ≤ b.num) = true) := List.pairwise_mergeSort (le := fun a b : En => decide (a.num ≤ b.num)) (fun a b c h1 h2 => decide_eq_true (Int.le_trans (of_decide_eq_true h1) (of_decide_eq_true h2))) (fun a b => by
    rcases Int.le_total a.num b.num with h | h
    · rw [decide_eq_true h]; rfl
    · rw [decide_eq_true h, Bool.or_true]) l
  have nd : (ys.map (·.num)).Nodup := by
    rw [(pm.map _).nodup_iff]
    exact (List.filter_sublist.map _).nodup hB.nd
  refine ⟨ys, hB, fun u hu => ?_, fun u hu h1 h2 => ?_, ?_⟩
  · obtain ⟨a1, a2⟩ := List.mem_filter.mp (pm.mem_iff.mp hu)
    rw [Bool.and_eq_true] at a2
    exact ⟨a1, by simpa using a2.1, a2.2⟩
  · exact pm.mem_iff.mpr (List.mem_filter.mpr ⟨hu, by rw [h1, h2]; rfl⟩)
  · rw [List.nodup_iff_pairwise_ne, List.pairwise_map] at nd
    exact (up.and nd).imp fun h => by
      have := of_decide_eq_true h.1
      have := h.2
      omega
end Deed

namespace Deed
open PySem PySem.Spec PyProof.Rows L2 LamX
/-- a list of papers -/
def DatsAt (H : Hp) (as : List (Addr × Dat)) : Prop := ∀ z ∈ as, Da H (.ref z.1) z.2 ∧ ∃ w r, z.2 = .tup (.str w :: r)
theorem DatsAt.same {H H' : Hp} {as : List (Addr × Dat)} (h : DatsAt H as) (s : Same H H') : DatsAt H' as := fun z hz => ⟨(h z hz).1.ext (.of s), (h z hz).2⟩
theorem Da.head {H : Hp} {a : Addr} {w : Str} {r : List Dat} (h : Da H (.ref a) (.tup (.str w :: r))) : ∃ xs, H a = some (.tup (.str w :: xs)) ∧ DaAll H xs r := by
  cases h with
  | tup e h =>
    cases h with
    | cons h1 h2 =>
      cases h1
      exact ⟨_, e, h2⟩
theorem papO_head (n : Int) (ps : List Dat) : ∃ w r, papO n ps = .tup (.str w :: .int n :: r) := by
  unfold papO
  cases ps.filter isYesD with
  | nil => exact ⟨_, _, rfl⟩
  | cons y r => exact ⟨_, _, rfl⟩
theorem pap_head {n : Nat} {es : List En} {d k : Int} {ys : List En} (h : Oa n es d k ys) {e : En} (he : e ∈ ys) : ∃ w r, pap ys e = .tup (.str w :: r) := by
  rw [pap_eq h he]
  obtain ⟨w, r, e⟩ := papO_head e.num ((ys.filter (isOn "undone" e.num)).map (pap ys))
  exact ⟨w, _, e⟩
/-- the papers of us, as a dict -/
def PapD (H : Hp) (pd : Addr) (ys us : List En) : Prop := ∃ ps : List (En × Addr), ps.map (·.1) = us ∧ H pd = some (.dK (ps.map fun z => (Sum.inl z.1.num, V.ref z.2))) ∧ ∀ z ∈ ps, Da H (.ref z.2) (pap ys z.1)
theorem PapD.ext {H H' : Hp} {pd : Addr} {ys us : List En} (h : PapD H pd ys us) (e : ExtN H H') : PapD H' pd ys us := by
  obtain ⟨ps, h1, h2, h3⟩ := h
  exact ⟨ps, h1, e _ _ h2 (fun ps z => by cases z), fun z hz => (h3 z hz).ext e⟩
theorem PapD.get {H : Hp} {pd : Addr} {ys us : List En} (h : PapD H pd ys us) (nd : (us.map (·.num)).Nodup) {u : En} (hu : u ∈ us) : ∃ a, DGet H pd (.int u.num) (some (.ref a)) ∧ Da H (.ref a) (pap ys u) := by
  obtain ⟨ps, rfl, h2, h3⟩ := h
  obtain ⟨z, hz, rfl⟩ := List.mem_map.mp hu
  refine ⟨z.2, ?_, h3 z hz⟩
  have h4 := DGet.k (k := Sum.inl z.1.num) h2
  rw [valV_map (f := fun z : En × Addr => z.1.num) (g := fun z : En × Addr => V.ref z.2) (by rw [List.map_map] at nd; exact nd) hz] at h4
  exact h4
theorem valV_none {kvs : List (Key × V)} {k : Key} (h : ∀ q ∈ kvs, q.1 ≠ k) : valV kvs k = none := by
  unfold valV
  rw [List.find?_eq_none.mpr fun q hq => by simpa using h q hq]
  rfl
section
variable {P : Program} {w : World} {K : PySem.W.Frag} {mg : Str → Option Value} {base : Heap} {T : List (Addr × Str)}
abbrev sPapOver : Stmt := topS 34
abbrev nPapOver : List Str := ["number", "undones", "yeses", "paper"]
abbrev pPapOver : List Str := ["number", "undones"]
theorem scPapOver : FnScope nPapOver pPapOver (defScope sPapOver) := ⟨rfl, rfl, rfl, by decide +kernel, rfl, by decide +kernel, by decide +kernel⟩
def spPapOver : Sp := fun vs H Q _ => ∃ (n : Int) (l : Addr) (as : List (Addr × Dat)), vs = [.int n, .ref l] ∧ H l = some (.lst (as.map fun z => V.ref z.1)) ∧ DatsAt H as ∧ as.length ≤ 1000 ∧ ∀ t H', Same H H' → H t = none → Da H' (.ref t) (papO n (as.map (·.2))) → Q (.ref t) H'
theorem ok_papOver {f : Addr} {fd : FuncData} {k : Nat} (F : Fun K "paper_over" "paper_over" sPapOver f fd) (m_tuple : mg "tuple" = none) : FnOk P w K mg base CX0 (k + 1) f fd pPapOver spPapOver := by
  refine F.ok scPapOver (fun vs H Q E h => ?_) (fun cdv A outer s H vs Q E hr h => ?_)
  · obtain ⟨n, l, as, rfl, _⟩ := h
    rfl
  · obtain ⟨n, l, as, rfl, el, hA, hln, q⟩ := h
    have nd := scPapOver.nd
    refine ⟨_, pss_cons (ps_setLc (i := 2) (own := [("paper", 3)]) (g := gName 3) (by rfl) nd rfl rfl (sw_true rfl rfl rfl (by decide +kernel)) (pi_list (pv 1)) (blkOk_by (own := [("paper", 3)]) (N := nPapOver) (sc := defScope sPapOver) (by decide +kernel)) (fun _ _ _ _ _ => (pg_name (i := 3) nd rfl (.inl rfl))) (fun _ _ _ _ _ => (pts_one (pt_cmpR op_eq (pe_ix (ix_tupK (K := K) (by rfl)) (pv 3) pe_int (fun _ _ => rfl)) pe_str (nomark _))))
          (fun _ _ _ _ _ => (pv 3)))
      (pss_cons (ps_if (pt_truth (pv 2) (fun _ => rfl)) (pss_one (ps_ret (pe_tup (pa_cons pe_str (pa_cons (pv 0) (pa_cons (pe_ix ix_list (pv 2) pe_int (fun _ _ => rfl)) pa_nil)))))) pss_nil)
      (pss_one (ps_ret (pe_tup (pa_cons pe_str (pa_cons (pv 0) (pa_cons (pe_callTy call_tuple_of (by rfl) m_tuple (by decide +kernel) (pa_cons (pv 1) pa_nil)) pa_nil))))))), ?_⟩
    refine ⟨_, rfl, l, rfl, ⟨_, SqL.of el⟩, fun M1 nM1 => ?_⟩
    refine lc_sameV (walk_list (xs := as.map fun z => V.ref z.1)) as (fun y => isYesD y.2) (fun y => .ref y.1) (by rw [List.length_map]) hln nM1 (fun H s => SqL.of (s _ _ el)) ?_ ?_
    · rintro i y x H3 H4 hy s3 ⟨rfl, hx⟩ Q1 Q0 q1 q0
      rw [List.getElem?_map, hy] at hx
      injection hx with hx
      subst hx
      obtain ⟨hd, w, r, e⟩ := hA.same s3 y (List.mem_of_getElem? hy)
      rw [e] at hd
      obtain ⟨xs, ex, _⟩ := hd.head
      refine ⟨rfl, _, rfl, y.1, _, _, _, rfl, rfl, SqT.of ex, (atI_nat (j := 0) rfl), rfl, _, rfl, ?_⟩
      refine ite2 (fun c => ?_) (fun c => ?_)
      · refine ⟨_, rfl, q1 ?_ _ (same_refl _)⟩
        rw [e]
        exact decide_eq_true (by have := of_decide_eq_true c; injection this)
      · refine q0 ?_ _ (same_refl _)
        rw [e]
        exact decide_eq_false fun z => c (decide_eq_true (by rw [z]))
    intro H2 s2 eM
    have eyes : (as.map (·.2)).filter isYesD = (as.filter fun y => isYesD y.2).map (·.2) := by
      rw [List.filter_map]
      rfl
    refine ⟨_, rfl, _, .inl ⟨_, SqL.of eM, rfl⟩, ?_⟩
    cases hc : as.filter fun y => isYesD y.2 with
    | nil =>
      rw [hc] at eyes
      refine iteF ?_
      refine ⟨_, rfl, _, rfl, l, _, rfl, .inl ⟨SqL.of (s2 _ _ el), fun t3 nt3 => ?_⟩⟩
      have s3 := same_new nt3 (.tup (as.map fun z => V.ref z.1))
      have e3 : (upd H2 t3 (.tup (as.map fun z => V.ref z.1))) t3 = some (.tup (as.map fun z => V.ref z.1)) := upd_same
      generalize upd H2 t3 (.tup (as.map fun z => V.ref z.1)) = H3 at s3 e3
      refine ⟨(by show 3 ≤ sizeLine; decide), fun t4 nt4 => ?_⟩
      have s4 := same_new nt4 (.tup [.str "yes", .int n, .ref t3])
      have e4 : (upd H3 t4 (.tup [.str "yes", .int n, .ref t3])) t4 = some (.tup [.str "yes", .int n, .ref t3]) := upd_same
      have sA := s2.trans (s3.trans s4)
      refine q t4 _ sA (none_back (s2.trans s3) nt4) ?_
      unfold papO
      rw [eyes]
      refine .tup e4 (.cons (.str _) (.cons (.int _) (.cons (.tup (s4 _ _ e3) ?_) .nil)))
      exact DaAll.map fun z hz => (hA z hz).1.ext (.of sA)
    | cons y r =>
      rw [hc] at eyes eM
      refine iteT ?_
      refine ⟨_, rfl, _, rfl, M1, _, _, _, rfl, rfl, SqL.of eM, (atI_nat (j := 0) rfl), (by show 3 ≤ sizeLine; decide), fun t4 nt4 => ?_⟩
      have s4 := same_new nt4 (.tup [.str "no", .int n, .ref y.1])
      have e4 : (upd H2 t4 (.tup [.str "no", .int n, .ref y.1])) t4 = some (.tup [.str "no", .int n, .ref y.1]) := upd_same
      have sA := s2.trans s4
      refine q t4 _ sA (none_back s2 nt4) ?_
      unfold papO
      rw [eyes]
      have hm : y ∈ as := (List.mem_filter.mp (show y ∈ as.filter fun y => isYesD y.2 by rw [hc]; exact List.mem_cons_self)).1
      exact .tup e4 (.cons (.str _) (.cons (.int _) (.cons ((hA y hm).1.ext (.of sA)) .nil)))
abbrev sPapersOf : Stmt := topS 35
abbrev nPapersOf : List Str := ["acts", "papers", "act", "undones", "undone"]
abbrev pPapersOf : List Str := ["acts"]
theorem scPapersOf : FnScope nPapersOf pPapersOf (defScope sPapersOf) := ⟨rfl, rfl, rfl, by decide +kernel, rfl, by decide +kernel, by decide +kernel⟩
def spPapersOf : Sp := fun vs H Q _ => ∃ (la : Addr) (n : Nat) (es : List En) (d k : Int) (ys : List (Addr × En)), vs = [.ref la] ∧ H la = some (.lst (refs ys)) ∧ (∀ z ∈ ys, EntAt H z.1 z.2) ∧ Oa n es d k (ens ys) ∧ ys.length ≤ 1000 ∧
  ∀ pd H', Same H H' → H pd = none → PapD H' pd (ens ys) (ens ys).reverse → Q (.ref pd) H'
theorem ok_papersOf {f : Addr} {fd : FuncData} {k : Nat} (F : Fun K "papers_of" "papers_of" sPapersOf f fd) (C_acts_on : CallOk P w K mg base k "acts_on" pActsOn spActsOn) (C_paper_over : CallOk P w K mg base k "paper_over" pPapOver spPapOver) (iNUMBER : MgInt mg "NUMBER" 0) : FnOk P w K mg base CX0 (k + 1) f fd pPapersOf spPapersOf := by
  refine F.ok scPapersOf (fun vs H Q E h => ?_) (fun cdv A outer s H vs Q E hr h => ?_)
  · obtain ⟨la, n, es, d, k, ys, rfl, _⟩ := h
    rfl
  · obtain ⟨la, n, es, d, kk, ys, rfl, el, hE, hO, hln, q⟩ := h
    have nd := scPapersOf.nd
    have hu := hu_of hr
    refine ⟨_, pss_cons (ps_set (i := 1) nd rfl (.inr rfl) pe_dnewK)
      (pss_cons (ps_for PassesOwn.never rfl (pi_list (pe_revL (pv 0))) (pg_name (i := 2) nd rfl (.inl rfl))
        (pss_cons (ps_set (i := 3) nd rfl (.inl rfl) (pe_call C_acts_on.ok hr (by rfl) C_acts_on.g C_acts_on.kp C_acts_on.b .nil pass0 (pa_cons (pv 0) (pa_cons pe_str (pa_cons (pe_ix ix_tup (pv 2) (pe_num (by rfl) iNUMBER) (fun _ _ => rfl)) pa_nil)))))
      (pss_one (ps_dput hu (pv 1) (pe_ix ix_tup (pv 2) (pe_num (by rfl) iNUMBER) (fun _ _ => rfl)) (pe_call C_paper_over.ok hr (by rfl) C_paper_over.g C_paper_over.kp C_paper_over.b .nil pass0 (pa_cons (pe_ix ix_tup (pv 2) (pe_num (by rfl) iNUMBER) (fun _ _ => rfl)) (pa_cons (pe_lc (own := [("undone", 4)]) (g := gName 4) (by rfl) nd (pi_list (pv 3)) (blkOk_by (own := [("undone", 4)]) (N := nPapersOf) (sc := defScope sPapersOf) (by decide +kernel)) (fun _ _ _ _ _ => (pg_name (i := 4) nd rfl (.inl rfl))) (fun _ _ _ _ _ => pts_nil)
          (fun _ _ _ _ _ => (pe_dget hu (pv 1) (pv 4) (fun _ _ => rfl)))) pa_nil))) rfl))))
      (pss_one (ps_ret (pv 1)))), ?_⟩
    refine fun pd npd => ?_
    have s0 := same_new npd (.dK [])
    have e0 : (upd H pd (.dK [])) pd = some (.dK []) := upd_same
    generalize upd H pd (.dK []) = H0 at s0 e0
    refine ⟨_, rfl, la, _, rfl, SqL.of (s0 _ _ el), fun rv nrv => ?_⟩
    have s1 := same_new nrv (.lst (refs ys).reverse)
    have erv : (upd H0 rv (.lst (refs ys).reverse)) rv = some (.lst (refs ys.reverse)) := by rw [upd_same, ← List.map_reverse]
    have nrp : rv ≠ pd := fun z => by rw [z, e0] at nrv; cases nrv
    generalize upd H0 rv (.lst (refs ys).reverse) = H1 at s1 erv
    have hnd : (((ens ys).reverse).map (·.num)).Nodup := by
      rw [List.nodup_iff_pairwise_ne, List.pairwise_map, List.pairwise_reverse]
      exact hO.up.imp fun h => by omega
    have er : (ys.reverse).map (·.2) = (ens ys).reverse := List.map_reverse
    refine ⟨rv, rfl, ⟨_, SqL.of erv⟩, ?_⟩
    refine for_list (K := K) (a := rv) (xs := refs ys.reverse) (fun i σ H' => ∃ y2 y3 y4, σ = [some (.ref la), some (.ref pd), y2, y3, y4] ∧ Same H H' ∧ H' rv = some (.lst (refs ys.reverse)) ∧ PapD H' pd (ens ys) ((ens ys).reverse.take i)) ⟨_, _, _, rfl, s0.trans s1, erv, [], rfl, s1 _ _ e0, fun _ h => nomatch h⟩ (fun i σ H' _ h => ?_) ?_ ?_
    · obtain ⟨_, _, _, _, _, e, _⟩ := h
      exact SqL.of e
    · rintro i x σ H2 hx ⟨y2, y3, y4, rfl, sm, ev, hP⟩
      obtain ⟨z, hz, rfl⟩ := ref_at hx
      have hzm : z ∈ ys := List.mem_reverse.mp (List.mem_of_getElem? hz)
      have hze : z.2 ∈ ens ys := List.mem_map.mpr ⟨z, hzm, rfl⟩
      obtain ⟨xs, ex, g0, _⟩ := ((hE z hzm).kp (Same.tup sm)).tup
      have hE2 : ∀ z ∈ ys, EntAt H2 z.1 z.2 ∧ z.2.isDeed = false := fun z hz => ⟨(hE z hz).kp (Same.tup sm), (hO.mem z.2 (List.mem_map.mpr ⟨z, hz, rfl⟩)).2.1⟩
      refine ⟨_, rfl, _, rfl, z.1, _, _, _, rfl, rfl, SqT.of ex, g0, la, "undone", z.2.num, ys, rfl, sm _ _ el, hE2, hln, fun ul H3 s3 nul eul => ?_⟩
      -- the undones' papers stand in the dict
      have hP3 := hP.ext (.of s3)
      have huz : (ys.filter fun y => isOn "undone" z.2.num y.2).map (fun y => y.2.num) = ((ens ys).filter (isOn "undone" z.2.num)).map (·.num) := by
        unfold ens
        rw [List.filter_map, List.map_map]
        rfl
      rw [huz] at eul
      generalize hus : (ens ys).filter (isOn "undone" z.2.num) = us at eul
      have hzi : (ens ys).reverse[i]? = some z.2 := by
        rw [← er, List.getElem?_map, hz]
        rfl
      have hin : ∀ u ∈ us, u ∈ (ens ys).reverse.take i := fun u hu => by
        rw [← hus] at hu
        obtain ⟨a1, a2, _, _⟩ := hO.undo hu
        obtain ⟨j, hj⟩ := List.getElem?_of_mem (List.mem_reverse.mpr a1)
        have hji : j < i := by
          rcases Nat.lt_or_ge j i with h | h
          · exact h
          · exfalso
            have hup : ((ens ys).reverse).Pairwise (fun a b => b.num < a.num) := List.pairwise_reverse.mpr hO.up
            rcases Nat.eq_or_lt_of_le h with h | h
            · subst h
              rw [hzi] at hj
              injection hj with hj
              rw [hj] at a2
              omega
            · obtain ⟨hj1, hj2⟩ := List.getElem?_eq_some_iff.mp hj
              obtain ⟨hi1, hi2⟩ := List.getElem?_eq_some_iff.mp hzi
              have := List.pairwise_iff_getElem.mp hup i j hi1 hj1 h
              rw [hj2, hi2] at this
              omega
        exact List.mem_of_getElem? (i := j) (by rw [List.getElem?_take, if_pos hji]; exact hj)
      have hndi : (((ens ys).reverse.take i).map (·.num)).Nodup := by
        rw [List.map_take]
        exact hnd.sublist (List.take_sublist _ _)
      have hul : us.length ≤ 1000 := by
        rw [← hus]
        have := List.length_filter_le (isOn "undone" z.2.num) (ens ys)
        rw [List.length_map] at this
        omega
      obtain ⟨xs3, ex3, g3, _⟩ := ((hE z hzm).kp (Same.tup (sm.trans s3))).tup
      refine ⟨_, rfl, z.1, _, _, _, rfl, rfl, SqT.of ex3, g3, ?_⟩
      refine ⟨_, rfl, ul, rfl, ⟨_, SqL.of eul⟩, fun M nM => ?_⟩
      refine lc_gen (walk_list (xs := (us.map (·.num)).map V.int)) us (fun _ => true) (fun H => Same H3 H) Same (fun H y u => ∃ a, u = .ref a ∧ Da H (.ref a) (pap (ens ys) y)) (by rw [List.length_map, List.length_map]) hul (same_new nM _) (fun H s => SqL.of (s _ _ eul)) (fun H H' h1 h2 => ⟨h1.trans h2, fun xs e => h2 _ _ e⟩) (fun H xs l h1 _ => same_put nM h1 _) (fun H H' y u _ h2 e => ?_) (fun H xs l y u h1 h2 e => ?_) ?_ ?_
      · obtain ⟨a, e1, e2⟩ := e
        exact ⟨a, e1, e2.ext (.of h2)⟩
      · obtain ⟨a, e1, e2⟩ := e
        exact ⟨a, e1, e2.putL h2 _⟩
      · rintro j y x H4 H5 hy s4 ⟨rfl, hx⟩ Q1 Q0 q1 q0
        rw [List.getElem?_map, List.getElem?_map, hy] at hx
        injection hx with hx
        subst hx
        obtain ⟨a, hg, hd⟩ := (hP3.ext (.of s4)).get hndi (hin y (List.mem_of_getElem? hy))
        exact ⟨rfl, _, rfl, _, rfl, pd, _, rfl, hg, q1 rfl _ _ (same_refl _) ⟨a, rfl, hd⟩⟩
      intro H4 vs s4 eM evs hvs
      rw [List.filter_eq_self.mpr fun _ _ => rfl] at evs
      -- as addresses
      obtain ⟨as, e1, e2, e3⟩ : ∃ as : List (Addr × Dat), vs.map (·.1) = as.map (fun z => V.ref z.1) ∧ as.map (·.2) = us.map (pap (ens ys)) ∧ DatsAt H4 as := by
        have key : ∀ vs : List (V × En), (∀ z ∈ vs, (∃ a, z.1 = .ref a ∧ Da H4 (.ref a) (pap (ens ys) z.2)) ∧ z.2 ∈ ens ys) → ∃ as : List (Addr × Dat), vs.map (·.1) = as.map (fun z => V.ref z.1) ∧ as.map (·.2) = (vs.map (·.2)).map (pap (ens ys)) ∧ DatsAt H4 as := by
          intro vs
          induction vs with
          | nil => exact fun _ => ⟨[], rfl, rfl, fun _ h => nomatch h⟩
          | cons v r ih =>
            intro h
            obtain ⟨as, a1, a2, a3⟩ := ih fun x hx => h x (List.mem_cons_of_mem _ hx)
            obtain ⟨⟨a, b1, b2⟩, b3⟩ := h v List.mem_cons_self
            refine ⟨(a, pap (ens ys) v.2) :: as, ?_, ?_, fun x hx => ?_⟩
            · rw [List.map_cons, List.map_cons, a1, b1]
            · rw [List.map_cons, List.map_cons, List.map_cons, a2]
            · rcases List.mem_cons.mp hx with h | h
              · rw [h]
                exact ⟨b2, pap_head hO b3⟩
              · exact a3 x h
        obtain ⟨as, a1, a2, a3⟩ := key vs fun z hz => ⟨hvs z hz, by
          have : z.2 ∈ us := by rw [← evs]; exact List.mem_map.mpr ⟨z, hz, rfl⟩
          rw [← hus] at this
          exact (List.mem_filter.mp this).1⟩
        exact ⟨as, a1, by rw [a2, evs], a3⟩
      rw [e1] at eM
      have hal : as.length ≤ 1000 := by
        have := congrArg List.length e2
        rw [List.length_map, List.length_map] at this
        omega
      refine ⟨z.2.num, M, as, rfl, eM, e3, hal, fun t H5 s5 nt hDt => ?_⟩
      rw [e2, ← hus, ← pap_eq hO hze] at hDt
      have hP5 := hP3.ext (.of (s4.trans s5))
      obtain ⟨xs5, ex5, g5, _⟩ := ((hE z hzm).kp (Same.tup (sm.trans (s3.trans (s4.trans s5))))).tup
      obtain ⟨ps, f1, f2, f3⟩ := hP5
      have hpl : ps.length ≤ 1000 := by
        have := congrArg List.length f1
        rw [List.length_map, List.length_take, List.length_reverse, List.length_map] at this
        omega
      refine ⟨_, rfl, _, rfl, z.1, _, _, _, rfl, rfl, SqT.of ex5, g5, pd, _, rfl, DPut.k (k := Sum.inl z.2.num) f2 (small1000 (by rw [List.length_map]; exact hpl)), ?_⟩
      have hnew : valV (ps.map fun z => ((Sum.inl z.1.num : Key), V.ref z.2)) (Sum.inl z.2.num) = none := by
        refine valV_none fun q hq => ?_
        obtain ⟨y, hy, rfl⟩ := List.mem_map.mp hq
        intro e
        injection e with e
        have hm : y.1 ∈ (ens ys).reverse.take i := by rw [← f1]; exact List.mem_map.mpr ⟨y, hy, rfl⟩
        obtain ⟨j, hj⟩ := List.getElem?_of_mem hm
        obtain ⟨hj1, hj2⟩ := List.getElem?_eq_some_iff.mp hj
        rw [List.length_take] at hj1
        rw [List.getElem?_take, if_pos (by omega)] at hj
        have h1 : ((ens ys).reverse.map (·.num))[j]? = some y.1.num := by rw [List.getElem?_map, hj]; rfl
        have h2 : ((ens ys).reverse.map (·.num))[i]? = some z.2.num := by rw [List.getElem?_map, hzi]; rfl
        rw [e] at h1
        obtain ⟨k1, l1⟩ := List.getElem?_eq_some_iff.mp h1
        obtain ⟨k2, l2⟩ := List.getElem?_eq_some_iff.mp h2
        exact List.pairwise_iff_getElem.mp (List.nodup_iff_pairwise_ne.mp hnd) j i k1 k2 (by omega) (l1.trans l2.symm)
      rw [L2.putK_new _ hnew]
      have s05 := sm.trans (s3.trans (s4.trans s5))
      have nputd : Same H (upd H5 pd (.dK ((ps.map fun z => ((Sum.inl z.1.num : Key), V.ref z.2)) ++ [(Sum.inl z.2.num, V.ref t)]))) := same_put npd s05 _
      refine ⟨_, _, _, rfl, nputd, ?_, ps ++ [(z.2, t)], ?_, ?_, fun y hy => ?_⟩
      · rw [upd_ne nrp]
        exact s5 _ _ (s4 _ _ (s3 _ _ ev))
      · rw [List.map_append, f1, take_more hzi]
        rfl
      · rw [upd_same, List.map_append]
        rfl
      · rcases List.mem_append.mp hy with hy | hy
        · exact (f3 y hy).putD f2 _
        · rw [List.mem_singleton.mp hy]
          exact hDt.putD f2 _
    · rintro σ H2 ⟨y2, y3, y4, rfl, sm, ev, hP⟩
      rw [show (refs ys.reverse).length = (ens ys).reverse.length by rw [List.length_map, List.length_reverse, List.length_reverse, List.length_map], List.take_length] at hP
      exact ⟨_, rfl, q pd H2 sm npd hP⟩
end
end Deed

namespace Deed
open PySem PySem.Spec PyProof.Rows L2 LamX
section
variable {J : It} {n : Nat} {G : Hp → Prop} {Y : Nat → Hp → V → Hp → Prop} {g : TG} {tt : TT} {te : TE} {vs : List Nat} {σ : L2.St} {H1 : Hp} {D : Addr} {Qd : Hp → Prop} {α : Type}
/-- things that are told, by what they are -/
theorem lc_da (w : Walk J n G Y) (ys : List α) (p : α → Bool) (gd : α → Dat) (hn : ys.length = n) (hlen : ys.length ≤ 1000) (nD : H1 D = none) (hG : ∀ H, Same H1 H → G H)
    (hs : ∀ i y x H H', ys[i]? = some y → Same H1 H → Y i H x H' → ∀ (Q1 : V → Hp → Prop) (Q0 : Hp → Prop), (p y = true → ∀ a H4, Same H H4 → Da H4 (.ref a) (gd y) → Q1 (.ref a) H4) → (p y = false → ∀ H3, Same H H3 → Q0 H3) →
      g x (wipe σ vs) H' fun σ2 H2 => wipe σ2 vs = wipe σ vs ∧ tt σ2 H2 fun b H3 => if b = true then te σ2 H3 Q1 else Q0 H3)
    (hd : ∀ H (as : List (Addr × Dat)), Same H1 H → H D = some (.lst (as.map fun z => V.ref z.1)) → as.map (·.2) = (ys.filter p).map gd → (∀ z ∈ as, Da H (.ref z.1) z.2) → Qd H) : LcGoal J g tt te vs σ H1 D Qd := by
  refine lc_gen w ys p (fun H => Same H1 H) Same (fun H y u => ∃ a, u = .ref a ∧ Da H (.ref a) (gd y)) hn hlen (same_new nD _) hG (fun H H' h1 h2 => ⟨h1.trans h2, fun xs e => h2 _ _ e⟩) (fun H xs l h1 _ => same_put nD h1 _) (fun H H' y u _ h2 e => ?_) (fun H xs l y u h1 h2 e => ?_) (fun i y x H H' hy h1 hY Q1 Q0 q1 q0 => ?_) (fun H zs h1 e ez hz => ?_)
  · obtain ⟨a, e1, e2⟩ := e
    exact ⟨a, e1, e2.ext (.of h2)⟩
  · obtain ⟨a, e1, e2⟩ := e
    exact ⟨a, e1, e2.putL h2 _⟩
  · exact hs i y x H H' hy h1 hY Q1 Q0 (fun hp a H4 s4 e4 => q1 hp _ H4 s4 ⟨a, rfl, e4⟩) q0
  · have key : ∀ zs : List (V × α), (∀ z ∈ zs, ∃ a, z.1 = .ref a ∧ Da H (.ref a) (gd z.2)) → ∃ as : List (Addr × Dat), zs.map (·.1) = as.map (fun z => V.ref z.1) ∧ as.map (·.2) = (zs.map (·.2)).map gd ∧ ∀ z ∈ as, Da H (.ref z.1) z.2 := by
      intro zs
      induction zs with
      | nil => exact fun _ => ⟨[], rfl, rfl, fun _ h => nomatch h⟩
      | cons z r ih =>
        intro h
        obtain ⟨as, a1, a2, a3⟩ := ih fun x hx => h x (List.mem_cons_of_mem _ hx)
        obtain ⟨a, e1, e2⟩ := h z List.mem_cons_self
        refine ⟨(a, gd z.2) :: as, ?_, ?_, fun x hx => ?_⟩
        · rw [List.map_cons, List.map_cons, a1, e1]
        · rw [List.map_cons, List.map_cons, List.map_cons, a2]
        · rcases List.mem_cons.mp hx with h | h
          · rw [h]
            exact e2
          · exact a3 x h
    obtain ⟨as, a1, a2, a3⟩ := key zs hz
    exact hd H as h1 (by rw [e, a1]) (by rw [a2, ez]) a3
theorem lc_daM (w : Walk J n G Y) (ys : List α) (gd : α → Dat) (hn : ys.length = n) (hlen : ys.length ≤ 1000) (nD : H1 D = none) (hG : ∀ H, Same H1 H → G H)
    (hs : ∀ i y x H H', ys[i]? = some y → Same H1 H → Y i H x H' → ∀ (Q1 : V → Hp → Prop), (∀ a H4, Same H H4 → Da H4 (.ref a) (gd y) → Q1 (.ref a) H4) → g x (wipe σ vs) H' fun σ2 H2 => wipe σ2 vs = wipe σ vs ∧ te σ2 H2 Q1)
    (hd : ∀ H (as : List (Addr × Dat)), Same H1 H → H D = some (.lst (as.map fun z => V.ref z.1)) → as.map (·.2) = ys.map gd → (∀ z ∈ as, Da H (.ref z.1) z.2) → Qd H) : LcGoal J g tYes te vs σ H1 D Qd := by
  refine lc_da w ys (fun _ => true) gd hn hlen nD hG (fun i y x H H' hy h1 hY Q1 Q0 q1 q0 => ?_) (fun H as h1 e ez hz => hd H as h1 e (by rw [ez, List.filter_eq_self.mpr fun _ _ => rfl]) hz)
  exact hs i y x H H' hy h1 hY Q1 (fun a H4 s4 e4 => q1 rfl a H4 s4 e4)
end
theorem as_all {H : Hp} {as : List (Addr × Dat)} {ds : List Dat} (h : ∀ z ∈ as, Da H (.ref z.1) z.2) (e : as.map (·.2) = ds) : DaAll H (as.map fun z => V.ref z.1) ds := by
  rw [← e]
  exact DaAll.map h
theorem as_len {as : List (Addr × Dat)} {ds : List Dat} (e : as.map (·.2) = ds) : as.length = ds.length := by
  rw [← e, List.length_map]
/-- the whys of the deeds numbered rs, as a dict -/
def WhyD (H : Hp) (wd : Addr) (es ys : List En) (d k : Int) (rs : List Int) : Prop := ∃ ps : List (Int × Addr), ps.map (·.1) = rs ∧ H wd = some (.dK (ps.map fun z => (Sum.inl z.1, V.ref z.2))) ∧ ∀ z ∈ ps, Da H (.ref z.2) (why es ys d k z.1)
theorem WhyD.ext {H H' : Hp} {wd : Addr} {es ys : List En} {d k : Int} {rs : List Int} (h : WhyD H wd es ys d k rs) (e : ExtN H H') : WhyD H' wd es ys d k rs := by
  obtain ⟨ps, h1, h2, h3⟩ := h
  exact ⟨ps, h1, e _ _ h2 (fun ps z => by cases z), fun z hz => (h3 z hz).ext e⟩
theorem WhyD.get {H : Hp} {wd : Addr} {es ys : List En} {d k : Int} {rs : List Int} (h : WhyD H wd es ys d k rs) (nd : rs.Nodup) {r : Int} (hr : r ∈ rs) : ∃ a, DGet H wd (.int r) (some (.ref a)) ∧ Da H (.ref a) (why es ys d k r) := by
  obtain ⟨ps, rfl, h2, h3⟩ := h
  obtain ⟨z, hz, rfl⟩ := List.mem_map.mp hr
  refine ⟨z.2, ?_, h3 z hz⟩
  have h4 := DGet.k (k := Sum.inl z.1) h2
  rw [valV_map (f := fun z : Int × Addr => z.1) (g := fun z : Int × Addr => V.ref z.2) nd hz] at h4
  exact h4
theorem why_head {n : Nat} {es : List En} (hB : BkOk n es) (ys : List En) (d k : Int) {e : En} (he : e ∈ es) (hd : e.isDeed = true) : ∃ r, why es ys d k e.num = .tup (.str (st es d k e) :: .int e.num :: r) := by
  rw [why_eq hB ys d k he hd]
  exact whyO_head _ _ _ _
section
variable {P : Program} {w : World} {K : PySem.W.Frag} {mg : Str → Option Value} {base : Heap} {T : List (Addr × Str)}
abbrev sFirstYes : Stmt := topS 36
abbrev nFirstYes : List Str := ["papers", "numbers", "number"]
abbrev pFirstYes : List Str := ["papers", "numbers"]
theorem scFirstYes : FnScope nFirstYes pFirstYes (defScope sFirstYes) := ⟨rfl, rfl, rfl, by decide +kernel, rfl, by decide +kernel, by decide +kernel⟩
def spFirstYes : Sp := fun vs H Q _ => ∃ (pd l : Addr) (n : Nat) (es ys us : List En) (d k : Int), vs = [.ref pd, .ref l] ∧ Oa n es d k ys ∧ PapD H pd ys ys.reverse ∧ H l = some (.lst ((us.map (·.num)).map V.int)) ∧ (∀ u ∈ us, u ∈ ys) ∧ us.length ≤ 1000 ∧ us.any (frc es d k) = true ∧
  ∀ a H', Same H H' → Da H' (.ref a) (fy ys us) → Q (.ref a) H'
theorem Oa.nodup {n : Nat} {es : List En} {d k : Int} {ys : List En} (h : Oa n es d k ys) : (ys.reverse.map (·.num)).Nodup := by
  rw [List.nodup_iff_pairwise_ne, List.pairwise_map, List.pairwise_reverse]
  exact h.up.imp fun h => by omega
theorem ok_firstYes {f : Addr} {fd : FuncData} {k : Nat} (F : Fun K "first_yes" "first_yes" sFirstYes f fd) : FnOk P w K mg base CX0 (k + 1) f fd pFirstYes spFirstYes := by
  refine F.ok scFirstYes (fun vs H Q E h => ?_) (fun cdv A outer s H vs Q E hr h => ?_)
  · obtain ⟨pd, l, n, es, ys, us, d, k, rfl, _⟩ := h
    rfl
  · obtain ⟨pd, l, n, es, ys, us, d, kk, rfl, hO, hP, el, hus, hln, ha, q⟩ := h
    have nd := scFirstYes.nd
    have hu := hu_of hr
    refine ⟨_, pss_one (ps_ret (pe_ix ix_list (pe_lc (own := [("number", 2)]) (g := gName 2) (by rfl) nd (pi_list (pv 1)) (blkOk_by (own := [("number", 2)]) (N := nFirstYes) (sc := defScope sFirstYes) (by decide +kernel)) (fun _ _ _ _ _ => (pg_name (i := 2) nd rfl (.inl rfl))) (fun _ _ _ _ _ => (pts_one (pt_cmpR op_eq (pe_ix (ix_tupK (K := K) (by rfl)) (pe_dget hu (pv 0) (pv 2) (fun _ _ => rfl)) pe_int (fun _ _ => rfl)) pe_str (nomark _))))
          (fun _ _ _ _ _ => (pe_dget hu (pv 0) (pv 2) (fun _ _ => rfl)))) pe_int (fun _ _ => rfl))), ?_⟩
    refine ⟨_, rfl, l, rfl, ⟨_, SqL.of el⟩, fun M1 nM1 => ?_⟩
    refine lc_da (walk_list (xs := (us.map (·.num)).map V.int)) us (fun u => isYesD (pap ys u)) (pap ys) (by rw [List.length_map, List.length_map]) hln nM1 (fun H s => SqL.of (s _ _ el)) ?_ ?_
    · rintro i y x H3 H4 hy s3 ⟨rfl, hx⟩ Q1 Q0 q1 q0
      rw [List.getElem?_map, List.getElem?_map, hy] at hx
      injection hx with hx
      subst hx
      have hyy := hus y (List.mem_of_getElem? hy)
      obtain ⟨a, hg, hd⟩ := (hP.ext (.of s3)).get hO.nodup (List.mem_reverse.mpr hyy)
      obtain ⟨w, r, e⟩ := pap_head hO hyy
      have hd' := hd
      rw [e] at hd'
      obtain ⟨xs, ex, _⟩ := hd'.head
      refine ⟨rfl, _, rfl, _, rfl, pd, _, rfl, hg, a, _, _, _, rfl, rfl, SqT.of ex, (atI_nat (j := 0) rfl), rfl, _, rfl, ?_⟩
      refine ite2 (fun c => ?_) (fun c => ?_)
      · refine ⟨_, rfl, _, rfl, pd, _, rfl, hg, q1 ?_ _ _ (same_refl _) hd⟩
        show isYesD (pap ys y) = true
        rw [e]
        exact decide_eq_true (by have := of_decide_eq_true c; injection this)
      · refine q0 ?_ _ (same_refl _)
        show isYesD (pap ys y) = false
        rw [e]
        exact decide_eq_false fun z => c (decide_eq_true (by rw [z]))
    intro H2 as s2 eM eas hz
    obtain ⟨u, r, e1, _, _, _, e2⟩ := fy_is hO hus ha
    have e3 : us.filter (fun u => isYesD (pap ys u)) = u :: r := by
      rw [← e1]
      exact List.filter_congr fun x hx => pap_yes hO (hus x hx)
    rw [e3] at eas
    cases as with
    | nil => cases eas
    | cons a0 ar =>
      rw [List.map_cons, List.map_cons] at eas
      injection eas with ea0 ear
      refine ⟨M1, _, _, _, rfl, rfl, SqL.of eM, (atI_nat (j := 0) rfl), ?_⟩
      refine q a0.1 H2 s2 ?_
      rw [e2, ← ea0]
      exact hz a0 List.mem_cons_self
abbrev sWhyOver : Stmt := topS 37
abbrev nWhyOver : List Str := ["deed", "word", "acts", "papers", "whys", "number", "voids", "paids", "below", "nos", "rest", "why", "act"]
abbrev pWhyOver : List Str := ["deed", "word", "acts", "papers", "whys"]
theorem scWhyOver : FnScope nWhyOver pWhyOver (defScope sWhyOver) := ⟨rfl, rfl, rfl, by decide +kernel, rfl, by decide +kernel, by decide +kernel⟩
def spWhyOver : Sp := fun vs H Q _ => ∃ (ea la pd wd : Addr) (n : Nat) (es : List En) (e : En) (d k : Int) (ys : List (Addr × En)) (rs : List Int), vs = [.ref ea, .str (st es d k e), .ref la, .ref pd, .ref wd] ∧ EntAt H ea e ∧ e ∈ es ∧ e.isDeed = true ∧ H la = some (.lst (refs ys)) ∧ (∀ z ∈ ys, EntAt H z.1 z.2) ∧ Oa n es d k (ens ys) ∧ ys.length ≤ 16 ∧
  PapD H pd (ens ys) (ens ys).reverse ∧ WhyD H wd es (ens ys) d k rs ∧ rs.Nodup ∧ (∀ r ∈ e.rests, r ∈ rs) ∧ ∀ t H', Same H H' → H t = none → Da H' (.ref t) (why es (ens ys) d k e.num) → Q (.ref t) H'
theorem filter_refs (φ : En → Bool) (ys : List (Addr × En)) : (ys.filter fun z => φ z.2).map (fun z => z.2.num) = ((ens ys).filter φ).map (·.num) := by
  unfold ens
  rw [List.filter_map, List.map_map]
  rfl
theorem both_sorted {n : Nat} {es : List En} {d k : Int} {ys : List En} (h : Oa n es d k ys) (e : En) {ns : List Int} (pm : ns.Perm ((voids ys e).map (·.num) ++ (paids ys e).map (·.num))) (up : ns.Pairwise (· ≤ ·)) : ns = (both ys e).map (·.num) := by
  have hn : (ys.map (·.num)).Nodup := by
    rw [List.nodup_iff_pairwise_ne, List.pairwise_map]
    exact h.up.imp fun h => by omega
  have hnn : ns.Nodup := by
    rw [pm.nodup_iff, List.nodup_append]
    refine ⟨hn.sublist (List.filter_sublist.map _), hn.sublist (List.filter_sublist.map _), fun a ha b hb z => ?_⟩
    obtain ⟨u, hu, rfl⟩ := List.mem_map.mp ha
    obtain ⟨v, hv, rfl⟩ := List.mem_map.mp hb
    obtain ⟨u1, u2⟩ := List.mem_filter.mp hu
    obtain ⟨v1, v2⟩ := List.mem_filter.mp hv
    have e1 : u = v := num_inj h.bk (h.mem u u1).1 (h.mem v v1).1 z
    subst e1
    unfold isOn at u2 v2
    rw [Bool.and_eq_true] at u2 v2
    have a1 := of_decide_eq_true u2.1
    have a2 := of_decide_eq_true v2.1
    rw [a1] at a2
    exact absurd a2 (by decide)
  refine rising_one (rising_of hnn up) ?_ fun x => ?_
  · rw [List.pairwise_map]
    exact h.up.sublist List.filter_sublist
  · rw [pm.mem_iff, List.mem_append, List.mem_map, List.mem_map, List.mem_map]
    constructor
    · rintro (⟨u, hu, rfl⟩ | ⟨u, hu, rfl⟩)
      · obtain ⟨u1, u2⟩ := List.mem_filter.mp hu
        exact ⟨u, List.mem_filter.mpr ⟨u1, by rw [u2]; rfl⟩, rfl⟩
      · obtain ⟨u1, u2⟩ := List.mem_filter.mp hu
        exact ⟨u, List.mem_filter.mpr ⟨u1, by rw [u2, Bool.or_true]⟩, rfl⟩
    · rintro ⟨u, hu, rfl⟩
      obtain ⟨u1, u2⟩ := List.mem_filter.mp hu
      rw [Bool.or_eq_true] at u2
      rcases u2 with u2 | u2
      · exact .inl ⟨u, List.mem_filter.mpr ⟨u1, u2⟩, rfl⟩
      · exact .inr ⟨u, List.mem_filter.mpr ⟨u1, u2⟩, rfl⟩
theorem ok_whyOver {f : Addr} {fd : FuncData} {k : Nat} (F : Fun K "why_over" "why_over" sWhyOver f fd) (C_acts_on : CallOk P w K mg base k "acts_on" pActsOn spActsOn) (C_first_yes : CallOk P w K mg base k "first_yes" pFirstYes spFirstYes) (m_tuple : mg "tuple" = none) (m_sorted : mg "sorted" = none) (iNUMBER : MgInt mg "NUMBER" 0) (iRESTS : MgInt mg "RESTS" 7) (mC : CarryAt K mg) : FnOk P w K mg base CX0 (k + 1) f fd pWhyOver spWhyOver := by
  obtain ⟨a_CARRYING, g_CARRYING, sC⟩ := mC
  refine F.ok scWhyOver (fun vs H Q E h => ?_) (fun cdv A outer s H vs Q E hr h => ?_)
  · obtain ⟨ea, la, pd, wd, n, es, e, d, k, ys, rs, rfl, _⟩ := h
    rfl
  · obtain ⟨ea, la, pd, wd, n, es, e, d, kk, ys, rs, rfl, hEa, hee, hed, el, hE, hO, hln, hP, hW, hrn, hrr, q⟩ := h
    have nd := scWhyOver.nd
    have hu := hu_of hr
    have hB := hO.bk
    refine ⟨_, pss_cons (ps_set (i := 5) nd rfl (.inl rfl) (pe_ix ix_tup (pv 0) (pe_num (by rfl) iNUMBER) (fun _ _ => rfl)))
      (pss_cons (ps_set (i := 6) nd rfl (.inl rfl) (pe_call C_acts_on.ok hr (by rfl) C_acts_on.g C_acts_on.kp C_acts_on.b .nil pass0 (pa_cons (pv 2) (pa_cons pe_str (pa_cons (pv 5) pa_nil)))))
      (pss_cons (ps_set (i := 7) nd rfl (.inl rfl) (pe_call C_acts_on.ok hr (by rfl) C_acts_on.g C_acts_on.kp C_acts_on.b .nil pass0 (pa_cons (pv 2) (pa_cons pe_str (pa_cons (pv 5) pa_nil)))))
      (pss_cons (ps_set (i := 8) nd rfl (.inl rfl) (pe_callTy call_tuple_of (by rfl) m_tuple (by decide +kernel) (pa_cons (pe_lc (own := [("rest", 10)]) (g := gName 10) (by rfl) nd (pi_tup (pe_ix ix_tup (pv 0) (pe_num (by rfl) iRESTS) (fun _ _ => rfl))) (blkOk_by (own := [("rest", 10)]) (N := nWhyOver) (sc := defScope sWhyOver) (by decide +kernel)) (fun _ _ _ _ _ => (pg_name (i := 10) nd rfl (.inl rfl))) (fun _ _ _ _ _ => pts_nil)
          (fun _ _ _ _ _ => (pe_dget hu (pv 4) (pv 10) (fun _ _ => rfl)))) pa_nil)))
      (pss_cons (ps_if (pt_cmpR op_eq (pv 1) pe_str (nomark _)) (pss_one (ps_ret (pe_tup (pa_cons pe_str (pa_cons (pv 5) (pa_cons (pe_call C_first_yes.ok hr (by rfl) C_first_yes.g C_first_yes.kp C_first_yes.b .nil pass0 (pa_cons (pv 3) (pa_cons (pv 6) pa_nil))) pa_nil)))))) pss_nil)
      (pss_cons (ps_if (pt_cmpR op_eq (pv 1) pe_str (nomark _)) (pss_one (ps_ret (pe_tup (pa_cons pe_str (pa_cons (pv 5) (pa_cons (pe_ix ix_list (pe_lc (own := [("why", 11)]) (g := gName 11) (by rfl) nd (pi_tup (pv 8)) (blkOk_by (own := [("why", 11)]) (N := nWhyOver) (sc := defScope sWhyOver) (by decide +kernel)) (fun _ _ _ _ _ => (pg_name (i := 11) nd rfl (.inl rfl))) (fun _ _ _ _ _ => (pts_one (pt_cmpR (notIn_seqK (K := K) (by rfl)) (pe_ix (ix_tupK (K := K) (by rfl)) (pv 11) pe_int (fun _ _ => rfl)) (pe_glob (v := .ref a_CARRYING) (by rfl) g_CARRYING rfl) (by rfl))))
          (fun _ _ _ _ _ => (pv 11))) pe_int (fun _ _ => rfl)) pa_nil)))))) pss_nil)
      (pss_cons (ps_if (pt_cmpR op_eq (pv 1) pe_str (nomark _)) (pss_cons (ps_set (i := 9) nd rfl (.inl rfl) (pe_callTy call_tuple_of (by rfl) m_tuple (by decide +kernel) (pa_cons (pe_lc (own := [("act", 12)]) (g := gName 12) (by rfl) nd (pi_list (pv 6)) (blkOk_by (own := [("act", 12)]) (N := nWhyOver) (sc := defScope sWhyOver) (by decide +kernel)) (fun _ _ _ _ _ => (pg_name (i := 12) nd rfl (.inl rfl))) (fun _ _ _ _ _ => pts_nil)
          (fun _ _ _ _ _ => (pe_dget hu (pv 3) (pv 12) (fun _ _ => rfl)))) pa_nil)))
      (pss_one (ps_ret (pe_tup (pa_cons pe_str (pa_cons (pv 5) (pa_cons (pv 9) (pa_cons (pv 8) (pa_cons (pe_call C_first_yes.ok hr (by rfl) C_first_yes.g C_first_yes.kp C_first_yes.b .nil pass0 (pa_cons (pv 3) (pa_cons (pv 7) pa_nil))) pa_nil))))))))) pss_nil)
      (pss_cons (ps_if (pt_cmpR op_eq (pv 1) pe_str (nomark _)) (pss_cons (ps_set (i := 9) nd rfl (.inl rfl) (pe_callTy call_tuple_of (by rfl) m_tuple (by decide +kernel) (pa_cons (pe_lc (own := [("act", 12)]) (g := gName 12) (by rfl) nd (pi_list (pe_callB cr_sortedI (by rfl) m_sorted (by decide +kernel) (pa_cons (pe_op op_cat (pv 6) (pv 7)) pa_nil))) (blkOk_by (own := [("act", 12)]) (N := nWhyOver) (sc := defScope sWhyOver) (by decide +kernel)) (fun _ _ _ _ _ => (pg_name (i := 12) nd rfl (.inl rfl))) (fun _ _ _ _ _ => pts_nil)
          (fun _ _ _ _ _ => (pe_dget hu (pv 3) (pv 12) (fun _ _ => rfl)))) pa_nil)))
      (pss_one (ps_ret (pe_tup (pa_cons pe_str (pa_cons (pv 5) (pa_cons (pv 9) (pa_cons (pv 8) pa_nil)))))))) pss_nil)
      (pss_one (ps_ret (pe_tup (pa_cons (pv 1) (pa_cons (pv 5) pa_nil)))))))))))), ?_⟩
    obtain ⟨xs0, ex0, g0, _⟩ := hEa.tup
    refine ⟨_, rfl, ea, _, _, _, rfl, rfl, SqT.of ex0, g0, ?_⟩
    have hE0 : ∀ z ∈ ys, EntAt H z.1 z.2 ∧ z.2.isDeed = false := fun z hz => ⟨hE z hz, (hO.mem z.2 (List.mem_map.mpr ⟨z, hz, rfl⟩)).2.1⟩
    refine ⟨_, rfl, _, rfl, la, "void", e.num, ys, rfl, el, hE0, by omega, fun lv H1 s1 nlv elv => ?_⟩
    have hE1 : ∀ z ∈ ys, EntAt H1 z.1 z.2 ∧ z.2.isDeed = false := fun z hz => ⟨(hE0 z hz).1.kp (Same.tup s1), (hE0 z hz).2⟩
    refine ⟨_, rfl, _, rfl, la, "paid", e.num, ys, rfl, s1 _ _ el, hE1, by omega, fun lp H2 s2 nlp elp => ?_⟩
    rw [filter_refs] at elv elp
    have elv2 := s2 _ _ elv
    have s12 := s1.trans s2
    have hvl : (voids (ens ys) e).length ≤ 1000 := by
      have := List.length_filter_le (isOn "void" e.num) (ens ys)
      rw [List.length_map] at this
      exact Nat.le_trans this (by omega)
    have hpl : (paids (ens ys) e).length ≤ 1000 := by
      have := List.length_filter_le (isOn "paid" e.num) (ens ys)
      rw [List.length_map] at this
      exact Nat.le_trans this (by omega)
    have hsv : ∀ u ∈ voids (ens ys) e, u ∈ ens ys := fun u hu => (List.mem_filter.mp hu).1
    have hsp : ∀ u ∈ paids (ens ys) e, u ∈ ens ys := fun u hu => (List.mem_filter.mp hu).1
    have hrl : e.rests.length ≤ 1000 := by
      have h := hB.ok e hee
      unfold En.rests
      cases hk : e.kd with
      | deed g t r ws =>
        have := h.2.2.2
        rw [hk] at this
        have := this.2.2.2.1
        show r.length ≤ 1000
        omega
      | act x o => exact Nat.zero_le _
    -- below
    obtain ⟨xs2, ar, ex2, g7, er⟩ := (hEa.kp (Same.tup s12)).seven hed
    refine ⟨_, rfl, ea, _, _, _, rfl, rfl, SqT.of ex2, g7, ar, rfl, ⟨_, SqT.of er⟩, fun M1 nM1 => ?_⟩
    refine lc_daM (walk_tup (xs := e.rests.map V.int)) e.rests (why es (ens ys) d kk) (by rw [List.length_map]) hrl nM1 (fun H s => SqT.of (s _ _ er)) ?_ ?_
    · rintro i y x H3 H4 hy s3 ⟨rfl, hx⟩ Q1 q1
      rw [List.getElem?_map, hy] at hx
      injection hx with hx
      subst hx
      obtain ⟨a, hg, hd⟩ := (hW.ext (.of (s12.trans s3))).get hrn (hrr y (List.mem_of_getElem? hy))
      exact ⟨rfl, _, rfl, _, rfl, wd, _, rfl, hg, q1 _ _ (same_refl _) hd⟩
    intro H3 as s3 eM eas hz
    refine ⟨M1, _, rfl, .inl ⟨SqL.of eM, fun t2 nt2 => ?_⟩⟩
    have s4 := same_new nt2 (.tup (as.map fun z => V.ref z.1))
    have e4 : (upd H3 t2 (.tup (as.map fun z => V.ref z.1))) t2 = some (.tup (as.map fun z => V.ref z.1)) := upd_same
    generalize upd H3 t2 (.tup (as.map fun z => V.ref z.1)) = H4 at s4 e4
    have s04 := s12.trans (s3.trans s4)
    have hz4 : ∀ z ∈ as, Da H4 (.ref z.1) z.2 := fun z hzz => (hz z hzz).ext (.of s4)
    have hbel : Da H4 (.ref t2) (.tup (e.rests.map (why es (ens ys) d kk))) := .tup e4 (as_all hz4 eas)
    have elv4 := s4 _ _ (s3 _ _ elv2)
    have elp4 := s4 _ _ (s3 _ _ elp)
    have hP4 := hP.ext (.of s04)
    have hal : as.length ≤ 1000 := by rw [as_len eas, List.length_map]; exact hrl
    rw [why_eq hB (ens ys) d kk hee hed] at q
    have fin : ∀ (H5 : Hp) (t : Addr) (xs : List V) (ds : List Dat), Same H4 H5 → H5 t = none → DaAll (upd H5 t (.tup xs)) xs ds → whyO (ens ys) (st es d kk e) e (e.rests.map (why es (ens ys) d kk)) = .tup ds → Q (.ref t) (upd H5 t (.tup xs)) := fun H5 t xs ds s5 nt hd hw =>
      q t _ ((s04.trans s5).trans (same_new nt _)) (none_back (s04.trans s5) nt) (by rw [hw]; exact .tup upd_same hd)
    rcases st_cases hB d kk hee with ⟨h1, h2⟩ | ⟨h1, h2⟩ | ⟨h1, h2⟩ | ⟨h1, h2, h3⟩ | ⟨h1, h2, h3, h4⟩ | ⟨h1, h2, h3, h4⟩
    case' inl => skip
    case' inr.inl => skip
    case inr.inr.inl =>
      rw [h1] at fin ⊢
      refine ⟨_, rfl, rfl, _, rfl, ?_⟩
      refine iteT ?_
      rw [hO.any (by decide)] at h2
      refine ⟨_, rfl, _, rfl, _, rfl, pd, lv, n, es, ens ys, voids (ens ys) e, d, kk, rfl, hO, hP4, elv4, hsv, hvl, h2, fun a H5 s5 hd5 => ?_⟩
      refine ⟨(by show 3 ≤ sizeLine; decide), fun t3 nt3 => ?_⟩
      exact fin H5 t3 _ _ s5 nt3 (.cons (.str _) (.cons (.int _) (.cons (hd5.ext (.of (same_new nt3 _))) .nil))) rfl
    case inr.inr.inr.inl =>
      rw [h1] at fin ⊢
      refine ⟨_, rfl, rfl, _, rfl, ?_⟩
      refine iteF ?_
      refine ⟨_, rfl, rfl, _, rfl, ?_⟩
      refine iteT ?_
      refine ⟨_, rfl, _, rfl, t2, rfl, ⟨_, SqT.of e4⟩, fun M4 nM4 => ?_⟩
      refine lc_sameV (walk_tup (xs := as.map fun z => V.ref z.1)) as (fun z => lostD z.2) (fun z => .ref z.1) (by rw [List.length_map]) hal nM4 (fun H s => SqT.of (s _ _ e4)) ?_ ?_
      · rintro i y x H5 H6 hy s5 ⟨rfl, hx⟩ Q1 Q0 q1 q0
        rw [List.getElem?_map, hy] at hx
        injection hx with hx
        subst hx
        have hyr : y.2 ∈ e.rests.map (why es (ens ys) d kk) := by rw [← eas]; exact List.mem_map.mpr ⟨y, List.mem_of_getElem? hy, rfl⟩
        obtain ⟨r, hr, hyr⟩ := List.mem_map.mp hyr
        obtain ⟨u, hu, hud, hun, _⟩ := rest_deed hB hee hr
        subst hun
        obtain ⟨rr, e5⟩ := why_head hB (ens ys) d kk hu hud
        have hd5 := (hz4 y (List.mem_of_getElem? hy)).ext (.of s5)
        rw [← hyr, e5] at hd5
        obtain ⟨xs5, ex5, _⟩ := hd5.head
        have hl5 : lostD y.2 = !carries (st es d kk u) := by rw [← hyr]; exact why_lost hB (ens ys) d kk hu hud
        refine ⟨rfl, _, rfl, y.1, _, _, _, rfl, rfl, SqT.of ex5, (atI_nat (j := 0) rfl), a_CARRYING, _, rfl, .inr (sC _), rfl, flat_strs ["stands", "paid"], _, rfl, ?_⟩
        have hin : inV (.str (st es d kk u)) [.str "stands", .str "paid"] = carries (st es d kk u) := mem_inS (ws := ["stands", "paid"])
        rw [hin]
        refine ite2 (fun c => ?_) (fun c => ?_)
        · exact ⟨_, rfl, q1 (by rw [hl5]; exact c) _ (same_refl _)⟩
        · exact q0 (by rw [hl5]; simpa using c) _ (same_refl _)
      intro H5 s5 eM5
      have efl : (e.rests.map (why es (ens ys) d kk)).filter lostD = (as.filter fun z => lostD z.2).map (·.2) := by
        rw [← eas, List.filter_map]
        rfl
      cases hc : as.filter fun z => lostD z.2 with
      | nil =>
        exfalso
        rw [hc, lost_filter hB (ens ys) d kk hee] at efl
        obtain ⟨r, hr, hh⟩ := List.any_eq_true.mp h3
        have : r ∈ e.rests.filter (restLost es d kk) := List.mem_filter.mpr ⟨hr, hh⟩
        cases hf : e.rests.filter (restLost es d kk) with
        | nil => rw [hf] at this; cases this
        | cons a b => rw [hf] at efl; cases efl
      | cons y yr =>
        rw [hc] at efl eM5
        have hym : y ∈ as := (List.mem_filter.mp (show y ∈ as.filter fun z => lostD z.2 by rw [hc]; exact List.mem_cons_self)).1
        refine ⟨M4, _, _, _, rfl, rfl, SqL.of eM5, (atI_nat (j := 0) rfl), (by show 3 ≤ sizeLine; decide), fun t5 nt5 => ?_⟩
        refine fin H5 t5 _ _ s5 nt5 (.cons (.str _) (.cons (.int _) (.cons (((hz4 y hym).ext (.of s5)).ext (.of (same_new nt5 _))) .nil))) ?_
        show Dat.tup [.str "fallen", .int e.num, ((e.rests.map (why es (ens ys) d kk)).filter lostD).headD .non] = _
        rw [efl]
        rfl
    case inr.inr.inr.inr.inl =>
      rw [h1] at fin ⊢
      refine ⟨_, rfl, rfl, _, rfl, ?_⟩
      refine iteF ?_
      refine ⟨_, rfl, rfl, _, rfl, ?_⟩
      refine iteF ?_
      refine ⟨_, rfl, rfl, _, rfl, ?_⟩
      refine iteT ?_
      refine ⟨_, rfl, lv, rfl, ⟨_, SqL.of elv4⟩, fun M6 nM6 => ?_⟩
      refine lc_daM (walk_list (xs := ((voids (ens ys) e).map (·.num)).map V.int)) (voids (ens ys) e) (pap (ens ys)) (by rw [List.length_map, List.length_map]) hvl nM6 (fun H s => SqL.of (s _ _ elv4)) ?_ ?_
      · rintro i y x H5 H6 hy s5 ⟨rfl, hx⟩ Q1 q1
        rw [List.getElem?_map, List.getElem?_map, hy] at hx
        injection hx with hx
        subst hx
        obtain ⟨a, hg, hd⟩ := (hP4.ext (.of s5)).get hO.nodup (List.mem_reverse.mpr (hsv y (List.mem_of_getElem? hy)))
        exact ⟨rfl, _, rfl, _, rfl, pd, _, rfl, hg, q1 _ _ (same_refl _) hd⟩
      intro H5 bs s5 eM5 ebs hzb
      refine ⟨M6, _, rfl, .inl ⟨SqL.of eM5, fun t7 nt7 => ?_⟩⟩
      have s6 := same_new nt7 (.tup (bs.map fun z => V.ref z.1))
      have e6 : (upd H5 t7 (.tup (bs.map fun z => V.ref z.1))) t7 = some (.tup (bs.map fun z => V.ref z.1)) := upd_same
      generalize upd H5 t7 (.tup (bs.map fun z => V.ref z.1)) = H6 at s6 e6
      have hnos : Da H6 (.ref t7) (.tup ((voids (ens ys) e).map (pap (ens ys)))) := .tup e6 (as_all (fun z hz => (hzb z hz).ext (.of s6)) ebs)
      rw [hO.any (by decide)] at h4
      have s56 := s5.trans s6
      refine ⟨_, rfl, _, rfl, _, rfl, _, rfl, _, rfl, pd, lp, n, es, ens ys, paids (ens ys) e, d, kk, rfl, hO, hP4.ext (.of s56), s56 _ _ elp4, hsp, hpl, h4, fun a H7 s7 hd7 => ?_⟩
      refine ⟨(by show 5 ≤ sizeLine; decide), fun t8 nt8 => ?_⟩
      have s8 := same_new nt8 (.tup [.str "paid", .int e.num, .ref t7, .ref t2, .ref a])
      exact fin H7 t8 _ _ (s56.trans s7) nt8 (.cons (.str _) (.cons (.int _) (.cons (hnos.ext (.of (s7.trans s8))) (.cons (hbel.ext (.of (s56.trans (s7.trans s8)))) (.cons (hd7.ext (.of s8)) .nil))))) rfl
    case inr.inr.inr.inr.inr =>
      rw [h1] at fin ⊢
      refine ⟨_, rfl, rfl, _, rfl, ?_⟩
      refine iteF ?_
      refine ⟨_, rfl, rfl, _, rfl, ?_⟩
      refine iteF ?_
      refine ⟨_, rfl, rfl, _, rfl, ?_⟩
      refine iteF ?_
      refine ⟨_, rfl, rfl, _, rfl, ?_⟩
      refine iteT ?_
      refine ⟨_, rfl, _, rfl, lv, lp, _, _, rfl, rfl, elv4, elp4, ?_, fun q10 nq10 => ?_⟩
      · rw [List.length_map, List.length_map, List.length_map, List.length_map]
        have a1 := List.length_filter_le (isOn "void" e.num) (ens ys)
        have a2 := List.length_filter_le (isOn "paid" e.num) (ens ys)
        rw [List.length_map] at a1 a2
        exact Nat.le_of_lt (small1000 (by omega))
      rw [← List.map_append]
      have s5 := same_new nq10 (.lst (((voids (ens ys) e).map (·.num) ++ (paids (ens ys) e).map (·.num)).map V.int))
      have e5 : (upd H4 q10 (.lst (((voids (ens ys) e).map (·.num) ++ (paids (ens ys) e).map (·.num)).map V.int))) q10 = some (.lst (((voids (ens ys) e).map (·.num) ++ (paids (ens ys) e).map (·.num)).map V.int)) := upd_same
      generalize upd H4 q10 (.lst (((voids (ens ys) e).map (·.num) ++ (paids (ens ys) e).map (·.num)).map V.int)) = H5 at s5 e5
      refine ⟨q10, _, rfl, SqL.of e5, fun ns q11 pm up nq11 => ?_⟩
      obtain rfl := both_sorted hO e pm up
      have s6 := same_new nq11 (.lst (((both (ens ys) e).map (·.num)).map V.int))
      have e6 : (upd H5 q11 (.lst (((both (ens ys) e).map (·.num)).map V.int))) q11 = some (.lst (((both (ens ys) e).map (·.num)).map V.int)) := upd_same
      generalize upd H5 q11 (.lst (((both (ens ys) e).map (·.num)).map V.int)) = H6 at s6 e6
      have s46 := s5.trans s6
      have hbl : (both (ens ys) e).length ≤ 1000 := by
        have := List.length_filter_le (fun u => isOn "void" e.num u || isOn "paid" e.num u) (ens ys)
        rw [List.length_map] at this
        exact Nat.le_trans this (by omega)
      refine ⟨q11, rfl, ⟨_, SqL.of e6⟩, fun M12 nM12 => ?_⟩
      refine lc_daM (walk_list (xs := ((both (ens ys) e).map (·.num)).map V.int)) (both (ens ys) e) (pap (ens ys)) (by rw [List.length_map, List.length_map]) hbl nM12 (fun H s => SqL.of (s _ _ e6)) ?_ ?_
      · rintro i y x H7 H8 hy s7 ⟨rfl, hx⟩ Q1 q1
        rw [List.getElem?_map, List.getElem?_map, hy] at hx
        injection hx with hx
        subst hx
        obtain ⟨a, hg, hd⟩ := (hP4.ext (.of (s46.trans s7))).get hO.nodup (List.mem_reverse.mpr (List.mem_filter.mp (List.mem_of_getElem? hy)).1)
        exact ⟨rfl, _, rfl, _, rfl, pd, _, rfl, hg, q1 _ _ (same_refl _) hd⟩
      intro H7 bs s7 eM7 ebs hzb
      refine ⟨M12, _, rfl, .inl ⟨SqL.of eM7, fun t13 nt13 => ?_⟩⟩
      have s8 := same_new nt13 (.tup (bs.map fun z => V.ref z.1))
      have e8 : (upd H7 t13 (.tup (bs.map fun z => V.ref z.1))) t13 = some (.tup (bs.map fun z => V.ref z.1)) := upd_same
      generalize upd H7 t13 (.tup (bs.map fun z => V.ref z.1)) = H8 at s8 e8
      have hnos : Da H8 (.ref t13) (.tup ((both (ens ys) e).map (pap (ens ys)))) := .tup e8 (as_all (fun z hz => (hzb z hz).ext (.of s8)) ebs)
      refine ⟨_, rfl, _, rfl, _, rfl, (by show 4 ≤ sizeLine; decide), fun t14 nt14 => ?_⟩
      have s9 := same_new nt14 (.tup [.str "stands", .int e.num, .ref t13, .ref t2])
      exact fin H8 t14 _ _ (s46.trans (s7.trans s8)) nt14 (.cons (.str _) (.cons (.int _) (.cons (hnos.ext (.of s9)) (.cons (hbel.ext (.of (s46.trans (s7.trans (s8.trans s9))))) .nil)))) rfl
    all_goals
      rw [h1] at fin ⊢
      refine ⟨_, rfl, rfl, _, rfl, ?_⟩
      refine iteF ?_
      refine ⟨_, rfl, rfl, _, rfl, ?_⟩
      refine iteF ?_
      refine ⟨_, rfl, rfl, _, rfl, ?_⟩
      refine iteF ?_
      refine ⟨_, rfl, rfl, _, rfl, ?_⟩
      refine iteF ?_
      refine ⟨_, rfl, _, rfl, (by show 2 ≤ sizeLine; decide), fun t15 nt15 => ?_⟩
      exact fin H4 t15 _ _ (same_refl _) nt15 (.cons (.str _) (.cons (.int _) .nil)) rfl
end
end Deed

namespace Deed
open PySem PySem.Spec PyProof.Rows L2 LamX
theorem wdE_get {H : Hp} {wd : Addr} {es : List En} {d k : Int} {zs ys : List (Addr × En)} (hD : DeedsUp zs ys) (e : H wd = some (.dK (wdE es d k (ens ys)))) {u : En} (hu : u ∈ ens zs) (hd : u.isDeed = true) : DGet H wd (.int u.num) (some (.str (st es d k u))) := by
  obtain ⟨v, hv, rfl⟩ := List.mem_map.mp ((hD.2.1 u).mpr ⟨hu, hd⟩)
  have h4 := DGet.k (k := Sum.inl v.2.num) e
  have hnd := hD.nodup
  rw [show (ens ys).map (·.num) = ys.map (fun z => z.2.num) by simp [ens, List.map_map, Function.comp_def]] at hnd
  have hv1 := valV_map (f := fun z : Addr × En => z.2.num) (g := fun z : Addr × En => V.str (st es d k z.2)) hnd hv
  rw [show wdE es d k (ens ys) = ys.map (fun z : Addr × En => ((Sum.inl z.2.num : Key), V.str (st es d k z.2))) by simp [wdE, ens, List.map_map, Function.comp_def], hv1] at h4
  exact h4
theorem deedsUp_of {zs zs' : List (Addr × En)} (hl : zs.length ≤ 16) (pm : zs'.Perm zs) (so : zs'.Pairwise (fun a b => a.2.num < b.2.num)) : DeedsUp zs (zs'.filter fun z => z.2.isDeed) := by
  refine ⟨so.filter _, fun x => ?_, ?_⟩
  · constructor
    · intro hx
      obtain ⟨z, hz, rfl⟩ := List.mem_map.mp hx
      exact ⟨List.mem_map.mpr ⟨z, pm.mem_iff.mp (List.mem_filter.mp hz).1, rfl⟩, (List.mem_filter.mp hz).2⟩
    · rintro ⟨hx, hd⟩
      obtain ⟨z, hz, rfl⟩ := List.mem_map.mp hx
      exact List.mem_map.mpr ⟨z, List.mem_filter.mpr ⟨pm.mem_iff.mpr hz, hd⟩, rfl⟩
  · have h1 := List.length_filter_le (fun z : Addr × En => z.2.isDeed) zs'
    have h2 := pm.length_eq
    omega
theorem WhyD.put {H : Hp} {wd t : Addr} {es ys : List En} {d k m : Int} {rs : List Int} (h : WhyD H wd es ys d k rs) (hm : m ∉ rs) (hl : rs.length ≤ 100) (ht : Da H (.ref t) (why es ys d k m)) : ∃ kv, DPut H wd (.int m) (.ref t) (upd H wd (.dK kv)) ∧ WhyD (upd H wd (.dK kv)) wd es ys d k (rs ++ [m]) ∧ ∃ kv0, H wd = some (.dK kv0) := by
  obtain ⟨ps, rfl, h2, h3⟩ := h
  rw [List.length_map] at hl
  have hnew : valV (ps.map fun z => ((Sum.inl z.1 : Key), V.ref z.2)) (Sum.inl m) = none := by
    refine valV_none fun q hq => ?_
    obtain ⟨y, hy, rfl⟩ := List.mem_map.mp hq
    intro e
    injection e with e
    exact hm (List.mem_map.mpr ⟨y, hy, e⟩)
  have hp := DPut.k (k := Sum.inl m) (v := V.ref t) h2 (small1000 (by rw [List.length_map]; omega))
  rw [L2.putK_new _ hnew] at hp
  refine ⟨_, hp, ⟨ps ++ [(m, t)], ?_, ?_, fun y hy => ?_⟩, _, h2⟩
  · rw [List.map_append]
    rfl
  · rw [upd_same, List.map_append]
    rfl
  · rcases List.mem_append.mp hy with hy | hy
    · exact (h3 y hy).putD h2 _
    · rw [List.mem_singleton.mp hy]
      exact ht.putD h2 _
section
variable {P : Program} {w : World} {K : PySem.W.Frag} {mg : Str → Option Value} {base : Heap} {T : List (Addr × Str)}
abbrev sWhyOf : Stmt := topS 38
abbrev nWhyOf : List Str := ["book", "deed", "d", "k", "words", "acts", "papers", "whys", "entry"]
abbrev pWhyOf : List Str := ["book", "deed", "d", "k"]
theorem scWhyOf : FnScope nWhyOf pWhyOf (defScope sWhyOf) := ⟨rfl, rfl, rfl, by decide +kernel, rfl, by decide +kernel, by decide +kernel⟩
def spWhyOf (T : List (Addr × Str)) : Sp := fun vs H Q _ => ∃ (b fk t : Addr) (n : Nat) (age : Int) (zs : List (Addr × En)) (e : En) (d k : Int), vs = [.ref b, .int e.num, .int d, .int k] ∧ BookAt H b fk t n age zs ∧ Tabs T H ∧ e ∈ ens zs ∧ e.isDeed = true ∧ (0 ≤ d ∧ d ≤ 9999) ∧ (0 ≤ k ∧ k ≤ 9999) ∧
  ∀ (a : Addr) (ys : List En) (H' : Hp), ExtN H H' → Tabs T H' → Oa n (ens zs) d k ys → Da H' (.ref a) (why (ens zs) ys d k e.num) → Q (.ref a) H'
theorem ok_whyOf {f : Addr} {fd : FuncData} {k : Nat} {dv : List V} (F : FunD K "why_of" "why_of" (defArgs sWhyOf) (defBody sWhyOf) (defScope sWhyOf) dv [] f fd) (C_check_deed : CallOk P w K mg base k "check_deed" ["book", "thing"] (spCkDeed T)) (C_all_standing : CallOk P w K mg base k "all_standing" pAllSt (spAllSt T)) (C_open_acts : CallOk P w K mg base k "open_acts" ["book", "d", "k"] (spOpenA T)) (C_papers_of : CallOk P w K mg base k "papers_of" pPapersOf spPapersOf) (C_deed_entries : CallOk P w K mg base k "deed_entries" ["book"] (spPick (·.isDeed) T)) (C_why_over : CallOk P w K mg base k "why_over" pWhyOver spWhyOver) (iNUMBER : MgInt mg "NUMBER" 0) : FnOk P w K mg base CX0 (k + 1) f fd pWhyOf (spWhyOf T) := by
  refine F.ok scWhyOf (fun vs H Q E h => ?_) (fun cdv A outer s H vs Q E hr h => ?_)
  · obtain ⟨b, fk, t, n, age, zs, e, d, k, rfl, _⟩ := h
    rfl
  · obtain ⟨b, fk, t, n, age, zs, e, d, kk, rfl, hB, hT, hee, hed, hd0, hk0, q⟩ := h
    have nd := scWhyOf.nd
    have hu := hu_of hr
    refine ⟨_, PSs.nox (pss_cons (ps_expr (pe_call C_check_deed.ok hr (by rfl) C_check_deed.g C_check_deed.kp C_check_deed.b .nil pass0 (pa_cons (pv 0) (pa_cons (pv 1) pa_nil))))
      (pss_cons (ps_set (i := 4) nd rfl (.inl rfl) (pe_call C_all_standing.ok hr (by rfl) C_all_standing.g C_all_standing.kp C_all_standing.b .nil pass0 (pa_cons (pv 0) (pa_cons (pv 2) (pa_cons (pv 3) pa_nil)))))
      (pss_cons (ps_set (i := 5) nd rfl (.inl rfl) (pe_call C_open_acts.ok hr (by rfl) C_open_acts.g C_open_acts.kp C_open_acts.b .nil pass0 (pa_cons (pv 0) (pa_cons (pv 2) (pa_cons (pv 3) pa_nil)))))
      (pss_cons (ps_set (i := 6) nd rfl (.inl rfl) (pe_call C_papers_of.ok hr (by rfl) C_papers_of.g C_papers_of.kp C_papers_of.b .nil pass0 (pa_cons (pv 5) pa_nil)))
      (pss_cons (ps_set (i := 7) nd rfl (.inl rfl) pe_dnewK)
      (pss_cons (ps_for PassesOwn.never rfl (pi_list (pe_call C_deed_entries.ok hr (by rfl) C_deed_entries.g C_deed_entries.kp C_deed_entries.b .nil pass0 (pa_cons (pv 0) pa_nil))) (pg_name (i := 8) nd rfl (.inl rfl))
        (pss_one (ps_dput hu (pv 7) (pe_ix ix_tup (pv 8) (pe_num (by rfl) iNUMBER) (fun _ _ => rfl)) (pe_call C_why_over.ok hr (by rfl) C_why_over.g C_why_over.kp C_why_over.b .nil pass0 (pa_cons (pv 8) (pa_cons (pe_dget hu (pv 4) (pe_ix ix_tup (pv 8) (pe_num (by rfl) iNUMBER) (fun _ _ => rfl)) (fun _ _ => rfl)) (pa_cons (pv 5) (pa_cons (pv 6) (pa_cons (pv 7) pa_nil)))))) rfl)))
      (pss_one (ps_ret (pe_dget hu (pv 7) (pv 1) (fun _ _ => rfl)))))))))), ?_⟩
    refine ⟨_, rfl, _, rfl, b, fk, t, n, age, zs, e, rfl, hB, hT, hee, hed, fun H1 e1 T1 => ?_⟩
    have hB1 := hB.kp (ExtN.tup e1)
    refine ⟨_, rfl, _, rfl, _, rfl, b, fk, t, n, age, zs, d, kk, rfl, hB1, T1, hd0, hk0, fun wo us H2 e2 T2 fr2 ew hDU => ?_⟩
    have e02 := e1.trans e2
    have hB2 := hB.kp (ExtN.tup e02)
    refine ⟨_, rfl, _, rfl, _, rfl, b, fk, t, n, age, zs, d, kk, rfl, hB2, T2, fun la ys H3 e3 T3 fr3 el hE hOA => ?_⟩
    have e03 := e02.trans e3
    have hO := hOA.oa hB.ok
    have hyl := hOA.len
    refine ⟨_, rfl, la, n, ens zs, d, kk, ys, rfl, el, hE, hO, by omega, fun pd H4 s4 npd hP => ?_⟩
    have e04 := e03.trans (.of s4)
    refine fun wd nwd => ?_
    have e5 : ExtN H4 (upd H4 wd (.dK [])) := ExtN.new nwd _
    have T5 : Tabs T (upd H4 wd (.dK [])) := Tabs.new (T3.ext s4) nwd _
    have ewd : (upd H4 wd (.dK [])) wd = some (.dK []) := upd_same
    generalize (upd H4 wd (.dK [])) = H5 at e5 T5 ewd
    have e05 := e04.trans e5
    have hB5 := hB.kp (ExtN.tup e05)
    have nl : ∀ xs : List V, ∀ ps, HO.lst xs ≠ .tbl ps := fun xs ps z => by cases z
    have nk : ∀ kv : List (Key × V), ∀ ps, HO.dK kv ≠ .tbl ps := fun xs ps z => by cases z
    refine ⟨_, rfl, b, fk, t, n, age, zs, rfl, hB5, T5, fun p6 zs' H6 e6 T6 fr6 ep6 pm so => ?_⟩
    have hDs : DeedsUp zs (zs'.filter fun z => z.2.isDeed) := deedsUp_of hB.len pm so
    have hsub : ∀ z ∈ zs'.filter (fun z => z.2.isDeed), z ∈ zs ∧ z.2.isDeed = true := fun z hz => ⟨pm.mem_iff.mp (List.mem_filter.mp hz).1, (List.mem_filter.mp hz).2⟩
    generalize (zs'.filter fun z => z.2.isDeed) = ds at ep6 hsub hDs
    have hdl := hDs.2.2
    have nwp : wd ≠ p6 := fr6.ne ewd (nk _)
    have frw : Fresh H4 wd := fun o z => by rw [nwd] at z; cases z
    have hnd : ((ens ds).map (·.num)).Nodup := hDs.nodup
    refine ⟨p6, rfl, ⟨_, SqL.of ep6⟩, ?_⟩
    refine for_list (K := K) (a := p6) (xs := refs ds) (fun i σ H' => ∃ y8, σ = [some (.ref b), some (.int e.num), some (.int d), some (.int kk), some (.ref wo), some (.ref la), some (.ref pd), some (.ref wd), y8] ∧ ExtN H4 H' ∧ Tabs T H' ∧ H' p6 = some (.lst (refs ds)) ∧ WhyD H' wd (ens zs) (ens ys) d kk (((ens ds).map (·.num)).take i)) ⟨none, rfl, e5.trans e6, T6, ep6, [], rfl, e6 _ _ ewd (nk _), fun _ h => nomatch h⟩ (fun i σ H' _ h => ?_) ?_ ?_
    · obtain ⟨_, _, _, _, e, _⟩ := h
      exact SqL.of e
    · rintro i x σ H7 hx ⟨y8, rfl, e7, T7, ep7, hW⟩
      obtain ⟨z, hz, rfl⟩ := ref_at hx
      have hzm := List.mem_of_getElem? hz
      have hi : i < ds.length := (List.getElem?_eq_some_iff.mp hz).1
      obtain ⟨hz1, hz2⟩ := hsub z hzm
      have hez : z.2 ∈ ens zs := List.mem_map.mpr ⟨z, hz1, rfl⟩
      have hEz := (hB.ent z hz1).kp (ExtN.tup (e04.trans e7))
      obtain ⟨xs, ex, g0, _⟩ := hEz.tup
      have hn7 : ((ens ds).map (·.num))[i]? = some z.2.num := by
        rw [List.getElem?_map, List.getElem?_map, hz]
        rfl
      have ew7 : H7 wo = some (.dK (wdE (ens zs) d kk (ens us))) := e7 _ _ (s4 _ _ (e3 _ _ ew (nk _))) (nk _)
      have hE7 : ∀ u ∈ ys, EntAt H7 u.1 u.2 := fun u hu => (hE u hu).kp (ExtN.tup (ExtN.trans (.of s4) e7))
      have hin : ∀ r ∈ z.2.rests, r ∈ ((ens ds).map (·.num)).take i := fun r hr => by
        obtain ⟨u, hu, hud, hun, hlt⟩ := rest_deed hB.ok hez hr
        have hud2 : u ∈ ens ds := (hDs.2.1 u).mpr ⟨hu, hud⟩
        obtain ⟨j, hj, ej⟩ := List.mem_iff_getElem.mp (List.mem_map.mpr ⟨u, hud2, hun⟩ : r ∈ (ens ds).map (·.num))
        refine List.mem_take_iff_getElem.mpr ⟨j, ?_, ej⟩
        rcases Nat.lt_or_ge j i with h | h
        · omega
        · exfalso
          have hup : ((ens ds).map (·.num)).Pairwise (· < ·) := by
            rw [List.pairwise_map, List.pairwise_map]
            exact hDs.1
          obtain ⟨hi1, hi2⟩ := List.getElem?_eq_some_iff.mp hn7
          rcases Nat.eq_or_lt_of_le h with h | h
          · subst h
            rw [hi2] at ej
            omega
          · have := List.pairwise_iff_getElem.mp hup i j hi1 hj h
            omega
      have hnt : (((ens ds).map (·.num)).take i).Nodup := (List.take_sublist _ _).nodup hnd
      refine ⟨_, rfl, _, rfl, _, rfl, z.1, _, _, _, rfl, rfl, SqT.of ex, g0, wo, _, rfl, wdE_get hDU ew7 hez hz2, _, rfl, _, rfl, _, rfl, z.1, la, pd, wd, n, ens zs, z.2, d, kk, ys, _, rfl, hEz, hez, hz2, e7 _ _ (s4 _ _ el) (nl _), hE7, hO, hyl, hP.ext e7, hW, hnt, hin, fun t8 H8 s8 nt8 hd8 => ?_⟩
      obtain ⟨xs8, ex8, g8, _⟩ := (hEz.kp (Same.tup s8)).tup
      have hnew : z.2.num ∉ ((ens ds).map (·.num)).take i := fun hm => by
        obtain ⟨j, hj, ej⟩ := List.mem_take_iff_getElem.mp hm
        obtain ⟨hi1, hi2⟩ := List.getElem?_eq_some_iff.mp hn7
        exact List.pairwise_iff_getElem.mp (List.nodup_iff_pairwise_ne.mp hnd) j i (by omega) hi1 (by omega) (ej.trans hi2.symm)
      obtain ⟨kv, hput, hW9, kv0, ekv⟩ := (hW.ext (.of s8)).put hnew (by rw [List.length_take, List.length_map, List.length_map]; omega) hd8
      refine ⟨_, rfl, _, rfl, z.1, _, _, _, rfl, rfl, SqT.of ex8, g8, wd, _, rfl, hput, ?_⟩
      refine ⟨_, rfl, ExtN.put (e7.trans (.of s8)) frw _, Tabs.lock (T7.ext s8) ekv _, ?_, ?_⟩
      · rw [upd_ne nwp.symm]
        exact s8 _ _ ep7
      · rw [take_more hn7]
        exact hW9
    · rintro σ H7 ⟨y8, rfl, e7, T7, ep7, hW⟩
      rw [show (refs ds).length = ((ens ds).map (·.num)).length by rw [List.length_map, List.length_map, List.length_map], List.take_length] at hW
      obtain ⟨a, hg, hda⟩ := hW.get hnd (List.mem_map.mpr ⟨e, (hDs.2.1 e).mpr ⟨hee, hed⟩, rfl⟩)
      exact ⟨_, rfl, _, rfl, wd, _, rfl, hg, q a (ens ys) H7 (e04.trans e7) T7 hO hda⟩
end
end Deed

namespace Deed
open PySem PySem.Spec PyProof.Rows L2
/-! ### zip of lists and tuples in whatever mix: true is a list -/
def Sq2 (K : PySem.W.Frag) : Bool → Hp → Addr → List V → Prop
  | true, H, a, xs => SqL K H a xs
  | false, H, a, xs => SqT K H a xs
def IsB : Bool → Heap → Addr → Array Value → Prop
  | true, h, a, its => h.IsList a its
  | false, h, a, its => h.IsTuple a its
def IterB : Bool → Heap → Addr → Addr → Nat → Prop
  | true, h, it, a, i => h.IsListIter it a i
  | false, h, it, a, i => h.IsTupleIter it a i
theorem IterB.at {c : Bool} {h h' : Heap} {it a : Addr} {i : Nat} (x : IterB c h it a i) (k : ∀ o, h.get? it = some o → h'.get? it = some o) : IterB c h' it a i := by
  cases c with
  | true => exact Heap.IsListIter.at x k
  | false => exact Heap.IsTupleIter.at x k
theorem IterB.obj {c : Bool} {h : Heap} {it a : Addr} {i : Nat} (x : IterB c h it a i) : ∃ o, h.get? it = some o ∧ ∀ v, o.data ≠ .cell v := by
  cases c with
  | true =>
    obtain ⟨o, e, _, dt⟩ := x
    exact ⟨o, e, fun v q => by rw [dt] at q; cases q⟩
  | false =>
    obtain ⟨o, e, _, dt⟩ := x
    exact ⟨o, e, fun v q => by rw [dt] at q; cases q⟩
theorem drawsB {prog : Program} {w : World} {A : Around} (hh : A.handled = none) (c : Bool) (it l : Addr) (hne : l ≠ it) (items : Array Value) : Draws prog w A it [it, l] items.size (fun i v => items[i]? = some v) (fun i h => IterB c h it l i ∧ IsB c h l items) := by
  cases c with
  | true => exact Draws.list hh it l hne items
  | false => exact Draws.tuple hh it l hne items
section
variable {X : Cx} {pins : List (Addr × Obj)} {σ : L2.St} {H : Hp} {s : Shared}
theorem sq2_is {c : Bool} {a : Addr} {xs : List V} (I : Inv X pins σ H s) (q : Sq2 X.K c H a xs) : ∃ its, Vals xs its ∧ IsB c s.heap a its.toArray ∧ a < s.heap.objs.size := by
  cases c with
  | true =>
    obtain ⟨its, rv, pp, _⟩ := I.list q
    exact ⟨its, rv, pp.isList, pp.lt⟩
  | false =>
    obtain ⟨its, rv, pp, _⟩ := I.tuple q
    obtain ⟨oo, ho, _⟩ := id pp
    exact ⟨its, rv, pp, Heap.lt_size ho⟩
theorem sq2_inj {c : Bool} {a : Addr} {xs ys : List V} (I : Inv X pins σ H s) (q : Sq2 X.K c H a xs) (q' : Sq2 X.K c H a ys) : xs = ys := by
  cases c with
  | true => exact I.list_inj q q'
  | false => exact I.tuple_inj q q'
end
def ItzB (K : PySem.W.Frag) (c1 c2 : Bool) (a b : Addr) : It :=
  ⟨fun i H => ∃ (xs ys : List V) (x y : V), Sq2 K c1 H a xs ∧ Sq2 K c2 H b ys ∧ xs[i]? = some x ∧ ys[i]? = some y,
    fun i H v H' => ∃ T x y, v = .ref T ∧ H T = none ∧ H' = upd H T (.tup [x, y]) ∧ (∀ xs, Sq2 K c1 H a xs → xs[i]? = some x) ∧ ∀ ys, Sq2 K c2 H b ys → ys[i]? = some y,
    fun i H => ∃ xs ys : List V, Sq2 K c1 H a xs ∧ Sq2 K c2 H b ys ∧ i ≤ xs.length ∧ i ≤ ys.length ∧ (xs.length = i ∨ ys.length = i)⟩
theorem turn_zipB {P : Program} {w : World} {K : PySem.W.Frag} {elts : List Expr} {kk : Nat} {tpos : Pos} {c1 c2 : Bool} {a b z TI TO i1 i2 : Addr} (S : ZipSep2 z TI TO i1 i2 [i1, a] [i2, b]) (na : a ≠ i1) (nb : b ≠ i2) :
    Turn P w K (.Tuple elts kk tpos) (ItzB K c1 c2 a b) [z, TI, TO, i1, i2] z (fun i h => IsZip h z TI TO .none ∧ IsTupOf2 h TI (.ref i1) (.ref i2) ∧ (∃ x y, IsTupOf2 h TO x y) ∧ IterB c1 h i1 a i ∧ IterB c2 h i2 b i) where
  mem := List.mem_cons_self
  obj := fun i h st c hc => by
    obtain ⟨hz, hTI, ⟨x, y, hTO⟩, k1, k2⟩ := st
    rcases (show c = z ∨ c = TI ∨ c = TO ∨ c = i1 ∨ c = i2 by simpa using hc) with rfl | rfl | rfl | rfl | rfl
    · exact ⟨_, hz, fun v q => by cases q⟩
    · exact ⟨_, hTI, fun v q => by cases q⟩
    · exact ⟨_, hTO, fun v q => by cases q⟩
    · exact k1.obj
    · exact k2.obj
  keep := fun i h h' st k => by
    obtain ⟨hz, hTI, ⟨x, y, hTO⟩, k1, k2⟩ := st
    refine ⟨k z (by simp) _ hz, k TI (by simp) _ hTI, ⟨x, y, k TO (by simp) _ hTO⟩, ?_, ?_⟩
    · exact k1.at (k i1 (by simp))
    · exact k2.at (k i2 (by simp))
  item := by
    intro X eP ew eK cal i pins s σ H E I hf st hg
    subst eP ew eK
    obtain ⟨hz, hTI, ⟨x0, y0, hTO⟩, k1, k2⟩ := st
    obtain ⟨xs, ys, x, y, qa, qb, gx, gy⟩ := hg
    obtain ⟨va, ra, pa, _⟩ := sq2_is I qa
    obtain ⟨vb, rb, pb, _⟩ := sq2_is I qb
    obtain ⟨u, hu, ru⟩ := ra.get gx
    obtain ⟨t, ht, rt⟩ := rb.get gy
    have hh : X.A.in1.handled = none := I.ok.hd cal
    have zl : z < s.heap.objs.size := Heap.lt_size hz
    have li : i < va.toArray.size := by simpa using (List.getElem?_eq_some_iff.mp hu).1
    have lj : i < vb.toArray.size := by simpa using (List.getElem?_eq_some_iff.mp ht).1
    refine wpAny_pyNext_zipD2_item S (drawsB hh c1 i1 a na va.toArray) (drawsB hh c2 i2 b nb vb.toArray) hz hTI hTO ⟨k1, pa⟩ ⟨k2, pb⟩ li lj fun x1 x2 h1 tk p1 p2 z1 TO1 st1 st2 hT hsz hk => ?_
    obtain rfl : u = x1 := by simpa [hu] using p1
    obtain rfl : t = x2 := by simpa [ht] using p2
    refine ⟨_, rfl, wpAny_letOwnedTupleGo_zip (s := { s with heap := h1, toks := tk }) z1 fun h2 z2 sb => ?_⟩
    have hT2 : h2.get? s.heap.objs.size = some { cls := .type "tuple", data := .seq #[u, t] } := (sb.2 _ (Nat.ne_of_gt zl)).trans hT
    have ok : ObjOk X.prog X.w (upd H s.heap.objs.size (.tup [x, y])) h2 s.heap.objs.size (.tup [x, y]) := ⟨by show 2 ≤ sizeLine; decide, [u, t], .cons ru (.cons rt .nil), ⟨_, hT2, rfl, _, rfl⟩⟩
    have I2 : Inv X pins σ (upd H s.heap.objs.size (.tup [x, y])) { s with heap := h2, toks := tk } := by
      refine I.turnedNew (ch := [z, TI, TO, i1, i2]) (fun c o hc q => ?_) hf (Nat.le_refl _) ok
      simp only [List.mem_cons, List.not_mem_nil, or_false, not_or] at hc
      exact (sb.2 c hc.1).trans (hk c o hc.1 hc.2.2.1 hc.2.2.2.1 hc.2.2.2.2 q)
    refine ⟨.ref s.heap.objs.size, _, I2, rfl, ⟨_, x, y, rfl, I.hok.fresh (Nat.le_refl _), rfl, fun l hl => ?_, fun l hl => ?_⟩, ⟨z2, ?_, ⟨u, t, ?_⟩, ?_, ?_⟩, fun c hc => ?_⟩
    · rw [sq2_inj I hl qa]
      exact gx
    · rw [sq2_inj I hl qb]
      exact gy
    · exact (sb.2 _ S.TIz).trans (hk _ _ S.TIz S.TITO S.TIi1 S.TIi2 hTI)
    · exact (sb.2 _ S.TOz).trans TO1
    · exact st1.1.at fun o q => (sb.2 _ S.zi1.symm).trans q
    · exact st2.1.at fun o q => (sb.2 _ S.zi2.symm).trans q
    · have hlt : c < s.heap.objs.size := by
        obtain ⟨o1, e1, _⟩ := k1.obj
        obtain ⟨o2, e2, _⟩ := k2.obj
        rcases (show c = z ∨ c = TI ∨ c = TO ∨ c = i1 ∨ c = i2 by simpa using hc) with rfl | rfl | rfl | rfl | rfl
        · exact zl
        · exact Heap.lt_size hTI
        · exact Heap.lt_size hTO
        · exact Heap.lt_size e1
        · exact Heap.lt_size e2
      rw [upd_ne (Nat.ne_of_lt hlt)]
      exact (hf c hc).1
  done := by
    intro X eP ew eK cal i pins s σ H E I hf st hg
    subst eP ew eK
    obtain ⟨hz, hTI, ⟨x0, y0, hTO⟩, k1, k2⟩ := st
    obtain ⟨xs, ys, qa, qb, l1, l2, hend⟩ := hg
    obtain ⟨va, ra, pa, _⟩ := sq2_is I qa
    obtain ⟨vb, rb, pb, _⟩ := sq2_is I qb
    have hh : X.A.in1.handled = none := I.ok.hd cal
    have la := ra.length
    have lb := rb.length
    refine wpAny_pyNext_zipD2_end S (drawsB hh c1 i1 a na va.toArray) (drawsB hh c2 i2 b nb vb.toArray) hz hTI hTO ⟨k1, pa⟩ ⟨k2, pb⟩ (by simp; omega) (by simp; omega) (by simp; omega) fun h1 tk hk => ⟨rfl, ?_⟩
    refine I.turnedL (ch := [z, TI, TO, i1, i2]) (fun c o hc q => ?_) hf
    simp only [List.mem_cons, List.not_mem_nil, or_false, not_or] at hc
    exact hk c o hc.1 hc.2.2.1 hc.2.2.2.1 hc.2.2.2.2 q
  self := fun A i s Q E st q => wpAny_pyIter_zip st.1 q
theorem begB (c : Bool) (l : Addr) (its : Array Value) : ∃ o, Begins (.ref l) o (fun h => IsB c h l its) ∧ ∀ h it, h.get? it = some o → IterB c h it l 0 := by
  cases c with
  | true => exact ⟨_, begins_list l its, fun h it e => ⟨_, e, rfl, rfl⟩⟩
  | false => exact ⟨_, begins_tuple l its, fun h it e => ⟨_, e, rfl, rfl⟩⟩
theorem sep_new {m a b : Nat} (la : a < m) (lb : b < m) : ZipSep2 (m + 4) (m + 2) (m + 3) m (m + 1) [m, a] [m + 1, b] := by
  constructor <;> simp <;> (try constructor) <;> (try (first | (refine Nat.ne_of_gt ?_; omega) | (refine Nat.ne_of_lt ?_; omega)))
def iZipB (K : PySem.W.Frag) (c1 c2 : Bool) (ta : TA) : TI := fun σ H R => ta σ H fun vs H1 => ∃ a b xs ys, vs = [.ref a, .ref b] ∧ Sq2 K c1 H1 a xs ∧ Sq2 K c2 H1 b ys ∧ R (ItzB K c1 c2 a b) H1
theorem pi_zipB (c1 c2 : Bool) {X : Cx} {e e2 : Expr} {ta : TA} {p pos tpos : Pos} {elts : List Expr} {kk : Nat} (hg : Gl X "zip") (hm : X.mg "zip" = none) (ha : PA X [e, e2] ta)
    (hs : starEach [e, e2] X.env = (false, eval e X.env) :: starEach [e2] X.env := by rfl) (hp : (backTo pos (starEach [e2] X.env)).any (·.1) = false := by rfl) : PI X (.Tuple elts kk tpos) (.Call (.Name "zip" p) [e, e2] [] pos) (iZipB X.K c1 c2 ta) := by
  refine ⟨fun pins s σ H R I h => Call_ (ld_blt I hg hm PyProof.Rows.boot_zip (PyProof.Rows.callWith_type1 (thn (ha.run pos pins s σ H _ I h) fun us s1 ⟨vs, H1, I1, r1, q1⟩ => ?_) hs hp))⟩
  obtain ⟨a, b, xs, ys, ex, qa, qb, q⟩ := q1
  subst ex
  obtain ⟨va, ra, pa, la⟩ := sq2_is I1 qa
  obtain ⟨vb, rb, pb, lb⟩ := sq2_is I1 qb
  obtain ⟨o1, B1, it1⟩ := begB c1 a va.toArray
  obtain ⟨o2, B2, it2⟩ := begB c2 b vb.toArray
  cases r1 with
  | cons r rr =>
    cases rr with
    | cons r' rr =>
      cases rr
      cases r
      cases r'
      refine zip_begins2 B1 B2 pa pb fun h1 hz hTI hTO g1 g2 hsz hk => wpAny_pyIter_zip hz ?_
      have I2 : Inv X pins σ H1 { s1 with heap := h1 } := I1.kept (t' := s1.toks) hk
      have S := sep_new la lb
      refine ⟨s1.heap.objs.size + 4, [s1.heap.objs.size + 4, s1.heap.objs.size + 2, s1.heap.objs.size + 3, s1.heap.objs.size, s1.heap.objs.size + 1], _, _, H1, rfl, I2, turn_zipB S (Nat.ne_of_lt la) (Nat.ne_of_lt (Nat.lt_succ_of_lt lb)), ⟨hz, hTI, ⟨_, _, hTO⟩, it1 _ _ g1, it2 _ _ g2⟩, fun c hc => ?_, q⟩
      have hle : s1.heap.objs.size ≤ c := by
        simp only [List.mem_cons, List.not_mem_nil, or_false] at hc
        rcases hc with rfl | rfl | rfl | rfl | rfl
        · exact Nat.le_add_right _ 4
        · exact Nat.le_add_right _ 2
        · exact Nat.le_add_right _ 3
        · exact Nat.le_refl _
        · exact Nat.le_add_right _ 1
      exact I1.fpOk hle (I1.hok.fresh hle)
theorem walk_zipB {K : PySem.W.Frag} {c1 c2 : Bool} {a b : Addr} {xs ys : List V} {n : Nat} (hx : xs.length = n) (hy : ys.length = n) : Walk (ItzB K c1 c2 a b) n (fun H => Sq2 K c1 H a xs ∧ Sq2 K c2 H b ys) (YPair (fun i => xs[i]?) (fun i => ys[i]?)) := by
  refine ⟨fun i H hi q => ⟨xs, ys, xs[i], ys[i], q.1, q.2, ?_, ?_⟩, fun H q => ⟨xs, ys, q.1, q.2, by omega, by omega, .inl hx⟩, fun i H v H' _ q y => ?_⟩
  · exact List.getElem?_eq_getElem (by omega)
  · exact List.getElem?_eq_getElem (by omega)
  · obtain ⟨T, x, z, t1, t2, t3, t4, t5⟩ := y
    exact ⟨T, x, z, t1, t2, t3, t4 xs q.1, t5 ys q.2⟩
end Deed

namespace Deed
open PySem PySem.Spec PyProof.Rows L2 LamX
def isTupD : Dat → Bool
  | .tup _ => true
  | _ => false
def isIntD : Dat → Bool
  | .int _ => true
  | _ => false
def isBlD : Dat → Bool
  | .bl _ => true
  | _ => false
theorem Da.ty {K : PySem.W.Frag} {H : Hp} {v : V} {x : Dat} (h : Da H v x) : ∃ t : String, TyX K H v (.type t) ∧ kitB t "tuple" = some (isTupD x) ∧ kitB t "int" = some (isIntD x || isBlD x) ∧ kitB t "bool" = some (isBlD x) := by
  cases h with
  | non => exact ⟨"NoneType", .base .non, (by decide +kernel : kitB "NoneType" "tuple" = some false), (by decide +kernel : kitB "NoneType" "int" = some false), (by decide +kernel : kitB "NoneType" "bool" = some false)⟩
  | bl b => exact ⟨"bool", .base (.bl b), (by decide +kernel : kitB "bool" "tuple" = some false), (by decide +kernel : kitB "bool" "int" = some true), (by decide +kernel : kitB "bool" "bool" = some true)⟩
  | int i => exact ⟨"int", .base (.int i), (by decide +kernel : kitB "int" "tuple" = some false), (by decide +kernel : kitB "int" "int" = some true), (by decide +kernel : kitB "int" "bool" = some false)⟩
  | str s => exact ⟨"str", .base (.str s), (by decide +kernel : kitB "str" "tuple" = some false), (by decide +kernel : kitB "str" "int" = some false), (by decide +kernel : kitB "str" "bool" = some false)⟩
  | tup e _ => exact ⟨"tuple", .base (.tup e), (by decide +kernel : kitB "tuple" "tuple" = some true), (by decide +kernel : kitB "tuple" "int" = some false), (by decide +kernel : kitB "tuple" "bool" = some false)⟩
  | lst e => exact ⟨"list", .base (.lst e), (by decide +kernel : kitB "list" "tuple" = some false), (by decide +kernel : kitB "list" "int" = some false), (by decide +kernel : kitB "list" "bool" = some false)⟩
  | dct e => exact ⟨"dict", .base (.dK e), (by decide +kernel : kitB "dict" "tuple" = some false), (by decide +kernel : kitB "dict" "int" = some false), (by decide +kernel : kitB "dict" "bool" = some false)⟩
def isStrD (w : Str) : Dat → Bool
  | .str a => decide (a = w)
  | _ => false
theorem eqv_strD (w : Str) (x : Dat) : PyData.eqv x.py (.str w) = isStrD w x := by
  cases x with
  | str a =>
    show (a == w) = decide (a = w)
    by_cases h : a = w
    · rw [h, decide_eq_true rfl]
      exact beq_self_eq_true _
    · rw [decide_eq_false h]
      exact beq_eq_false_iff_ne.mpr h
  | _ => simp [Dat.py, PyData.eqv, isStrD]
def isIntM (m : Int) : Dat → Bool
  | .int b => decide (b = m)
  | _ => false
theorem headD_two (x y : Dat) (r : List Dat) (sz : Nat) (w : Str) (m : Int) : headD (.tup (x :: y :: r)) sz w m = (decide (r.length + 2 = sz) && (isStrD w x && (isIntD y && isIntM m y))) := by
  cases x with
  | str a =>
    cases y with
    | int b =>
      rfl
    | _ => simp [headD, isIntD]
  | _ => simp [headD, isStrD]
section
variable {P : Program} {w : World} {K : PySem.W.Frag} {mg : Str → Option Value} {base : Heap} {T : List (Addr × Str)}
def spWholeD : Sp := fun vs H Q _ => ∃ (v : V) (x : Dat), vs = [v] ∧ Da H v x ∧ Q (.bl (isIntD x)) H
theorem ok_wholeD {f : Addr} {fd : FuncData} {k : Nat} (F : Fun K "is_whole" "is_whole" sWhole f fd) (mi : mg "isinstance" = none) (mn : mg "int" = none) (mb : mg "bool" = none) : FnOk P w K mg base CX0 (k + 1) f fd ["thing"] spWholeD := by
  refine F.ok scWhole (fun vs H Q E h => ?_) (fun cdv A outer s H vs Q E hr h => ?_)
  · obtain ⟨v, x, rfl, _⟩ := h
    rfl
  · obtain ⟨v, x, rfl, hd, q⟩ := h
    obtain ⟨t, ht, _, h1, h2⟩ := hd.ty (K := K)
    refine ⟨_, pss_one (ps_ret (pe_and (pe_callB call_isi (by rfl) mi (by decide +kernel) (pa_cons (pv 0) (pa_cons (pe_bltn (v := .ty "int") (by rfl) mn (by decide +kernel) rfl) pa_nil))) (pe_one (pe_not (pe_callB call_isi (by rfl) mi (by decide +kernel) (pa_cons (pv 0) (pa_cons (pe_bltn (v := .ty "bool") (by rfl) mb (by decide +kernel) rfl) pa_nil))))))), ?_⟩
    refine ⟨_, rfl, _, _, _, _, _, rfl, .ty "int", ht, kit_ty h1, _, rfl, ?_⟩
    refine ite2 (fun c => ?_) (fun c => ?_)
    · refine ⟨_, rfl, _, _, _, _, _, rfl, .ty "bool", ht, kit_ty h2, _, rfl, ?_⟩
      have : isIntD x = !isBlD x := by cases x <;> first | rfl | cases c
      rw [this] at q
      exact q
    · have : isIntD x = false := by cases x <;> first | rfl | exact absurd rfl c
      rw [this] at q
      exact q
def spHasHead : Sp := fun vs H Q _ => ∃ (v : V) (x : Dat) (sz : Nat) (wd : Str) (m : Int), vs = [v, .int sz, .str wd, .int m] ∧ Da H v x ∧ Fine 31 x ∧ 2 ≤ sz ∧ PyData.strOk wd = true ∧ Q (.bl (headD x sz wd m)) H
end
end Deed

namespace Deed
open PySem PySem.Spec PyProof.Rows L2 LamX
/-- the open acts, as a list -/
structure ActsL (H : Hp) (la : Addr) (n : Nat) (es : List En) (d k : Int) (ys : List (Addr × En)) : Prop where
  lst : H la = some (.lst (refs ys))
  ent : ∀ z ∈ ys, EntAt H z.1 z.2
  oa : Oa n es d k (ens ys)
  len : ys.length ≤ 16
theorem ActsL.ext {H H' : Hp} {la : Addr} {n : Nat} {es : List En} {d k : Int} {ys : List (Addr × En)} (h : ActsL H la n es d k ys) (s : Same H H') : ActsL H' la n es d k ys := ⟨s _ _ h.lst, fun z hz => (h.ent z hz).kp (Same.tup s), h.oa, h.len⟩
theorem ActsL.on {H : Hp} {la : Addr} {n : Nat} {es : List En} {d k : Int} {ys : List (Addr × En)} (h : ActsL H la n es d k ys) : ∀ z ∈ ys, EntAt H z.1 z.2 ∧ z.2.isDeed = false := fun z hz => ⟨h.ent z hz, (h.oa.mem z.2 (List.mem_map.mpr ⟨z, hz, rfl⟩)).2.1⟩
theorem Fine.part {m : Nat} {xs : List Dat} (h : Fine m (.tup xs)) {y : Dat} (hy : y ∈ xs) : Fine m y := by
  refine ⟨?_, ?_⟩
  · have h1 := h.1
    unfold Dat.okD at h1
    induction xs with
    | nil => cases hy
    | cons a r ih =>
      unfold Dat.okAll at h1
      rw [Bool.and_eq_true] at h1
      rcases List.mem_cons.mp hy with rfl | hy
      · exact h1.1
      · exact ih ⟨by unfold Dat.okD; exact h1.2, by have := h.2; unfold Dat.dep Dat.depAll at this; unfold Dat.dep; omega⟩ hy h1.2
  · have h1 := h.2
    unfold Dat.dep at h1
    have : y.dep ≤ Dat.depAll xs := by
      clear h h1
      induction xs with
      | nil => cases hy
      | cons a r ih =>
        unfold Dat.depAll
        rcases List.mem_cons.mp hy with rfl | hy
        · omega
        · have := ih hy
          omega
    omega
def tillN (f : Nat) (e : En) : Prop := (31 - e.num).toNat ≤ f
section
variable {P : Program} {w : World} {K : PySem.W.Frag} {mg : Str → Option Value} {base : Heap} {T : List (Addr × Str)}
def spIs (b : Bool) (f : Nat) : Sp := fun vs H Q _ => ∃ (la : Addr) (n : Nat) (es : List En) (d k : Int) (ys : List (Addr × En)) (e : En) (v : V) (x : Dat), vs = [.ref la, .int e.num, v] ∧ ActsL H la n es d k ys ∧ e ∈ ens ys ∧ tillN f e ∧ Da H v x ∧ Fine 31 x ∧ ∀ H', Same H H' → Q (.bl (hold (ens ys) b e x)) H'
def spMany (nos : Bool) (f : Nat) : Sp := fun vs H Q _ => ∃ (la l : Addr) (n : Nat) (es : List En) (d k : Int) (ys : List (Addr × En)) (us : List En) (v : V) (x : Dat), vs = [.ref la, .ref l, v] ∧ ActsL H la n es d k ys ∧ H l = some (.lst ((us.map (·.num)).map V.int)) ∧ (∀ u ∈ us, u ∈ ens ys ∧ tillN f u) ∧ us.length ≤ 1000 ∧ Da H v x ∧ Fine 31 x ∧ ∀ H', Same H H' → Q (.bl (if nos then nosD (ens ys) us x else someYes (ens ys) us x)) H'
end
end Deed

namespace Deed
open PySem PySem.Spec PyProof.Rows L2 LamX
theorem headD_is {x : Dat} {sz : Nat} {wd : Str} {m : Int} (h : headD x sz wd m = true) : ∃ ds, x = .tup ds ∧ ds.length = sz := by
  unfold headD at h
  split at h
  · next a b r =>
    rw [Bool.and_eq_true] at h
    exact ⟨_, rfl, of_decide_eq_true h.1⟩
  · cases h
theorem Da.nth {H : Hp} {v : V} {x : Dat} {sz : Nat} {wd : Str} {m : Int} (hd : Da H v x) (h : headD x sz wd m = true) : ∃ a xs, v = .ref a ∧ H a = some (.tup xs) ∧ ∀ i, i < sz → ∃ u, xs[i]? = some u ∧ Da H u (x.at i) ∧ ∀ f, Fine f x → Fine f (x.at i) := by
  obtain ⟨ds, rfl, hl⟩ := headD_is h
  cases hd with
  | @tup a xs _ e hda =>
    refine ⟨a, xs, rfl, e, fun i hi => ?_⟩
    have hi2 : i < ds.length := by omega
    obtain ⟨u, hu, hdu⟩ := hda.at' (List.getElem?_eq_getElem hi2)
    have ea : Dat.at (.tup ds) i = ds[i] := by
      show ds.getD i .non = ds[i]
      rw [List.getD_eq_getElem?_getD, List.getElem?_eq_getElem hi2]
      rfl
    rw [ea]
    exact ⟨u, hu, hdu, fun f hf => hf.part (List.getElem_mem hi2)⟩
section
variable {P : Program} {w : World} {K : PySem.W.Frag} {mg : Str → Option Value} {base : Heap} {T : List (Addr × Str)}
theorem undo_till {n : Nat} {es : List En} {d k : Int} {ys : List En} (h : Oa n es d k ys) {e : En} {m : Nat} (ht : tillN (m + 1) e) : ∀ u ∈ ys.filter (isOn "undone" e.num), u ∈ ys ∧ tillN m u := fun u hu => by
  obtain ⟨a1, a2, a3, a4⟩ := h.undo hu
  refine ⟨a1, ?_⟩
  unfold tillN at ht ⊢
  omega
theorem undo_len {ys : List (Addr × En)} (h : ys.length ≤ 16) (x : Str) (m : Int) : ((ens ys).filter (isOn x m)).length ≤ 1000 := by
  have := List.length_filter_le (isOn x m) (ens ys)
  rw [List.length_map] at this
  omega
variable {fY fN fS fA : Addr} {dY dN dS dA : FuncData}
theorem never_is (b : Bool) {vs : List V} {H : Hp} {Q : V → Hp → Prop} {E : _} (h : spIs b 0 vs H Q E) : False := by
  obtain ⟨la, n, es, d, k, ys, e, v, x, rfl, hA, he, ht, _⟩ := h
  have := hA.oa.bk.rng e (hA.oa.mem e he).1
  unfold tillN at ht
  omega
end
end Deed

namespace Deed
open PySem PySem.Spec PyProof.Rows L2 LamX
/-- the deeds by their numbers, what they are -/
def DeedMap (H : Hp) (dd : Addr) (es : List En) : Prop := ∃ ps : List (Addr × En), (ps.map (fun z => z.2.num)).Nodup ∧ H dd = some (.dK (ps.map fun z => (Sum.inl z.2.num, V.ref z.1))) ∧ (∀ z ∈ ps, EntAt H z.1 z.2) ∧ ∀ e ∈ es, e.isDeed = true → ∃ z ∈ ps, z.2 = e
theorem DeedMap.ext {H H' : Hp} {dd : Addr} {es : List En} (h : DeedMap H dd es) (s : Same H H') : DeedMap H' dd es := by
  obtain ⟨ps, h1, h2, h3, h4⟩ := h
  exact ⟨ps, h1, s _ _ h2, fun z hz => (h3 z hz).kp (Same.tup s), h4⟩
theorem DeedMap.get {H : Hp} {dd : Addr} {es : List En} (h : DeedMap H dd es) {e : En} (he : e ∈ es) (hd : e.isDeed = true) : ∃ a, DGet H dd (.int e.num) (some (.ref a)) ∧ EntAt H a e := by
  obtain ⟨ps, h1, h2, h3, h4⟩ := h
  obtain ⟨z, hz, rfl⟩ := h4 e he hd
  have h5 := DGet.k (k := Sum.inl z.2.num) h2
  rw [valV_map (f := fun z : Addr × En => z.2.num) (g := fun z : Addr × En => V.ref z.1) h1 hz] at h5
  exact ⟨z.1, h5, h3 z hz⟩
def WordD (H : Hp) (wd : Addr) (es : List En) (d k : Int) : Prop := ∃ zs ys : List (Addr × En), ens zs = es ∧ DeedsUp zs ys ∧ H wd = some (.dK (wdE es d k (ens ys)))
theorem WordD.ext {H H' : Hp} {wd : Addr} {es : List En} {d k : Int} (h : WordD H wd es d k) (s : Same H H') : WordD H' wd es d k := by
  obtain ⟨zs, ys, h1, h2, h3⟩ := h
  exact ⟨zs, ys, h1, h2, s _ _ h3⟩
theorem WordD.get {H : Hp} {wd : Addr} {es : List En} {d k : Int} (h : WordD H wd es d k) {e : En} (he : e ∈ es) (hd : e.isDeed = true) : DGet H wd (.int e.num) (some (.str (st es d k e))) := by
  obtain ⟨zs, ys, rfl, h2, h3⟩ := h
  exact wdE_get h2 h3 he hd
def stWords : List Str := ["unknown", "ahead", "void", "fallen", "paid", "stands"]
def SizesAt (K : PySem.W.Frag) (w : World) (mg : Str → Option Value) : Prop := ∃ a, mg "WHY_SIZES" = some (.ref a) ∧ ∀ x ∈ stWords, KDct K w a x (.int (sizeW x))
theorem st_word {n : Nat} {es : List En} (hB : BkOk n es) (d k : Int) {e : En} (he : e ∈ es) : st es d k e ∈ stWords := by
  rcases st_cases hB d k he with ⟨h1, _⟩ | ⟨h1, _⟩ | ⟨h1, _⟩ | ⟨h1, _⟩ | ⟨h1, _⟩ | ⟨h1, _⟩ <;> rw [h1] <;> simp [stWords]
theorem sizeW_two (x : Str) : 2 ≤ sizeW x := by
  unfold sizeW
  split
  · omega
  · split
    · omega
    · split <;> omega
/-- numbered deeds, all lesser than f -/
def lessN (es : List En) (f : Nat) (r : Int) : Prop := ∃ u ∈ es, u.isDeed = true ∧ u.num = r ∧ u.num.toNat < f
section
variable {P : Program} {w : World} {K : PySem.W.Frag} {mg : Str → Option Value} {base : Heap} {T : List (Addr × Str)}
abbrev pIsWhy : List Str := ["deeds", "words", "acts", "deed", "thing"]
def spWhy (f : Nat) : Sp := fun vs H Q _ => ∃ (dd wd la : Addr) (n : Nat) (es : List En) (d k : Int) (ys : List (Addr × En)) (r : Int) (v : V) (x : Dat), vs = [.ref dd, .ref wd, .ref la, .int r, v] ∧ DeedMap H dd es ∧ WordD H wd es d k ∧ ActsL H la n es d k ys ∧ lessN es f r ∧ Da H v x ∧ Fine 31 x ∧ ∀ H', Same H H' → Q (.bl (whyH es (ens ys) d k r x)) H'
def spWhys (f : Nat) : Sp := fun vs H Q _ => ∃ (dd wd la l : Addr) (n : Nat) (es : List En) (d k : Int) (ys : List (Addr × En)) (rs : List Int) (v : V) (x : Dat), vs = [.ref dd, .ref wd, .ref la, .ref l, v] ∧ DeedMap H dd es ∧ WordD H wd es d k ∧ ActsL H la n es d k ys ∧ H l = some (.tup (rs.map V.int)) ∧ (∀ r ∈ rs, lessN es f r) ∧ rs.length ≤ 1000 ∧ Da H v x ∧ Fine 31 x ∧ ∀ H', Same H H' → Q (.bl (whysD (whyH es (ens ys) d k) rs x)) H'
end
end Deed

namespace Deed
open PySem PySem.Spec PyProof.Rows L2 LamX
theorem till31 {n : Nat} {es : List En} {d k : Int} {ys : List En} (h : Oa n es d k ys) {u : En} (hu : u ∈ ys) : u ∈ ys ∧ tillN 31 u := by
  have := h.bk.rng u (h.mem u hu).1
  refine ⟨hu, ?_⟩
  unfold tillN
  omega
theorem rests_len {n : Nat} {es : List En} (hB : BkOk n es) {e : En} (he : e ∈ es) : e.rests.length ≤ 1000 := by
  have h := hB.ok e he
  unfold En.rests
  cases hk : e.kd with
  | deed g t r ws =>
    have := h.2.2.2
    rw [hk] at this
    have := this.2.2.2.1
    show r.length ≤ 1000
    omega
  | act x o => exact Nat.zero_le _
section
variable {P : Program} {w : World} {K : PySem.W.Frag} {mg : Str → Option Value} {base : Heap} {T : List (Addr × Str)}
abbrev nIsWhy : List Str := ["deeds", "words", "acts", "deed", "thing", "word", "rests", "voids", "paids", "broken", "rest"]
end
end Deed

namespace Deed
open PySem PySem.Spec PyProof.Rows L2
section
variable {X : Cx}
/-- x = {k: v for ..}, x an own name -/
theorem ps_setDc {i : Nat} {y : Str} {py : Pos} {kx vx tg iter : Expr} {ifs : List Expr} {scope : Scope} {own : List (Str × Nat)} {pos spos : Pos} {wi : TI} {g : TG} {tt : TT} {tk tv : TE} (cal : X.calm = true) (nd : X.N.Nodup) (yi : X.N[i]? = some y) (yl : X.env.scope.names.lookup y = some .local)
    (sw : swapsWith (.DictComp kx vx [⟨tg, iter, ifs, 0⟩] scope pos) (some (.Name y py)) spos.line X.env = pure true) (pi : PI X tg iter wi) (blk : BlkOk X.N X.env.scope scope own)
    (pg : ∀ (s : Shared) (H : Hp) (C : Addr) (cl : List (Str × Addr)) (fp : List Addr), PG (X.blk s H scope (compEnvC scope cl C X.env) fp) tg g) (pt : ∀ (s : Shared) (H : Hp) (C : Addr) (cl : List (Str × Addr)) (fp : List Addr), PTs (X.blk s H scope (compEnvC scope cl C X.env) fp) ifs tt)
    (pk : ∀ (s : Shared) (H : Hp) (C : Addr) (cl : List (Str × Addr)) (fp : List Addr), PE (X.blk s H scope (compEnvC scope cl C X.env) fp) kx tk) (pw : ∀ (s : Shared) (H : Hp) (C : Addr) (cl : List (Str × Addr)) (fp : List Addr), PE (X.blk s H scope (compEnvC scope cl C X.env) fp) vx tv)
    (fo : ∀ x, foldedSetIterable iter X.env x = pure x := by intro _; rfl) : PS X (.Assign [.Name y py] (.DictComp kx vx [⟨tg, iter, ifs, 0⟩] scope pos) spos) (tAsg (tDc wi g tt tk tv (own.map (·.2))) (gName i)) := by
  refine ⟨fun pins s σ H D I hh => ?_⟩
  rw [exec_Assign_Name_used _ _ _ _ sw]
  refine wpAny_bind (wpAny_standAt (wpAny_bind ?_))
  show wpAny _ X.A (do let _ ← comprehension (.DictComp kx vx [⟨tg, iter, ifs, 0⟩] scope pos) scope X.env (firstIterPos [⟨tg, iter, ifs, 0⟩] pos) newDict false (eval iter X.env) (some (assign (.Name y py) X.env))) _ _ s
  have ht : tDc wi g tt tk tv (own.map (·.2)) σ H (fun x H1 => gName i x σ H1 D.nx) := hh
  refine wpAny_bind (thn (dc_core (Qf := fun _ s' => SP X pins D .next s') cal nd I pi blk pg pt pk pw fo ht fun L C s1 m H1 I1 q nC fp => ?_) fun _ s2 hq => wpAny_pure (wpAny_pure hq))
  show wpAny _ _ (assign (.Name y py) X.env (.ref L)) _ _ _
  refine wpAny_assign_Name (store_ok2 (v := V.ref L) I1 nd yi (.inl yl) rfl (fun s2 I2 ⟨c, sb, hc⟩ => ?_) (.inr yl))
  obtain ⟨f0, f1, f2, f3, f4, f5⟩ := fp
  have nc : C ≠ c := by
    rcases hc with e | e
    · rw [e]
      exact f1
    · exact fun z => f4 y c e z.symm
  refine ⟨m, nC.sameBut sb nc, fun h3 sb3 => ⟨_, H1, ?_, q⟩⟩
  exact I2.turned (t' := s2.toks) (fun b o hb e => (sb3.2 b hb).trans e) f0 f1 f3 f4 f5
theorem swD_true {kx vx : Expr} {gs : List Comprehension} {scope : Scope} {pos py : Pos} {y : Str} {l : Nat} {env : Env} (fk : env.scope.kind = .function) (yl : env.scope.names.lookup y = some .local) (hl : (py.line == pos.line) = true)
    (no : (scope.names.any fun (n, k) => n == y && (k == .local || k == .cell)) = false) : swapsWith (.DictComp kx vx gs scope pos) (some (.Name y py)) l env = pure true := by
  have k1 : env.kindOf y = some .local := yl
  have k2 : env.blockKind = .function := by
    unfold Env.blockKind
    rw [fk]
    rfl
  unfold swapsWith
  simp only [k2, k1, no, Expr.pos, hl]
  rfl
end
end Deed

namespace Deed
open PySem PySem.Spec PyProof.Rows L2 LamX
theorem dc_walk {J : It} {n : Nat} {G : Hp → Prop} {Y : Nat → Hp → V → Hp → Prop} {g : TG} {tt : TT} {tk tv : TE} {vs : List Nat} {σ : L2.St} {H1 : Hp} {D : Addr} {Qd : Hp → Prop} (wk : Walk J n G Y) (Pv : Nat → Hp → Prop) (h0 : Pv 0 (upd H1 D (.dK []))) (hl : ∀ i H, i ≤ n → Pv i H → G H)
    (hs : ∀ i x H H', i < n → Pv i H → Y i H x H' → g x (wipe σ vs) H' fun σ2 H2 => wipe σ2 vs = wipe σ vs ∧ tt σ2 H2 fun b H3 => if b = true then tk σ2 H3 fun y H4 => tv σ2 H4 fun z H5 => ∃ kvs k, y = kV k ∧ H5 D = some (.dK kvs) ∧ kvs.length < sizeLine ∧ Pv (i + 1) (upd H5 D (.dK (putK kvs k z))) else Pv (i + 1) H3)
    (hd : ∀ H, Pv n H → Qd H) : ∃ W : Nat → Nat → Hp → Prop, (∃ m, W 0 m (upd H1 D (.dK []))) ∧ ∀ i m H, W i m H → (J.stop i H ∧ Qd H) ∨ (J.go i H ∧ ∃ Nx : Hp → Prop, (∀ H', Nx H' → ∃ m', m' < m ∧ W (i + 1) m' H') ∧ ∀ x H', J.yld i H x H' → g x (wipe σ vs) H' fun σ2 H2 => wipe σ2 vs = wipe σ vs ∧ tt σ2 H2 fun b H3 =>
        if b = true then tk σ2 H3 fun y H4 => tv σ2 H4 fun z H5 => ∃ kvs k, y = kV k ∧ H5 D = some (.dK kvs) ∧ kvs.length < sizeLine ∧ Nx (upd H5 D (.dK (putK kvs k z))) else Nx H3) := by
  refine ⟨fun i m H => m = n - i ∧ i ≤ n ∧ Pv i H, ⟨n, rfl, Nat.zero_le _, h0⟩, ?_⟩
  rintro i m H ⟨rfl, hi, pp⟩
  have qq := hl i H hi pp
  rcases Nat.lt_or_ge i n with hlt | hge
  · refine .inr ⟨wk.1 i H hlt qq, Pv (i + 1), fun H' pn => ⟨n - (i + 1), by omega, rfl, hlt, pn⟩, fun x H' yy => ?_⟩
    exact hs i x H H' hlt pp (wk.3 i H x H' hlt qq yy)
  · obtain rfl : i = n := by omega
    exact .inl ⟨wk.2 H qq, hd H pp⟩
section
variable {P : Program} {w : World} {K : PySem.W.Frag} {mg : Str → Option Value} {base : Heap} {T : List (Addr × Str)}
variable {fW fV fY fN fS fA : Addr} {dW dV dY dN dS dA : FuncData}
theorem never_why {vs : List V} {H : Hp} {Q : V → Hp → Prop} {E : _} (h : spWhy 0 vs H Q E) : False := by
  obtain ⟨dd, wd, la, n, es, d, k, ys, r, v, x, rfl, _, _, _, ⟨e, _, _, _, hlt⟩, _⟩ := h
  omega
def spWhyHolds (T : List (Addr × Str)) : Sp := fun vs H Q _ => ∃ (b fk t : Addr) (n : Nat) (age : Int) (zs : List (Addr × En)) (e : En) (d k : Int) (v : V) (x : Dat), vs = [.ref b, .int e.num, .int d, .int k, v] ∧ BookAt H b fk t n age zs ∧ Tabs T H ∧ e ∈ ens zs ∧ e.isDeed = true ∧ (0 ≤ d ∧ d ≤ 9999) ∧ (0 ≤ k ∧ k ≤ 9999) ∧ Da H v x ∧ Fine 31 x ∧
  ∀ (ys : List En) (H' : Hp), ExtN H H' → Tabs T H' → Oa n (ens zs) d k ys → Q (.bl (whyH (ens zs) ys d k e.num x)) H'
end
end Deed

namespace Deed
open PySem PySem.Spec PyProof.Rows L2 LamX
/-- what a thing is as a paper of an act that may be open -/
def actH (d k : Int) (ys : List En) (e : En) (x : Dat) : Bool := isOpen d k e && (hold ys true e x || hold ys false e x)
theorem Oa.open_iff {n : Nat} {es : List En} {d k : Int} {ys : List En} (h : Oa n es d k ys) {e : En} (he : e ∈ es) (ha : e.isDeed = false) : e.num ∈ ys.map (·.num) ↔ isOpen d k e = true := by
  constructor
  · intro hm
    obtain ⟨u, hu, hun⟩ := List.mem_map.mp hm
    have := num_inj h.bk (h.mem u hu).1 he hun
    subst this
    exact (h.mem u hu).2.2
  · exact fun ho => List.mem_map.mpr ⟨e, h.all e he ha ho, rfl⟩
section
variable {P : Program} {w : World} {K : PySem.W.Frag} {mg : Str → Option Value} {base : Heap} {T : List (Addr × Str)}
def spActHolds (T : List (Addr × Str)) : Sp := fun vs H Q _ => ∃ (b fk t : Addr) (n : Nat) (age : Int) (zs : List (Addr × En)) (e : En) (d k : Int) (v : V) (x : Dat), vs = [.ref b, .int e.num, .int d, .int k, v] ∧ BookAt H b fk t n age zs ∧ Tabs T H ∧ e ∈ ens zs ∧ e.isDeed = false ∧ (0 ≤ d ∧ d ≤ 9999) ∧ (0 ≤ k ∧ k ≤ 9999) ∧ Da H v x ∧ Fine 31 x ∧
  ∀ (ys : List En) (H' : Hp), ExtN H H' → Tabs T H' → Oa n (ens zs) d k ys → Q (.bl (actH d k ys e x)) H'
end
end Deed

namespace Deed
open PySem PySem.Spec PyProof.Rows L2 LamX
/-- an own class of refusals over ValueError, made with a text -/
structure ExcCl (K : PySem.W.Frag) (mg : Str → Option Value) (x : Str) (C : Addr) : Prop where
  xP : PySem.W.excIn K C [.type "ValueError", .type "Exception", .type "BaseException", .type "object"] "ValueError.__new__" = true
  gP : mg x = some (.ref C)
  kP : PySem.W.keepIn K (.ref C) = true
  bP : PySem.W.subIn K (.ref C) (.type "BaseException") = some true
  tP : PySem.W.typeIn K (.ref C) = some (.type "type")
  eP : PySem.W.exmOne K (.ref C) (.ref C) = some true
section
variable {P : Program} {w : World} {K : PySem.W.Frag} {mg : Str → Option Value} {base : Heap} {T : List (Addr × Str)}
def spActPaper (C : Addr) (T : List (Addr × Str)) : Sp := fun vs H Q E => ∃ (b fk t : Addr) (n : Nat) (age : Int) (zs : List (Addr × En)) (e : En) (d k : Int), vs = [.ref b, .int e.num, .int d, .int k] ∧ BookAt H b fk t n age zs ∧ Tabs T H ∧ e ∈ ens zs ∧ e.isDeed = false ∧ (0 ≤ d ∧ d ≤ 9999) ∧ (0 ≤ k ∧ k ≤ 9999) ∧
  ∀ (ys : List En) (H' : Hp), ExtN H H' → Tabs T H' → Oa n (ens zs) d k ys → (isOpen d k e = false → E (.ref C) none H') ∧ (isOpen d k e = true → ∀ a, Da H' (.ref a) (pap ys e) → Q (.ref a) H')
end
end Deed

namespace Deed
open PySem PySem.Spec PyProof.Rows L2 LamX
section
variable {P : Program} {w : World} {K : PySem.W.Frag} {mg : Str → Option Value} {base : Heap} {T : List (Addr × Str)}
abbrev pLPaper : List Str := ["_law_book_here", "_law_act", "_law_d", "_law_k"]
def spLPaper (T : List (Addr × Str)) : Sp := fun vs H Q _ => ∃ (b fk t : Addr) (n : Nat) (age : Int) (zs : List (Addr × En)) (e : En) (d k : Int), vs = [.ref b, .int e.num, .int d, .int k] ∧ BookAt H b fk t n age zs ∧ Tabs T H ∧ e ∈ ens zs ∧ e.isDeed = false ∧ (0 ≤ d ∧ d ≤ 9999) ∧ (0 ≤ k ∧ k ≤ 9999) ∧
  ∀ (ys : List En) (H' : Hp), ExtN H H' → Tabs T H' → Oa n (ens zs) d k ys → (isOpen d k e = false → Q .non H') ∧ (isOpen d k e = true → ∀ a, Da H' (.ref a) (pap ys e) → Q (.ref a) H')
end
end Deed

namespace Deed
open PySem PySem.Spec PyProof.Rows L2 LamX
/-- of a number: whether its entry is so -/
def pI (φ : En → Bool) (es : List En) (y : Int) : Bool := es.any fun u => decide (u.num = y) && φ u
theorem pI_at {n : Nat} {es : List En} (hB : BkOk n es) (φ : En → Bool) {u : En} (hu : u ∈ es) : pI φ es u.num = φ u := by
  unfold pI
  cases h : φ u with
  | true => exact List.any_eq_true.mpr ⟨u, hu, by rw [h, decide_eq_true rfl]; rfl⟩
  | false =>
    rw [List.any_eq_false]
    intro v hv
    by_cases hn : v.num = u.num
    · rw [num_inj hB hv hu hn, h]
      simp
    · simp [hn]
/-- open ones of a number, by words -/
def openOf (ys : List En) (ws : List Str) (m : Int) : List En := ys.filter (onAny ws m)
theorem sel_eq {n : Nat} {es ys : List En} (hB : BkOk n es) {ws : List Str} {m : Int} {ns : List Int} (pm : ns.Perm ((es.filter (onAny ws m)).map (·.num))) (up : ns.Pairwise (· ≤ ·)) (φ : En → Bool) (hu : ys.Pairwise (fun a b => a.num < b.num)) (hm : ∀ u, u ∈ ys ↔ u ∈ es ∧ onAny ws m u = true ∧ φ u = true) : ns.filter (pI φ es) = ys.map (·.num) := by
  have hnn : ns.Nodup := by
    rw [pm.nodup_iff]
    exact (List.filter_sublist.map _).nodup hB.nd
  refine rising_one ((rising_of hnn up).sublist List.filter_sublist) ?_ fun x => ?_
  · rw [List.pairwise_map]
    exact hu
  · rw [List.mem_filter, pm.mem_iff, List.mem_map, List.mem_map]
    constructor
    · rintro ⟨⟨u, h1, rfl⟩, h2⟩
      obtain ⟨h3, h4⟩ := List.mem_filter.mp h1
      rw [pI_at hB φ h3] at h2
      exact ⟨u, (hm u).mpr ⟨h3, h4, h2⟩, rfl⟩
    · rintro ⟨u, h1, rfl⟩
      obtain ⟨h3, h4, h5⟩ := (hm u).mp h1
      exact ⟨⟨u, List.mem_filter.mpr ⟨h3, h4⟩, rfl⟩, by rw [pI_at hB φ h3]; exact h5⟩
theorem on_act {ws : List Str} (hws : ("deed" : Str) ∉ ws) {m : Int} {u : En} (h : onAny ws m u = true) : u.isDeed = false := by
  unfold onAny at h
  rw [Bool.and_eq_true] at h
  have h1 := of_decide_eq_true h.1
  cases hd : u.isDeed with
  | false => rfl
  | true =>
    unfold En.isDeed at hd
    unfold En.word at h1
    cases hk : u.kd with
    | deed g t r w =>
      rw [hk] at h1
      exact absurd h1 hws
    | act x o =>
      rw [hk] at hd
      cases hd
section
variable {P : Program} {w : World} {K : PySem.W.Frag} {mg : Str → Option Value} {base : Heap} {T : List (Addr × Str)}
abbrev sLOpenOf : Stmt := topS 57
abbrev nLOpenOf : List Str := ["_law_entries_here", "_law_number", "_law_words_here", "_law_d", "_law_k", "_law_one"]
abbrev pLOpenOf : List Str := ["_law_entries_here", "_law_number", "_law_words_here", "_law_d", "_law_k"]
theorem scLOpenOf : FnScope nLOpenOf pLOpenOf (defScope sLOpenOf) := ⟨rfl, rfl, rfl, by decide +kernel, rfl, by decide +kernel, by decide +kernel⟩
def spLOpenOf : Sp := fun vs H Q _ => ∃ (ed wa : Addr) (m d k : Int) (ws : List Str) (n : Nat) (zs : List (Addr × En)) (ys : List En), vs = [.ref ed, .int m, .ref wa, .int d, .int k] ∧ EdAt H ed n zs ∧ H wa = some (.tup (ws.map V.str)) ∧ ("deed" : Str) ∉ ws ∧ Oa n (ens zs) d k ys ∧
  ∀ p H', Same H H' → H p = none → H' p = some (.lst (((openOf ys ws m).map (·.num)).map V.int)) → Q (.ref p) H'
theorem ok_LOpenOf {f : Addr} {fd : FuncData} {k : Nat} (F : Fun K "_law_open_of" "_law_open_of" sLOpenOf f fd) (C__law_of : CallOk P w K mg base k "_law_of" pOf spOf) (C__law_open : CallOk P w K mg base k "_law_open" nOpen spOpen) : FnOk P w K mg base CX0 (k + 1) f fd pLOpenOf spLOpenOf := by
  refine F.ok scLOpenOf (fun vs H Q E h => ?_) (fun cdv A outer s H vs Q E hr h => ?_)
  · obtain ⟨ed, wa, m, d, k, ws, n, zs, ys, rfl, _⟩ := h
    rfl
  · obtain ⟨ed, wa, m, d, kk, ws, n, zs, ys, rfl, hE, hW, hws, hO, q⟩ := h
    have nd := scLOpenOf.nd
    have hu := hu_of hr
    refine ⟨_, pss_one (ps_ret (pe_lc (own := [("_law_one", 5)]) (g := gName 5) (by rfl) nd (pi_list (pe_call C__law_of.ok hr (by rfl) C__law_of.g C__law_of.kp C__law_of.b .nil pass0 (pa_cons (pv 0) (pa_cons (pv 1) (pa_cons (pv 2) pa_nil))))) (blkOk_by (own := [("_law_one", 5)]) (N := nLOpenOf) (sc := defScope sLOpenOf) (by decide +kernel)) (fun _ _ _ _ _ => (pg_name (i := 5) nd rfl (.inl rfl))) (fun _ _ _ _ _ => (pts_one (pt_val (pe_call C__law_open.ok hr (by rfl) C__law_open.g C__law_open.kp C__law_open.b .nil pass0 (pa_cons (pe_dget hu (pv 0) (pv 5) (fun _ _ => rfl)) (pa_cons (pv 3) (pa_cons (pv 4) pa_nil)))))))
          (fun _ _ _ _ _ => (pv 5)))), ?_⟩
    refine ⟨_, rfl, _, rfl, _, rfl, ed, wa, m, ws, n, zs, rfl, hE, hW, hws, fun p ns H1 s1 np ep pm up => ?_⟩
    have hlen : ns.length ≤ 1000 := by
      rw [pm.length_eq, List.length_map]
      have a1 := List.length_filter_le (onAny ws m) (ens zs)
      rw [List.length_map] at a1
      have a2 := hE.len
      omega
    refine ⟨p, rfl, ⟨_, SqL.of ep⟩, fun M1 nM1 => ?_⟩
    refine lc_sameV (walk_list (xs := ns.map V.int)) ns (pI (isOpen d kk) (ens zs)) V.int (by rw [List.length_map]) hlen nM1 (fun H s => SqL.of (s _ _ ep)) ?_ ?_
    · rintro i y x H3 H4 hy s3 ⟨rfl, hx⟩ Q1 Q0 q1 q0
      rw [List.getElem?_map, hy] at hx
      injection hx with hx
      subst hx
      obtain ⟨u, hu1, rfl⟩ := List.mem_map.mp (pm.mem_iff.mp (List.mem_of_getElem? hy))
      have hu2 := (List.mem_filter.mp hu1).1
      obtain ⟨z, hz, rfl⟩ := List.mem_map.mp hu2
      have hE3 := (hE.same s1).same s3
      rw [pI_at hE.ok (isOpen d kk) hu2] at q1 q0
      refine ⟨rfl, _, rfl, _, rfl, ed, _, rfl, hE3.get hz, _, rfl, _, rfl, z.1, z.2, d, kk, rfl, hE3.ent z hz, _, rfl, ?_⟩
      refine ite2 (fun c => ?_) (fun c => ?_)
      · exact ⟨_, rfl, q1 c _ (same_refl _)⟩
      · exact q0 (Bool.eq_false_iff.mpr c) _ (same_refl _)
    intro H2 s2 eM
    rw [sel_eq (ys := openOf ys ws m) hE.ok pm up (isOpen d kk) (hO.up.sublist List.filter_sublist) (fun u => ?_)] at eM
    · exact q M1 H2 (s1.trans s2) (none_back s1 nM1) eM
    · unfold openOf
      rw [List.mem_filter]
      constructor
      · rintro ⟨h1, h2⟩
        exact ⟨(hO.mem u h1).1, h2, (hO.mem u h1).2.2⟩
      · rintro ⟨h1, h2, h3⟩
        exact ⟨hO.all u h1 (on_act hws h2) h3, h2⟩
abbrev sLForced : Stmt := topS 58
abbrev nLForced : List Str := ["_law_entries_here", "_law_number", "_law_words_here", "_law_d", "_law_k", "_law_one"]
abbrev pLForced : List Str := ["_law_entries_here", "_law_number", "_law_words_here", "_law_d", "_law_k"]
theorem scLForced : FnScope nLForced pLForced (defScope sLForced) := ⟨rfl, rfl, rfl, by decide +kernel, rfl, by decide +kernel, by decide +kernel⟩
def spLForced : Sp := fun vs H Q _ => ∃ (ed wa : Addr) (m d k : Int) (ws : List Str) (n : Nat) (zs : List (Addr × En)) (ys : List En), vs = [.ref ed, .int m, .ref wa, .int d, .int k] ∧ EdAt H ed n zs ∧ H wa = some (.tup (ws.map V.str)) ∧ ("deed" : Str) ∉ ws ∧ Oa n (ens zs) d k ys ∧
  ∀ p H', Same H H' → H p = none → H' p = some (.lst ((((openOf ys ws m).filter (frc (ens zs) d k)).map (·.num)).map V.int)) → Q (.ref p) H'
theorem ok_LForced {f : Addr} {fd : FuncData} {k : Nat} (F : Fun K "_law_forced" "_law_forced" sLForced f fd) (C__law_of : CallOk P w K mg base k "_law_of" pOf spOf) (C__law_force : CallOk P w K mg base k "_law_force" pForce (spForce 31)) : FnOk P w K mg base CX0 (k + 1) f fd pLForced spLForced := by
  refine F.ok scLForced (fun vs H Q E h => ?_) (fun cdv A outer s H vs Q E hr h => ?_)
  · obtain ⟨ed, wa, m, d, k, ws, n, zs, ys, rfl, _⟩ := h
    rfl
  · obtain ⟨ed, wa, m, d, kk, ws, n, zs, ys, rfl, hE, hW, hws, hO, q⟩ := h
    have nd := scLForced.nd
    have hu := hu_of hr
    refine ⟨_, pss_one (ps_ret (pe_lc (own := [("_law_one", 5)]) (g := gName 5) (by rfl) nd (pi_list (pe_call C__law_of.ok hr (by rfl) C__law_of.g C__law_of.kp C__law_of.b .nil pass0 (pa_cons (pv 0) (pa_cons (pv 1) (pa_cons (pv 2) pa_nil))))) (blkOk_by (own := [("_law_one", 5)]) (N := nLForced) (sc := defScope sLForced) (by decide +kernel)) (fun _ _ _ _ _ => (pg_name (i := 5) nd rfl (.inl rfl))) (fun _ _ _ _ _ => (pts_one (pt_val (pe_call C__law_force.ok hr (by rfl) C__law_force.g C__law_force.kp C__law_force.b .nil pass0 (pa_cons (pv 0) (pa_cons (pv 5) (pa_cons (pv 3) (pa_cons (pv 4) pa_nil))))))))
          (fun _ _ _ _ _ => (pv 5)))), ?_⟩
    refine ⟨_, rfl, _, rfl, _, rfl, ed, wa, m, ws, n, zs, rfl, hE, hW, hws, fun p ns H1 s1 np ep pm up => ?_⟩
    have hlen : ns.length ≤ 1000 := by
      rw [pm.length_eq, List.length_map]
      have a1 := List.length_filter_le (onAny ws m) (ens zs)
      rw [List.length_map] at a1
      have a2 := hE.len
      omega
    refine ⟨p, rfl, ⟨_, SqL.of ep⟩, fun M1 nM1 => ?_⟩
    refine lc_sameV (walk_list (xs := ns.map V.int)) ns (pI (frc (ens zs) d kk) (ens zs)) V.int (by rw [List.length_map]) hlen nM1 (fun H s => SqL.of (s _ _ ep)) ?_ ?_
    · rintro i y x H3 H4 hy s3 ⟨rfl, hx⟩ Q1 Q0 q1 q0
      rw [List.getElem?_map, hy] at hx
      injection hx with hx
      subst hx
      obtain ⟨u, hu1, rfl⟩ := List.mem_map.mp (pm.mem_iff.mp (List.mem_of_getElem? hy))
      have hu2 := (List.mem_filter.mp hu1).1
      have ru := hE.ok.rng u hu2
      rw [pI_at hE.ok (frc (ens zs) d kk) hu2] at q1 q0
      refine ⟨rfl, _, rfl, _, rfl, _, rfl, _, rfl, ed, u, d, kk, n, zs, rfl, (hE.same s1).same s3, hu2, by omega, fun H5 s5 => ⟨_, rfl, ?_⟩⟩
      refine ite2 (fun c => ?_) (fun c => ?_)
      · exact ⟨_, rfl, q1 c _ s5⟩
      · exact q0 (Bool.eq_false_iff.mpr c) _ s5
    intro H2 s2 eM
    rw [sel_eq (ys := (openOf ys ws m).filter (frc (ens zs) d kk)) hE.ok pm up (frc (ens zs) d kk) ((hO.up.sublist List.filter_sublist).sublist List.filter_sublist) (fun u => ?_)] at eM
    · exact q M1 H2 (s1.trans s2) (none_back s1 nM1) eM
    · unfold openOf
      rw [List.mem_filter, List.mem_filter]
      constructor
      · rintro ⟨⟨h1, h2⟩, h3⟩
        exact ⟨(hO.mem u h1).1, h2, h3⟩
      · rintro ⟨h1, h2, h3⟩
        exact ⟨⟨hO.all u h1 (on_act hws h2) (frc_open hE.ok h1 h3), h2⟩, h3⟩
end
end Deed

namespace Deed
open PySem PySem.Spec PyProof.Rows L2 LamX
theorem openOf_one (ys : List En) (x : Str) (m : Int) : openOf ys [x] m = ys.filter (isOn x m) := by
  unfold openOf
  refine List.filter_congr fun u _ => ?_
  unfold onAny isOn
  simp
theorem yes_filt2 {n : Nat} {es : List En} {d k : Int} {ys : List En} (h : Oa n es d k ys) {us : List En} (hs : ∀ u ∈ us, u ∈ ys) : (us.map (pap ys)).filter isYesD = (us.filter (frc es d k)).map (pap ys) := by
  rw [List.filter_map]
  congr 1
  exact List.filter_congr fun u hu => pap_yes h (hs u hu)
theorem frc_none {n : Nat} {es : List En} {d k : Int} {ys : List En} (h : Oa n es d k ys) {e : En} (he : e ∈ ys) : frc es d k e = ((ys.filter (isOn "undone" e.num)).filter (frc es d k)).isEmpty := by
  rw [← pap_yes h he, pap_eq h he, yes_papO, yes_filt2 h fun u hu => (List.mem_filter.mp hu).1]
  cases (ys.filter (isOn "undone" e.num)).filter (frc es d k) <;> rfl
theorem pap_is_yes {n : Nat} {es : List En} {d k : Int} {ys : List En} (h : Oa n es d k ys) {e : En} (he : e ∈ ys) (hf : frc es d k e = true) : pap ys e = .tup [.str "yes", .int e.num, .tup ((ys.filter (isOn "undone" e.num)).map (pap ys))] := by
  rw [pap_eq h he]
  rw [frc_none h he] at hf
  unfold papO
  rw [yes_filt2 h fun u hu => (List.mem_filter.mp hu).1, List.isEmpty_iff.mp hf]
  rfl
theorem pap_is_no {n : Nat} {es : List En} {d k : Int} {ys : List En} (h : Oa n es d k ys) {e u : En} {r : List En} (he : e ∈ ys) (hf : (ys.filter (isOn "undone" e.num)).filter (frc es d k) = u :: r) : pap ys e = .tup [.str "no", .int e.num, pap ys u] := by
  rw [pap_eq h he]
  unfold papO
  rw [yes_filt2 h fun u hu => (List.mem_filter.mp hu).1, hf]
  rfl
section
variable {P : Program} {w : World} {K : PySem.W.Frag} {mg : Str → Option Value} {base : Heap} {T : List (Addr × Str)}
def spLIs (b : Bool) (f : Nat) : Sp := fun vs H Q _ => ∃ (ed : Addr) (d k : Int) (n : Nat) (zs : List (Addr × En)) (ys : List En) (e : En), vs = [.ref ed, .int e.num, .int d, .int k] ∧ EdAt H ed n zs ∧ Oa n (ens zs) d k ys ∧ e ∈ ys ∧ frc (ens zs) d k e = b ∧ tillN f e ∧ ∀ t H', Same H H' → Da H' (.ref t) (pap ys e) → Q (.ref t) H'
abbrev sLNo : Stmt := topS 60
abbrev nLNo : List Str := ["_law_entries_here", "_law_act", "_law_d", "_law_k"]
abbrev pLNo : List Str := ["_law_entries_here", "_law_act", "_law_d", "_law_k"]
theorem scLNo : FnScope nLNo pLNo (defScope sLNo) := ⟨rfl, rfl, rfl, by decide +kernel, rfl, by decide +kernel, by decide +kernel⟩
abbrev sLYes : Stmt := topS 59
abbrev nLYes : List Str := ["_law_entries_here", "_law_act", "_law_d", "_law_k", "_law_some", "_law_one"]
abbrev pLYes : List Str := ["_law_entries_here", "_law_act", "_law_d", "_law_k"]
theorem scLYes : FnScope nLYes pLYes (defScope sLYes) := ⟨rfl, rfl, rfl, by decide +kernel, rfl, by decide +kernel, by decide +kernel⟩
theorem ok_LNo {f : Addr} {fd : FuncData} {k m : Nat} (F : Fun K "_law_no" "_law_no" sLNo f fd) (C__law_forced : CallOk P w K mg base k "_law_forced" ["_law_entries_here", "_law_number", "_law_words_here", "_law_d", "_law_k"] spLForced) (C__law_yes : CallOk P w K mg base k "_law_yes" pLYes (spLIs true m)) : FnOk P w K mg base CX0 (k + 1) f fd pLNo (spLIs false (m + 1)) := by
  refine F.ok scLNo (fun vs H Q E h => ?_) (fun cdv A outer s H vs Q E hr h => ?_)
  · obtain ⟨ed, d, k, n, zs, ys, e, rfl, _⟩ := h
    rfl
  · obtain ⟨ed, d, kk, n, zs, ys, e, rfl, hE, hO, he, hfr, ht, q⟩ := h
    have nd := scLNo.nd
    have hu := hu_of hr
    have hfr' := hfr
    rw [frc_none hO he] at hfr'
    refine ⟨_, pss_one (ps_ret (pe_tup (pa_cons pe_str (pa_cons (pv 1) (pa_cons (pe_call C__law_yes.ok hr (by rfl) C__law_yes.g C__law_yes.kp C__law_yes.b .nil pass0 (pa_cons (pv 0) (pa_cons (pe_ix ix_list (pe_call C__law_forced.ok hr (by rfl) C__law_forced.g C__law_forced.kp C__law_forced.b .nil pass0 (pa_cons (pv 0) (pa_cons (pv 1) (pa_cons (pe_tup (pa_cons pe_str pa_nil)) (pa_cons (pv 2) (pa_cons (pv 3) pa_nil)))))) pe_int (fun _ _ => rfl)) (pa_cons (pv 2) (pa_cons (pv 3) pa_nil))))) pa_nil))))), ?_⟩
    refine ⟨_, rfl, _, rfl, _, rfl, _, rfl, (by show 1 ≤ sizeLine; decide), fun t1 nt1 => ?_⟩
    have s1 := same_new nt1 (.tup [.str "undone"])
    have e1 : (upd H t1 (.tup [.str "undone"])) t1 = some (.tup [.str "undone"]) := upd_same
    generalize upd H t1 (.tup [.str "undone"]) = H1 at s1 e1
    refine ⟨_, rfl, _, rfl, ed, t1, e.num, d, kk, ["undone"], n, zs, ys, rfl, hE.same s1, e1, by decide, hO, fun p H2 s2 np ep => ?_⟩
    rw [openOf_one] at ep
    cases hc : (ys.filter (isOn "undone" e.num)).filter (frc (ens zs) d kk) with
    | nil => rw [hc] at hfr'; cases hfr'
    | cons u r =>
      rw [hc] at ep
      have hm : u ∈ (ys.filter (isOn "undone" e.num)).filter (frc (ens zs) d kk) := by rw [hc]; exact List.mem_cons_self
      obtain ⟨hm1, hm2⟩ := List.mem_filter.mp hm
      obtain ⟨hu1, hu2⟩ := undo_till hO ht u hm1
      refine ⟨p, _, _, _, rfl, rfl, SqL.of ep, (atI_nat (j := 0) rfl), _, rfl, _, rfl, ed, d, kk, n, zs, ys, u, rfl, (hE.same s1).same s2, hO, hu1, hm2, hu2, fun t3 H3 s3 hd3 => ?_⟩
      refine ⟨(by show 3 ≤ sizeLine; decide), fun t4 nt4 => ?_⟩
      have s4 := same_new nt4 (.tup [.str "no", .int e.num, .ref t3])
      refine q t4 _ (s1.trans (s2.trans (s3.trans s4))) ?_
      rw [pap_is_no hO he hc]
      exact .tup upd_same (.cons (.str _) (.cons (.int _) (.cons (hd3.ext (.of s4)) .nil)))
theorem ok_LYes {f : Addr} {fd : FuncData} {k m : Nat} (F : Fun K "_law_yes" "_law_yes" sLYes f fd) (C__law_open_of : CallOk P w K mg base k "_law_open_of" ["_law_entries_here", "_law_number", "_law_words_here", "_law_d", "_law_k"] spLOpenOf) (C__law_no : CallOk P w K mg base k "_law_no" pLNo (spLIs false m)) (m_tuple : mg "tuple" = none) : FnOk P w K mg base CX0 (k + 1) f fd pLYes (spLIs true (m + 1)) := by
  refine F.ok scLYes (fun vs H Q E h => ?_) (fun cdv A outer s H vs Q E hr h => ?_)
  · obtain ⟨ed, d, k, n, zs, ys, e, rfl, _⟩ := h
    rfl
  · obtain ⟨ed, d, kk, n, zs, ys, e, rfl, hE, hO, he, hfr, ht, q⟩ := h
    have nd := scLYes.nd
    have hu := hu_of hr
    have hfr' := hfr
    rw [frc_none hO he] at hfr'
    have hno : ∀ u ∈ ys.filter (isOn "undone" e.num), frc (ens zs) d kk u = false := fun u hu => by
      cases h : frc (ens zs) d kk u with
      | false => rfl
      | true =>
        have : u ∈ (ys.filter (isOn "undone" e.num)).filter (frc (ens zs) d kk) := List.mem_filter.mpr ⟨hu, h⟩
        rw [List.isEmpty_iff.mp hfr'] at this
        cases this
    have hyl : (ys.filter (isOn "undone" e.num)).length ≤ 1000 := by
      have h1 := List.length_filter_le (isOn "undone" e.num) ys
      have h2 := hO.len
      have h3 := hE.len
      rw [List.length_map] at h2
      omega
    refine ⟨_, pss_cons (ps_set (i := 4) nd rfl (.inl rfl) (pe_call C__law_open_of.ok hr (by rfl) C__law_open_of.g C__law_open_of.kp C__law_open_of.b .nil pass0 (pa_cons (pv 0) (pa_cons (pv 1) (pa_cons (pe_tup (pa_cons pe_str pa_nil)) (pa_cons (pv 2) (pa_cons (pv 3) pa_nil)))))))
      (pss_one (ps_ret (pe_tup (pa_cons pe_str (pa_cons (pv 1) (pa_cons (pe_callTy call_tuple_of (by rfl) m_tuple (by decide +kernel) (pa_cons (pe_lc (own := [("_law_one", 5)]) (g := gName 5) (by rfl) nd (pi_list (pv 4)) (blkOk_by (own := [("_law_one", 5)]) (N := nLYes) (sc := defScope sLYes) (by decide +kernel)) (fun _ _ _ _ _ => (pg_name (i := 5) nd rfl (.inl rfl))) (fun _ _ _ _ _ => pts_nil)
          (fun _ _ _ _ _ => (pe_call C__law_no.ok hr (by rfl) C__law_no.g C__law_no.kp C__law_no.b .nil pass0 (pa_cons (pv 0) (pa_cons (pv 5) (pa_cons (pv 2) (pa_cons (pv 3) pa_nil))))))) pa_nil)) pa_nil)))))), ?_⟩
    refine ⟨_, rfl, _, rfl, (by show 1 ≤ sizeLine; decide), fun t1 nt1 => ?_⟩
    have s1 := same_new nt1 (.tup [.str "undone"])
    have e1 : (upd H t1 (.tup [.str "undone"])) t1 = some (.tup [.str "undone"]) := upd_same
    generalize upd H t1 (.tup [.str "undone"]) = H1 at s1 e1
    refine ⟨_, rfl, _, rfl, ed, t1, e.num, d, kk, ["undone"], n, zs, ys, rfl, hE.same s1, e1, by decide, hO, fun p H2 s2 np ep => ?_⟩
    rw [openOf_one] at ep
    have s12 := s1.trans s2
    generalize hus : ys.filter (isOn "undone" e.num) = us at ep hno hyl
    refine ⟨_, rfl, _, rfl, p, rfl, ⟨_, SqL.of ep⟩, fun M2 nM2 => ?_⟩
    refine lc_daM (walk_list (xs := (us.map (·.num)).map V.int)) us (pap ys) (by rw [List.length_map, List.length_map]) hyl nM2 (fun H s => SqL.of (s _ _ ep)) ?_ ?_
    · rintro i y x H3 H4 hy s3 ⟨rfl, hx⟩ Q1 q1
      rw [List.getElem?_map, List.getElem?_map, hy] at hx
      injection hx with hx
      subst hx
      have hym := List.mem_of_getElem? hy
      obtain ⟨hu1, hu2⟩ := undo_till hO ht y (by rw [hus]; exact hym)
      exact ⟨rfl, _, rfl, _, rfl, _, rfl, _, rfl, ed, d, kk, n, zs, ys, y, rfl, hE.same (s12.trans s3), hO, hu1, hno y hym, hu2, fun t H5 s5 hd5 => q1 t H5 s5 hd5⟩
    intro H3 as s3 eM eas hz
    refine ⟨M2, _, rfl, .inl ⟨SqL.of eM, fun t3 nt3 => ?_⟩⟩
    have s4 := same_new nt3 (.tup (as.map fun z => V.ref z.1))
    have e4 : (upd H3 t3 (.tup (as.map fun z => V.ref z.1))) t3 = some (.tup (as.map fun z => V.ref z.1)) := upd_same
    generalize upd H3 t3 (.tup (as.map fun z => V.ref z.1)) = H4 at s4 e4
    refine ⟨(by show 3 ≤ sizeLine; decide), fun t5 nt5 => ?_⟩
    have s5 := same_new nt5 (.tup [.str "yes", .int e.num, .ref t3])
    refine q t5 _ (s12.trans (s3.trans (s4.trans s5))) ?_
    rw [pap_is_yes hO he hfr, hus]
    refine .tup upd_same (.cons (.str _) (.cons (.int _) (.cons ?_ .nil)))
    exact Da.ext (.of s5) (.tup e4 (as_all (fun z hzz => (hz z hzz).ext (.of s4)) eas))
variable {fY fN : Addr} {dY dN : FuncData}
theorem never_lis (b : Bool) {vs : List V} {H : Hp} {Q : V → Hp → Prop} {E : _} (h : spLIs b 0 vs H Q E) : False := by
  obtain ⟨ed, d, k, n, zs, ys, e, rfl, _, hO, he, _, ht, _⟩ := h
  have := hO.bk.rng e (hO.mem e he).1
  unfold tillN at ht
  omega
theorem lis_all {c : Nat} (DY : Df K mg "_law_yes" sLYes pLYes fY dY) (DN : Df K mg "_law_no" sLNo pLNo fN dN) (C__law_open_of : CallOk P w K mg base c "_law_open_of" ["_law_entries_here", "_law_number", "_law_words_here", "_law_d", "_law_k"] spLOpenOf) (C__law_forced : CallOk P w K mg base c "_law_forced" ["_law_entries_here", "_law_number", "_law_words_here", "_law_d", "_law_k"] spLForced) (m_tuple : mg "tuple" = none) :
    ∀ m : Nat, FnOk P w K mg base CX0 (m + c + 1) fY dY pLYes (spLIs true m) ∧ FnOk P w K mg base CX0 (m + c + 1) fN dN pLNo (spLIs false m)
  | 0 => ⟨DY.F.ok scLYes (fun _ _ _ _ h => (never_lis _ h).elim) (fun _ _ _ _ _ _ _ _ _ h => (never_lis _ h).elim), DN.F.ok scLNo (fun _ _ _ _ h => (never_lis _ h).elim) (fun _ _ _ _ _ _ _ _ _ h => (never_lis _ h).elim)⟩
  | m + 1 => by
    obtain ⟨hY, hN⟩ := lis_all DY DN C__law_open_of C__law_forced m_tuple m
    exact ⟨ok_LYes DY.F (C__law_open_of.mono (by omega)) ((DN.call hN).mono (by omega)) m_tuple, ok_LNo DN.F (C__law_forced.mono (by omega)) ((DY.call hY).mono (by omega))⟩
end
end Deed

namespace Deed
open PySem PySem.Spec PyProof.Rows L2 LamX
section
variable {P : Program} {w : World} {K : PySem.W.Frag} {mg : Str → Option Value} {base : Heap} {T : List (Addr × Str)}
def spLActDue : Sp := fun vs H Q _ => ∃ (ed : Addr) (d k : Int) (n : Nat) (zs : List (Addr × En)) (ys : List En) (e : En), vs = [.ref ed, .int e.num, .int d, .int k] ∧ EdAt H ed n zs ∧ Oa n (ens zs) d k ys ∧ e ∈ ens zs ∧ e.isDeed = false ∧
  (isOpen d k e = false → Q .non H) ∧ (isOpen d k e = true → ∀ t H', Same H H' → Da H' (.ref t) (pap ys e) → Q (.ref t) H')
end
end Deed

namespace Deed
open PySem PySem.Spec PyProof.Rows L2 LamX
theorem openOf_both (ys : List En) (e : En) : openOf ys ["void", "paid"] e.num = both ys e := by
  unfold openOf both
  refine List.filter_congr fun u _ => ?_
  unfold onAny isOn
  by_cases h1 : u.word = "void"
  · simp [h1]
  · by_cases h2 : u.word = "paid"
    · simp [h2]
    · simp [h1, h2]
theorem fy_at {n : Nat} {es : List En} {d k : Int} {ys : List En} (h : Oa n es d k ys) {us : List En} (hs : ∀ u ∈ us, u ∈ ys) {u : En} {r : List En} (e : us.filter (frc es d k) = u :: r) : fy ys us = pap ys u := by
  unfold fy
  rw [yes_filt2 h hs, e]
  rfl
theorem any_filter {us : List En} {p : En → Bool} (h : us.any p = true) : ∃ u r, us.filter p = u :: r := by
  cases hc : us.filter p with
  | cons u r => exact ⟨u, r, rfl⟩
  | nil =>
    obtain ⟨u, hu, hp⟩ := List.any_eq_true.mp h
    have : u ∈ us.filter p := List.mem_filter.mpr ⟨hu, hp⟩
    rw [hc] at this
    cases this
theorem rd_kp {H H' : Hp} {a : Addr} {u : HO} (h : Rd H a u) (e : ∀ o, H a = some o → (o = u ∨ ∃ x, o = .frz x u) → H' a = some o) : Rd H' a u := by
  rcases h with h | ⟨o, h⟩
  · exact .inl (e _ h (.inl rfl))
  · exact .inr ⟨o, e _ h (.inr ⟨o, rfl⟩)⟩
def WordR (H : Hp) (wd : Addr) (es : List En) (d k : Int) : Prop := ∃ zs ys : List (Addr × En), ens zs = es ∧ DeedsUp zs ys ∧ Rd H wd (.dK (wdE es d k (ens ys)))
theorem WordR.get {H : Hp} {wd : Addr} {es : List En} {d k : Int} (h : WordR H wd es d k) {u : En} (hu : u ∈ es) (hd : u.isDeed = true) : DGet H wd (.int u.num) (some (.str (st es d k u))) := by
  obtain ⟨zs, ys, rfl, hD, e⟩ := h
  obtain ⟨v, hv, rfl⟩ := List.mem_map.mp ((hD.2.1 u).mpr ⟨hu, hd⟩)
  have h4 : DGet H wd (kV (Sum.inl v.2.num)) (valV (wdE (ens zs) d k (ens ys)) (Sum.inl v.2.num)) := .inl ⟨_, Sum.inl v.2.num, e, rfl, rfl⟩
  have hnd := hD.nodup
  rw [show (ens ys).map (·.num) = ys.map (fun z => z.2.num) by simp [ens, List.map_map, Function.comp_def]] at hnd
  have hv1 := valV_map (f := fun z : Addr × En => z.2.num) (g := fun z : Addr × En => V.str (st (ens zs) d k z.2)) hnd hv
  rw [show wdE (ens zs) d k (ens ys) = ys.map (fun z : Addr × En => ((Sum.inl z.2.num : Key), V.str (st (ens zs) d k z.2))) by simp [wdE, ens, List.map_map, Function.comp_def], hv1] at h4
  exact h4
theorem WordR.ext {H H' : Hp} {wd : Addr} {es : List En} {d k : Int} (h : WordR H wd es d k) (s : Same H H') : WordR H' wd es d k := by
  obtain ⟨zs, ys, h1, h2, h3⟩ := h
  exact ⟨zs, ys, h1, h2, rd_kp h3 fun o e _ => s _ _ e⟩
theorem WordR.extN {H H' : Hp} {wd : Addr} {es : List En} {d k : Int} (h : WordR H wd es d k) (s : ExtN H H') : WordR H' wd es d k := by
  obtain ⟨zs, ys, h1, h2, h3⟩ := h
  refine ⟨zs, ys, h1, h2, rd_kp h3 fun o e c => s _ _ e fun _ z => ?_⟩
  rcases c with rfl | ⟨x, rfl⟩ <;> cases z
section
variable {P : Program} {w : World} {K : PySem.W.Frag} {mg : Str → Option Value} {base : Heap} {T : List (Addr × Str)}
abbrev sLWhy : Stmt := topS 61
abbrev nLWhy : List Str := ["_law_entries_here", "_law_words_here", "_law_deed_here", "_law_d", "_law_k", "_law_word", "_law_rests", "_law_lost", "_law_against", "_law_noes", "_law_whys", "_law_rest", "_law_one"]
abbrev pLWhy : List Str := ["_law_entries_here", "_law_words_here", "_law_deed_here", "_law_d", "_law_k"]
theorem scLWhy : FnScope nLWhy pLWhy (defScope sLWhy) := ⟨rfl, rfl, rfl, by decide +kernel, rfl, by decide +kernel, by decide +kernel⟩
def spLWhy (f : Nat) : Sp := fun vs H Q _ => ∃ (ed wd : Addr) (r d k : Int) (n : Nat) (zs : List (Addr × En)) (ys : List En), vs = [.ref ed, .ref wd, .int r, .int d, .int k] ∧ EdAt H ed n zs ∧ WordR H wd (ens zs) d k ∧ Oa n (ens zs) d k ys ∧ lessN (ens zs) f r ∧ ∀ t H', Same H H' → Da H' (.ref t) (why (ens zs) ys d k r) → Q (.ref t) H'
abbrev pSel : List Str := ["_law_entries_here", "_law_number", "_law_words_here", "_law_d", "_law_k"]
theorem ok_LWhy {f : Addr} {fd : FuncData} {k m : Nat} (F : Fun K "_law_why" "_law_why" sLWhy f fd) (C__law_forced : CallOk P w K mg base k "_law_forced" pSel spLForced) (C__law_open_of : CallOk P w K mg base k "_law_open_of" pSel spLOpenOf) (C__law_yes : CallOk P w K mg base k "_law_yes" ["_law_entries_here", "_law_act", "_law_d", "_law_k"] (spLIs true 31)) (C__law_no : CallOk P w K mg base k "_law_no" ["_law_entries_here", "_law_act", "_law_d", "_law_k"] (spLIs false 31)) (C__law_why : CallOk P w K mg base k "_law_why" pLWhy (spLWhy m)) (m_int : mg "int" = none) (m_tuple : mg "tuple" = none) : FnOk P w K mg base CX0 (k + 1) f fd pLWhy (spLWhy (m + 1)) := by
  refine F.ok scLWhy (fun vs H Q E h => ?_) (fun cdv A outer s H vs Q E hr h => ?_)
  · obtain ⟨ed, wd, r, d, k, n, zs, ys, rfl, _⟩ := h
    rfl
  · obtain ⟨ed, wd, r, d, kk, n, zs, ys, rfl, hE, hW, hO, ⟨e, he, hed, rfl, hlt⟩, q⟩ := h
    have nd := scLWhy.nd
    have hu := hu_of hr
    have hB := hO.bk
    have hyl : ys.length ≤ 16 := by
      have h2 := hO.len
      have h3 := hE.len
      rw [List.length_map] at h2
      omega
    have hsl : ∀ p : En → Bool, (ys.filter p).length ≤ 1000 := fun p => Nat.le_trans (List.length_filter_le p ys) (by omega)
    have hrl := rests_len hB he
    have hls : ∀ r ∈ e.rests, lessN (ens zs) m r := fun r hr => by
      obtain ⟨u, hu, hud, hun, hl⟩ := rest_deed hB he hr
      have := hB.rng u hu
      exact ⟨u, hu, hud, hun, by omega⟩
    have hsv : ∀ u ∈ voids ys e, u ∈ ys := fun u hu => (List.mem_filter.mp hu).1
    have hsp : ∀ u ∈ paids ys e, u ∈ ys := fun u hu => (List.mem_filter.mp hu).1
    obtain ⟨z, hz, rfl⟩ := List.mem_map.mp he
    refine ⟨_, pss_cons (ps_par (i := 5) (j := 6) (by rfl) nd rfl rfl (by decide) rfl rfl (pa_cons (pe_dget hu (pv 1) (pv 2) (fun _ _ => rfl)) (pa_cons (pe_ix ix_tup (pe_dget hu (pv 0) (pv 2) (fun _ _ => rfl)) pe_int (fun _ _ => rfl)) pa_nil)) (by rfl))
      (pss_cons (ps_if (pt_cmpR op_in_seq (pv 5) (pe_tup (pa_cons pe_str (pa_cons pe_str pa_nil))) (by rfl)) (pss_one (ps_ret (pe_tup (pa_cons (pv 5) (pa_cons (pv 2) pa_nil))))) pss_nil)
      (pss_cons (ps_if (pt_cmpR op_eq (pv 5) pe_str (nomark _)) (pss_one (ps_ret (pe_tup (pa_cons (pv 5) (pa_cons (pv 2) (pa_cons (pe_call C__law_yes.ok hr (by rfl) C__law_yes.g C__law_yes.kp C__law_yes.b .nil pass0 (pa_cons (pv 0) (pa_cons (pe_ix ix_list (pe_call C__law_forced.ok hr (by rfl) C__law_forced.g C__law_forced.kp C__law_forced.b .nil pass0 (pa_cons (pv 0) (pa_cons (pv 2) (pa_cons (pe_tup (pa_cons pe_str pa_nil)) (pa_cons (pv 3) (pa_cons (pv 4) pa_nil)))))) pe_int (fun _ _ => rfl)) (pa_cons (pv 3) (pa_cons (pv 4) pa_nil))))) pa_nil)))))) pss_nil)
      (pss_cons (ps_if (pt_cmpR op_eq (pv 5) pe_str (nomark _)) (pss_cons (ps_setLc (i := 7) (own := [("_law_rest", 11)]) (g := gName 11) (by rfl) nd rfl rfl (sw_true rfl rfl rfl (by decide +kernel)) (pi_tup (pv 6)) (blkOk_by (own := [("_law_rest", 11)]) (N := nLWhy) (sc := defScope sLWhy) (by decide +kernel)) (fun _ _ _ _ _ => (pg_name (i := 11) nd rfl (.inl rfl))) (fun _ _ _ _ _ => (pts_one (pt_cmpR (notIn_seqK (K := K) (by rfl)) (pe_dget hu (pv 1) (pv 11) (fun _ _ => rfl)) (pe_tup (pa_cons pe_str (pa_cons pe_str pa_nil))) (by rfl))))
          (fun _ _ _ _ _ => (pv 11)))
      (pss_one (ps_ret (pe_tup (pa_cons (pv 5) (pa_cons (pv 2) (pa_cons (pe_call C__law_why.ok hr (by rfl) C__law_why.g C__law_why.kp C__law_why.b .nil pass0 (pa_cons (pv 0) (pa_cons (pv 1) (pa_cons (pe_ix ix_list (pv 7) pe_int (fun _ _ => rfl)) (pa_cons (pv 3) (pa_cons (pv 4) pa_nil)))))) pa_nil))))))) pss_nil)
      (pss_cons (ps_set (i := 8) nd rfl (.inl rfl) (pe_ix ix_list (pe_lst (pa_cons (pe_tup (pa_cons pe_str pa_nil)) (pa_cons (pe_tup (pa_cons pe_str (pa_cons pe_str pa_nil))) pa_nil))) (pe_callTy call_int1 (by rfl) m_int (by decide +kernel) (pa_cons (pe_cmpR op_eq (pv 5) pe_str (nomark _)) pa_nil)) (fun _ _ => rfl)))
      (pss_cons (ps_set (i := 9) nd rfl (.inl rfl) (pe_callTy call_tuple_of (by rfl) m_tuple (by decide +kernel) (pa_cons (pe_lc (own := [("_law_one", 12)]) (g := gName 12) (by rfl) nd (pi_list (pe_call C__law_open_of.ok hr (by rfl) C__law_open_of.g C__law_open_of.kp C__law_open_of.b .nil pass0 (pa_cons (pv 0) (pa_cons (pv 2) (pa_cons (pv 8) (pa_cons (pv 3) (pa_cons (pv 4) pa_nil))))))) (blkOk_by (own := [("_law_one", 12)]) (N := nLWhy) (sc := defScope sLWhy) (by decide +kernel)) (fun _ _ _ _ _ => (pg_name (i := 12) nd rfl (.inl rfl))) (fun _ _ _ _ _ => pts_nil)
          (fun _ _ _ _ _ => (pe_call C__law_no.ok hr (by rfl) C__law_no.g C__law_no.kp C__law_no.b .nil pass0 (pa_cons (pv 0) (pa_cons (pv 12) (pa_cons (pv 3) (pa_cons (pv 4) pa_nil))))))) pa_nil)))
      (pss_cons (ps_set (i := 10) nd rfl (.inl rfl) (pe_callTy call_tuple_of (by rfl) m_tuple (by decide +kernel) (pa_cons (pe_lc (own := [("_law_rest", 11)]) (g := gName 11) (by rfl) nd (pi_tup (pv 6)) (blkOk_by (own := [("_law_rest", 11)]) (N := nLWhy) (sc := defScope sLWhy) (by decide +kernel)) (fun _ _ _ _ _ => (pg_name (i := 11) nd rfl (.inl rfl))) (fun _ _ _ _ _ => pts_nil)
          (fun _ _ _ _ _ => (pe_call C__law_why.ok hr (by rfl) C__law_why.g C__law_why.kp C__law_why.b .nil pass0 (pa_cons (pv 0) (pa_cons (pv 1) (pa_cons (pv 11) (pa_cons (pv 3) (pa_cons (pv 4) pa_nil)))))))) pa_nil)))
      (pss_cons (ps_if (pt_cmpR op_eq (pv 5) pe_str (nomark _)) (pss_one (ps_ret (pe_tup (pa_cons (pv 5) (pa_cons (pv 2) (pa_cons (pv 9) (pa_cons (pv 10) pa_nil))))))) pss_nil)
      (pss_one (ps_ret (pe_tup (pa_cons (pv 5) (pa_cons (pv 2) (pa_cons (pv 9) (pa_cons (pv 10) (pa_cons (pe_call C__law_yes.ok hr (by rfl) C__law_yes.g C__law_yes.kp C__law_yes.b .nil pass0 (pa_cons (pv 0) (pa_cons (pe_ix ix_list (pe_call C__law_forced.ok hr (by rfl) C__law_forced.g C__law_forced.kp C__law_forced.b .nil pass0 (pa_cons (pv 0) (pa_cons (pv 2) (pa_cons (pe_tup (pa_cons pe_str pa_nil)) (pa_cons (pv 3) (pa_cons (pv 4) pa_nil)))))) pe_int (fun _ _ => rfl)) (pa_cons (pv 3) (pa_cons (pv 4) pa_nil))))) pa_nil))))))))))))))), ?_⟩
    obtain ⟨xs2, ar, ex2, g7, er⟩ := (hE.ent z hz).seven hed
    refine ⟨_, rfl, _, rfl, wd, _, rfl, hW.get he hed, _, rfl, _, rfl, ed, _, rfl, hE.get hz, z.1, _, _, _, rfl, rfl, SqT.of ex2, g7, _, _, rfl, ?_⟩
    rw [why_eq hB ys d kk he hed] at q
    refine ⟨_, rfl, (by show 2 ≤ sizeLine; decide), fun t1 nt1 => ?_⟩
    have s1 := same_new nt1 (.tup [.str "unknown", .str "ahead"])
    have e1 : (upd H t1 (.tup [.str "unknown", .str "ahead"])) t1 = some (.tup [.str "unknown", .str "ahead"]) := upd_same
    generalize upd H t1 (.tup [.str "unknown", .str "ahead"]) = H1 at s1 e1
    refine ⟨t1, _, rfl, .inr (SqT.of e1), rfl, flat_strs ["unknown", "ahead"], _, rfl, ?_⟩
    rw [show inV (.str (st (ens zs) d kk z.2)) [.str "unknown", .str "ahead"] = decide (st (ens zs) d kk z.2 ∈ (["unknown", "ahead"] : List Str)) from mem_inS (ws := ["unknown", "ahead"])]
    have hE1 := hE.same s1
    rcases st_cases hB d kk he with ⟨h1, h2⟩ | ⟨h1, h2⟩ | ⟨h1, h2⟩ | ⟨h1, h2, h3⟩ | ⟨h1, h2, h3, h4⟩ | ⟨h1, h2, h3, h4⟩
    case' inl => skip
    case' inr.inl => skip
    case inr.inr.inl =>
      rw [h1] at q ⊢
      refine iteF ?_
      refine ⟨_, rfl, rfl, _, rfl, ?_⟩
      refine iteT ?_
      rw [hO.any (by decide)] at h2
      obtain ⟨u, rr, hc⟩ := any_filter h2
      refine ⟨_, rfl, _, rfl, _, rfl, _, rfl, _, rfl, (by show 1 ≤ sizeLine; decide), fun t3 nt3 => ?_⟩
      have s3 := same_new nt3 (.tup [.str "void"])
      have e3 : (upd H1 t3 (.tup [.str "void"])) t3 = some (.tup [.str "void"]) := upd_same
      generalize upd H1 t3 (.tup [.str "void"]) = H3 at s3 e3
      refine ⟨_, rfl, _, rfl, ed, t3, z.2.num, d, kk, ["void"], n, zs, ys, rfl, hE1.same s3, e3, by decide, hO, fun p H4 s4 np ep => ?_⟩
      rw [openOf_one, show ys.filter (isOn "void" z.2.num) = voids ys z.2 from rfl, hc] at ep
      obtain ⟨hm1, hm2⟩ := List.mem_filter.mp (show u ∈ (voids ys z.2).filter (frc (ens zs) d kk) by rw [hc]; exact List.mem_cons_self)
      refine ⟨p, _, _, _, rfl, rfl, SqL.of ep, (atI_nat (j := 0) rfl), _, rfl, _, rfl, ed, d, kk, n, zs, ys, u, rfl, (hE1.same s3).same s4, hO, hsv u hm1, hm2, (till31 hO (hsv u hm1)).2, fun t5 H5 s5 hd5 => ?_⟩
      refine ⟨(by show 3 ≤ sizeLine; decide), fun t6 nt6 => ?_⟩
      have s6 := same_new nt6 (.tup [.str "void", .int z.2.num, .ref t5])
      refine q t6 _ (s1.trans (s3.trans (s4.trans (s5.trans s6)))) ?_
      show Da _ _ (.tup [.str "void", .int z.2.num, fy ys (voids ys z.2)])
      rw [fy_at hO hsv hc]
      exact .tup upd_same (.cons (.str _) (.cons (.int _) (.cons (hd5.ext (.of s6)) .nil)))
    case inr.inr.inr.inl =>
      rw [h1] at q ⊢
      refine iteF ?_
      refine ⟨_, rfl, rfl, _, rfl, ?_⟩
      refine iteF ?_
      refine ⟨_, rfl, rfl, _, rfl, ?_⟩
      refine iteT ?_
      have er1 := s1 _ _ er
      refine ⟨_, rfl, ar, rfl, ⟨_, SqT.of er1⟩, fun M1 nM1 => ?_⟩
      refine lc_sameV (walk_tup (xs := z.2.rests.map V.int)) z.2.rests (restLost (ens zs) d kk) V.int (by rw [List.length_map]) hrl nM1 (fun H s => SqT.of (s _ _ er1)) ?_ ?_
      · rintro i y x1 H3 H4 hy s3 ⟨rfl, hx⟩ Q1 Q0 q1 q0
        rw [List.getElem?_map, hy] at hx
        injection hx with hx
        subst hx
        obtain ⟨u1, hu1, hud1, hun1, _⟩ := rest_deed hB he (List.mem_of_getElem? hy)
        have hg1 := (hW.ext (s1.trans s3)).get hu1 hud1
        rw [hun1] at hg1
        have hl5 : restLost (ens zs) d kk y = !carries (st (ens zs) d kk u1) := by rw [← hun1]; exact restLost_at hB d kk hu1 hud1
        refine ⟨rfl, _, rfl, _, rfl, wd, _, rfl, hg1, (by show 2 ≤ sizeLine; decide), fun t5 nt5 => ?_⟩
        have s5 := same_new nt5 (.tup [.str "stands", .str "paid"])
        refine ⟨t5, _, rfl, .inr (SqT.of upd_same), rfl, flat_strs ["stands", "paid"], _, rfl, ?_⟩
        have hin : inV (.str (st (ens zs) d kk u1)) [.str "stands", .str "paid"] = carries (st (ens zs) d kk u1) := mem_inS (ws := ["stands", "paid"])
        rw [hin]
        refine ite2 (fun c => ?_) (fun c => ?_)
        · exact ⟨_, rfl, q1 (by rw [hl5]; exact c) _ s5⟩
        · exact q0 (by rw [hl5]; simpa using c) _ s5
      intro H3 s3 eM
      cases hc : z.2.rests.filter (restLost (ens zs) d kk) with
      | nil =>
        exfalso
        obtain ⟨r, hr, hh⟩ := List.any_eq_true.mp h3
        have : r ∈ z.2.rests.filter (restLost (ens zs) d kk) := List.mem_filter.mpr ⟨hr, hh⟩
        rw [hc] at this
        cases this
      | cons r0 rr =>
        rw [hc] at eM
        have hm : r0 ∈ z.2.rests := (List.mem_filter.mp (show r0 ∈ z.2.rests.filter (restLost (ens zs) d kk) by rw [hc]; exact List.mem_cons_self)).1
        refine ⟨_, rfl, _, rfl, _, rfl, _, rfl, _, rfl, M1, _, _, _, rfl, rfl, SqL.of eM, (atI_nat (j := 0) rfl), _, rfl, _, rfl, ed, wd, r0, d, kk, n, zs, ys, rfl, hE1.same s3, hW.ext (s1.trans s3), hO, hls r0 hm, fun t5 H5 s5 hd5 => ?_⟩
        refine ⟨(by show 3 ≤ sizeLine; decide), fun t6 nt6 => ?_⟩
        have s6 := same_new nt6 (.tup [.str "fallen", .int z.2.num, .ref t5])
        refine q t6 _ (s1.trans (s3.trans (s5.trans s6))) ?_
        show Da _ _ (.tup [.str "fallen", .int z.2.num, ((z.2.rests.map (why (ens zs) ys d kk)).filter lostD).headD .non])
        rw [lost_filter hB ys d kk he, hc]
        exact .tup upd_same (.cons (.str _) (.cons (.int _) (.cons (hd5.ext (.of s6)) .nil)))
    case inr.inr.inr.inr.inl =>
      rw [h1] at q ⊢
      rw [hO.any (by decide)] at h2 h4
      obtain ⟨u, rr, hc⟩ := any_filter h4
      refine iteF ?_
      refine ⟨_, rfl, rfl, _, rfl, ?_⟩
      refine iteF ?_
      refine ⟨_, rfl, rfl, _, rfl, ?_⟩
      refine iteF ?_
      have hno : ∀ u ∈ voids ys z.2, frc (ens zs) d kk u = false := any_false h2
      refine ⟨(by show 1 ≤ sizeLine; decide), fun t8 nt8 => ?_⟩
      have s8 := same_new nt8 (.tup [.str "void"])
      have e8 : (upd H1 t8 (.tup [.str "void"])) t8 = some (.tup [.str "void"]) := upd_same
      generalize upd H1 t8 (.tup [.str "void"]) = H8 at s8 e8
      refine ⟨(by show 2 ≤ sizeLine; decide), fun t9 nt9 => ?_⟩
      have s9 := same_new nt9 (.tup [.str "void", .str "paid"])
      have e9 : (upd H8 t9 (.tup [.str "void", .str "paid"])) t9 = some (.tup [.str "void", .str "paid"]) := upd_same
      generalize upd H8 t9 (.tup [.str "void", .str "paid"]) = H9 at s9 e9
      refine ⟨(by show 2 ≤ sizeLine; decide), fun l10 nl10 => ?_⟩
      have s10 := same_new nl10 (.lst [.ref t8, .ref t9])
      have e10 : (upd H9 l10 (.lst [.ref t8, .ref t9])) l10 = some (.lst [.ref t8, .ref t9]) := upd_same
      generalize upd H9 l10 (.lst [.ref t8, .ref t9]) = H10 at s10 e10
      have e8b := s10 _ _ (s9 _ _ e8)
      have e9b := s10 _ _ e9
      have sA := s1.trans (s8.trans (s9.trans s10))
      refine ⟨_, rfl, rfl, .inr ⟨_, rfl, ?_⟩⟩
      refine ⟨l10, _, _, _, rfl, rfl, SqL.of e10, (atI_nat (j := 0) rfl), ?_⟩
      refine ⟨_, rfl, _, rfl, _, rfl, _, rfl, _, rfl, ed, t8, z.2.num, d, kk, ["void"], n, zs, ys, rfl, hE.same sA, e8b, by decide, hO, fun p H11 s11 np ep => ?_⟩
      rw [openOf_one, show ys.filter (isOn "void" z.2.num) = voids ys z.2 from rfl] at ep
      have sB := sA.trans s11
      refine ⟨p, rfl, ⟨_, SqL.of ep⟩, fun M11 nM11 => ?_⟩
      refine lc_daM (walk_list (xs := ((voids ys z.2).map (·.num)).map V.int)) (voids ys z.2) (pap ys) (by rw [List.length_map, List.length_map]) (hsl _) nM11 (fun H s => SqL.of (s _ _ ep)) ?_ ?_
      · rintro i y x H3 H4 hy s3 ⟨rfl, hx⟩ Q1 q1
        rw [List.getElem?_map, List.getElem?_map, hy] at hx
        injection hx with hx
        subst hx
        have hym := List.mem_of_getElem? hy
        exact ⟨rfl, _, rfl, _, rfl, _, rfl, _, rfl, ed, d, kk, n, zs, ys, y, rfl, hE.same (sB.trans s3), hO, (List.mem_filter.mp hym).1, hno y hym, (till31 hO (List.mem_filter.mp hym).1).2, fun t H5 s5 hd5 => q1 t H5 s5 hd5⟩
      intro H12 as s12 eM eas hz12
      refine ⟨M11, _, rfl, .inl ⟨SqL.of eM, fun t12 nt12 => ?_⟩⟩
      have s13 := same_new nt12 (.tup (as.map fun z => V.ref z.1))
      have e13 : (upd H12 t12 (.tup (as.map fun z => V.ref z.1))) t12 = some (.tup (as.map fun z => V.ref z.1)) := upd_same
      generalize upd H12 t12 (.tup (as.map fun z => V.ref z.1)) = H13 at s13 e13
      have hnos : Da H13 (.ref t12) (.tup ((voids ys z.2).map (pap ys))) := .tup e13 (as_all (fun z hz => (hz12 z hz).ext (.of s13)) eas)
      have sC := sB.trans (s12.trans s13)
      have er13 := sC _ _ er
      refine ⟨_, rfl, ar, rfl, ⟨_, SqT.of er13⟩, fun M13 nM13 => ?_⟩
      refine lc_daM (walk_tup (xs := z.2.rests.map V.int)) z.2.rests (why (ens zs) ys d kk) (by rw [List.length_map]) hrl nM13 (fun H s => SqT.of (s _ _ er13)) ?_ ?_
      · rintro i y x H3 H4 hy s3 ⟨rfl, hx⟩ Q1 q1
        rw [List.getElem?_map, hy] at hx
        injection hx with hx
        subst hx
        exact ⟨rfl, _, rfl, _, rfl, _, rfl, _, rfl, _, rfl, ed, wd, y, d, kk, n, zs, ys, rfl, hE.same (sC.trans s3), hW.ext (sC.trans s3), hO, hls y (List.mem_of_getElem? hy), fun t H5 s5 hd5 => q1 t H5 s5 hd5⟩
      intro H14 bs s14 eM14 ebs hz14
      refine ⟨M13, _, rfl, .inl ⟨SqL.of eM14, fun t14 nt14 => ?_⟩⟩
      have s15 := same_new nt14 (.tup (bs.map fun z => V.ref z.1))
      have e15 : (upd H14 t14 (.tup (bs.map fun z => V.ref z.1))) t14 = some (.tup (bs.map fun z => V.ref z.1)) := upd_same
      generalize upd H14 t14 (.tup (bs.map fun z => V.ref z.1)) = H15 at s15 e15
      have hbel : Da H15 (.ref t14) (.tup (z.2.rests.map (why (ens zs) ys d kk))) := .tup e15 (as_all (fun z hz => (hz14 z hz).ext (.of s15)) ebs)
      have hnos15 := hnos.ext (.of (s14.trans s15))
      have sD := sC.trans (s14.trans s15)
      refine ⟨_, rfl, rfl, _, rfl, ?_⟩
      refine iteF ?_
      refine ⟨_, rfl, _, rfl, _, rfl, _, rfl, _, rfl, _, rfl, _, rfl, (by show 1 ≤ sizeLine; decide), fun t16 nt16 => ?_⟩
      have s16 := same_new nt16 (.tup [.str "paid"])
      have e16 : (upd H15 t16 (.tup [.str "paid"])) t16 = some (.tup [.str "paid"]) := upd_same
      generalize upd H15 t16 (.tup [.str "paid"]) = H16 at s16 e16
      refine ⟨_, rfl, _, rfl, ed, t16, z.2.num, d, kk, ["paid"], n, zs, ys, rfl, hE.same (sD.trans s16), e16, by decide, hO, fun p2 H17 s17 np2 ep2 => ?_⟩
      rw [openOf_one, show ys.filter (isOn "paid" z.2.num) = paids ys z.2 from rfl, hc] at ep2
      obtain ⟨hm1, hm2⟩ := List.mem_filter.mp (show u ∈ (paids ys z.2).filter (frc (ens zs) d kk) by rw [hc]; exact List.mem_cons_self)
      refine ⟨p2, _, _, _, rfl, rfl, SqL.of ep2, (atI_nat (j := 0) rfl), _, rfl, _, rfl, ed, d, kk, n, zs, ys, u, rfl, hE.same (sD.trans (s16.trans s17)), hO, hsp u hm1, hm2, (till31 hO (hsp u hm1)).2, fun t18 H18 s18 hd18 => ?_⟩
      refine ⟨(by show 5 ≤ sizeLine; decide), fun t19 nt19 => ?_⟩
      have s19 := same_new nt19 (.tup [.str "paid", .int z.2.num, .ref t12, .ref t14, .ref t18])
      have sE := s16.trans (s17.trans (s18.trans s19))
      refine q t19 _ (sD.trans sE) ?_
      show Da _ _ (.tup [.str "paid", .int z.2.num, .tup ((voids ys z.2).map (pap ys)), .tup (z.2.rests.map (why (ens zs) ys d kk)), fy ys (paids ys z.2)])
      rw [fy_at hO hsp hc]
      exact .tup upd_same (.cons (.str _) (.cons (.int _) (.cons (hnos15.ext (.of sE)) (.cons (hbel.ext (.of sE)) (.cons (hd18.ext (.of s19)) .nil)))))
    case inr.inr.inr.inr.inr =>
      rw [h1] at q ⊢
      rw [hO.any (by decide)] at h2 h4
      have hno : ∀ u ∈ both ys z.2, frc (ens zs) d kk u = false := fun u hu => by
        obtain ⟨b1, b2⟩ := List.mem_filter.mp hu
        rw [Bool.or_eq_true] at b2
        rcases b2 with b2 | b2
        · exact any_false h2 u (List.mem_filter.mpr ⟨b1, b2⟩)
        · exact any_false h4 u (List.mem_filter.mpr ⟨b1, b2⟩)
      refine iteF ?_
      refine ⟨_, rfl, rfl, _, rfl, ?_⟩
      refine iteF ?_
      refine ⟨_, rfl, rfl, _, rfl, ?_⟩
      refine iteF ?_
      refine ⟨(by show 1 ≤ sizeLine; decide), fun t8 nt8 => ?_⟩
      have s8 := same_new nt8 (.tup [.str "void"])
      have e8 : (upd H1 t8 (.tup [.str "void"])) t8 = some (.tup [.str "void"]) := upd_same
      generalize upd H1 t8 (.tup [.str "void"]) = H8 at s8 e8
      refine ⟨(by show 2 ≤ sizeLine; decide), fun t9 nt9 => ?_⟩
      have s9 := same_new nt9 (.tup [.str "void", .str "paid"])
      have e9 : (upd H8 t9 (.tup [.str "void", .str "paid"])) t9 = some (.tup [.str "void", .str "paid"]) := upd_same
      generalize upd H8 t9 (.tup [.str "void", .str "paid"]) = H9 at s9 e9
      refine ⟨(by show 2 ≤ sizeLine; decide), fun l10 nl10 => ?_⟩
      have s10 := same_new nl10 (.lst [.ref t8, .ref t9])
      have e10 : (upd H9 l10 (.lst [.ref t8, .ref t9])) l10 = some (.lst [.ref t8, .ref t9]) := upd_same
      generalize upd H9 l10 (.lst [.ref t8, .ref t9]) = H10 at s10 e10
      have e8b := s10 _ _ (s9 _ _ e8)
      have e9b := s10 _ _ e9
      have sA := s1.trans (s8.trans (s9.trans s10))
      refine ⟨_, rfl, rfl, .inr ⟨_, rfl, ?_⟩⟩
      refine ⟨l10, _, _, _, rfl, rfl, SqL.of e10, (atI_nat (j := 1) rfl), ?_⟩
      refine ⟨_, rfl, _, rfl, _, rfl, _, rfl, _, rfl, ed, t9, z.2.num, d, kk, ["void", "paid"], n, zs, ys, rfl, hE.same sA, e9b, by decide, hO, fun p H11 s11 np ep => ?_⟩
      rw [openOf_both] at ep
      have sB := sA.trans s11
      refine ⟨p, rfl, ⟨_, SqL.of ep⟩, fun M11 nM11 => ?_⟩
      refine lc_daM (walk_list (xs := ((both ys z.2).map (·.num)).map V.int)) (both ys z.2) (pap ys) (by rw [List.length_map, List.length_map]) (hsl _) nM11 (fun H s => SqL.of (s _ _ ep)) ?_ ?_
      · rintro i y x H3 H4 hy s3 ⟨rfl, hx⟩ Q1 q1
        rw [List.getElem?_map, List.getElem?_map, hy] at hx
        injection hx with hx
        subst hx
        have hym := List.mem_of_getElem? hy
        exact ⟨rfl, _, rfl, _, rfl, _, rfl, _, rfl, ed, d, kk, n, zs, ys, y, rfl, hE.same (sB.trans s3), hO, (List.mem_filter.mp hym).1, hno y hym, (till31 hO (List.mem_filter.mp hym).1).2, fun t H5 s5 hd5 => q1 t H5 s5 hd5⟩
      intro H12 as s12 eM eas hz12
      refine ⟨M11, _, rfl, .inl ⟨SqL.of eM, fun t12 nt12 => ?_⟩⟩
      have s13 := same_new nt12 (.tup (as.map fun z => V.ref z.1))
      have e13 : (upd H12 t12 (.tup (as.map fun z => V.ref z.1))) t12 = some (.tup (as.map fun z => V.ref z.1)) := upd_same
      generalize upd H12 t12 (.tup (as.map fun z => V.ref z.1)) = H13 at s13 e13
      have hnos : Da H13 (.ref t12) (.tup ((both ys z.2).map (pap ys))) := .tup e13 (as_all (fun z hz => (hz12 z hz).ext (.of s13)) eas)
      have sC := sB.trans (s12.trans s13)
      have er13 := sC _ _ er
      refine ⟨_, rfl, ar, rfl, ⟨_, SqT.of er13⟩, fun M13 nM13 => ?_⟩
      refine lc_daM (walk_tup (xs := z.2.rests.map V.int)) z.2.rests (why (ens zs) ys d kk) (by rw [List.length_map]) hrl nM13 (fun H s => SqT.of (s _ _ er13)) ?_ ?_
      · rintro i y x H3 H4 hy s3 ⟨rfl, hx⟩ Q1 q1
        rw [List.getElem?_map, hy] at hx
        injection hx with hx
        subst hx
        exact ⟨rfl, _, rfl, _, rfl, _, rfl, _, rfl, _, rfl, ed, wd, y, d, kk, n, zs, ys, rfl, hE.same (sC.trans s3), hW.ext (sC.trans s3), hO, hls y (List.mem_of_getElem? hy), fun t H5 s5 hd5 => q1 t H5 s5 hd5⟩
      intro H14 bs s14 eM14 ebs hz14
      refine ⟨M13, _, rfl, .inl ⟨SqL.of eM14, fun t14 nt14 => ?_⟩⟩
      have s15 := same_new nt14 (.tup (bs.map fun z => V.ref z.1))
      have e15 : (upd H14 t14 (.tup (bs.map fun z => V.ref z.1))) t14 = some (.tup (bs.map fun z => V.ref z.1)) := upd_same
      generalize upd H14 t14 (.tup (bs.map fun z => V.ref z.1)) = H15 at s15 e15
      have hbel : Da H15 (.ref t14) (.tup (z.2.rests.map (why (ens zs) ys d kk))) := .tup e15 (as_all (fun z hz => (hz14 z hz).ext (.of s15)) ebs)
      have hnos15 := hnos.ext (.of (s14.trans s15))
      have sD := sC.trans (s14.trans s15)
      refine ⟨_, rfl, rfl, _, rfl, ?_⟩
      refine iteT ?_
      refine ⟨_, rfl, _, rfl, _, rfl, _, rfl, (by show 4 ≤ sizeLine; decide), fun t16 nt16 => ?_⟩
      have s16 := same_new nt16 (.tup [.str "stands", .int z.2.num, .ref t12, .ref t14])
      refine q t16 _ (sD.trans s16) ?_
      exact .tup upd_same (.cons (.str _) (.cons (.int _) (.cons (hnos15.ext (.of s16)) (.cons (hbel.ext (.of s16)) .nil))))
    all_goals
      rw [h1] at q ⊢
      refine iteT ?_
      refine ⟨_, rfl, _, rfl, (by show 2 ≤ sizeLine; decide), fun t2 nt2 => ?_⟩
      exact q t2 _ (s1.trans (same_new nt2 _)) (.tup upd_same (.cons (.str _) (.cons (.int _) .nil)))
variable {fW : Addr} {dW : FuncData}
theorem never_lwhy {vs : List V} {H : Hp} {Q : V → Hp → Prop} {E : _} (h : spLWhy 0 vs H Q E) : False := by
  obtain ⟨ed, wd, r, d, k, n, zs, ys, rfl, _, _, _, ⟨e, _, _, _, hlt⟩, _⟩ := h
  omega
theorem lwhy_all {c : Nat} (DW : Df K mg "_law_why" sLWhy pLWhy fW dW) (C__law_forced : CallOk P w K mg base c "_law_forced" pSel spLForced) (C__law_open_of : CallOk P w K mg base c "_law_open_of" pSel spLOpenOf) (C__law_yes : CallOk P w K mg base c "_law_yes" ["_law_entries_here", "_law_act", "_law_d", "_law_k"] (spLIs true 31)) (C__law_no : CallOk P w K mg base c "_law_no" ["_law_entries_here", "_law_act", "_law_d", "_law_k"] (spLIs false 31)) (m_int : mg "int" = none) (m_tuple : mg "tuple" = none) :
    ∀ m : Nat, FnOk P w K mg base CX0 (m + c + 1) fW dW pLWhy (spLWhy m)
  | 0 => DW.F.ok scLWhy (fun _ _ _ _ h => (never_lwhy h).elim) (fun _ _ _ _ _ _ _ _ _ h => (never_lwhy h).elim)
  | m + 1 => by
    have hW := lwhy_all DW C__law_forced C__law_open_of C__law_yes C__law_no m_int m_tuple m
    exact ok_LWhy DW.F (C__law_forced.mono (by omega)) (C__law_open_of.mono (by omega)) (C__law_yes.mono (by omega)) (C__law_no.mono (by omega)) ((DW.call hW).mono (by omega)) m_int m_tuple
end
end Deed

namespace Deed
open PySem PySem.Spec PyProof.Rows L2
/-! ### set(xs), xs a list of ints -/
abbrev eSet (w : World) : Obj := { cls := .type "set", dict := none, data := .set #[] 0 (.fresh 0 0 (!w.params.followText "set-order")) }
section
variable {P : Program} {w : World} {A : Around} {E : Value → Shared → Prop} {s : Shared}
set_option maxHeartbeats 8000000 in
theorem call_setL {l : Addr} {items : Array Value} (ns : List Int) {Q : Value → Shared → Prop} (nh : A.handled = none) (il : s.heap.IsList l items) (ia : IntsAre items.toList ns) (bd : ns.length + 1 < scanBound)
    (fin : ∀ (h' : Heap) (tk c : Nat), SetR w h' s.heap.objs.size (fun j => decide (j ∈ ns)) c → c ≤ ns.length → (∀ b o, s.heap.get? b = some o → h'.get? b = some o) → Q (.ref s.heap.objs.size) { s with heap := h', toks := tk }) :
    wpAny (model P w) A (call (.type "set") [Value.ref l]) Q E s := by
  have zl : items.size = ns.length := by
    rw [← Array.length_toList]
    exact IntsAre.length ia
  obtain ⟨mc, mt, f1⟩ := F.called_set.mro
  have f2 := F.called_set.made
  have f3 := F.called_set.sub
  refine wpAny_call (codeAny_of_tree (?_))
  show wpAny _ _ (callAny (Value.type "set") _) _ _ _
  refine wpAny_pure ⟨Code.quiet_builtin _ (by decide +kernel), (codeAny_builtin F.entry_type_call ?_)⟩
  rw [Around.under_plain (weight_type_call_type "set" [Value.ref l] []) rfl]
  have f4 := F.called_set.notType
  have f5 := F.called_set.canCreate
  have f6 := F.typeCall_set_1 (.ref l)
  repeat (any_goals (first | assumption | wp_step))
  refine codeAny_mono (code_set_led1 (Value.ref l) (E := E) (Q₁ := fun o s₁ => o = .ref s.heap.objs.size ∧ s₁ = { s with heap := s.heap.push (eSet w) }) ⟨rfl, rfl⟩) fun r s₁ hr => ?_
  match r, hr with
  | .error e, hr => exact hr
  | .ok .next, hr => exact hr.elim
  | .ok .brk, hr => exact hr.elim
  | .ok .cont, hr => exact hr.elim
  | .ok (.ret o), hr =>
    obtain ⟨rfl, rfl⟩ := hr
    have atS : (s.heap.push (eSet w)).get? s.heap.objs.size = some (eSet w) := Heap.get?_push_size _ rfl
    have tyS : Shared.TypeIs { s with heap := s.heap.push (eSet w) } (.ref s.heap.objs.size) "set" := ⟨_, atS, rfl⟩
    have f7 := F.called_set.init.lookup
    have f8 := F.called_set.init.bind (.ref s.heap.objs.size)
    repeat (any_goals (first | assumption | wp_step))
    refine codeAny_mono (codeAny_call_builtin (R := wants (fun r s₂ => r = .none ∧ ∃ h' tk c, s₂ = { s with heap := h', toks := tk } ∧ SetR w h' s.heap.objs.size (fun j => decide (j ∈ ns)) c ∧ c ≤ ns.length ∧ (∀ b o, s.heap.get? b = some o → h'.get? b = some o)) E) F.called_set.init.plain F.entry_set_init (check_set_init_1 tyS ?_)) fun r₂ s₂ hr₂ => ?_
    · obtain ⟨⟨oc, od, dt, sl⟩, gl, gc, en, gd⟩ := il
      simp only at gc gd
      subst gc
      subst gd
      have gl' : (s.heap.push (eSet w)).get? l = some { cls := .type "list", dict := od, data := .seq items en, slots := sl } := Heap.get?_push_of_some _ gl
      have f9 := F.sub_list_set
      have f10 := F.sub_list_frozenset
      have f11 : (Value.type "list" == Value.type "dict") = false := by decide
      have il' : (s.heap.push (eSet w)).IsList l items := ⟨_, gl', rfl, en, rfl⟩
      unfold Builtin.«set.__init__» noKeywords Builtin.Frozenset.updateFrom
      generalize ePI : pyIter = IT
      wp_walk
      subst ePI
      refine wpAny_pyIter_list il' ?_
      refine wpAny_bind (wpAny_runValue (?_))
      have lt0 : l < s.heap.objs.size := Heap.lt_size gl
      have nh3 : A.in1.in1.in1.handled = none := by simp [nh]
      have nI : l ≠ (s.heap.push (eSet w)).objs.size := by rw [Heap.size_push]; exact Nat.ne_of_lt (Nat.lt_succ_of_lt lt0)
      have nS : s.heap.objs.size ∉ [(s.heap.push (eSet w)).objs.size, l] := by
        rw [Heap.size_push]
        simp only [List.mem_cons, List.not_mem_nil, or_false, not_or]
        exact ⟨Nat.ne_of_lt (Nat.lt_succ_self _), Nat.ne_of_gt lt0⟩
      have vals : ∀ (i : Nat) (v : Value), items[i]? = some v → ∃ k t, ns[i]? = some k ∧ v = .int k t := fun i v hv => by
        have hi : i < ns.length := zl ▸ (Array.getElem?_eq_some_iff.mp hv).1
        obtain ⟨t, e⟩ := PyProof.Rows.IntsAre.int_at ia i v (by rw [Array.getElem?_toList]; exact hv)
        refine ⟨ns[i], t, List.getElem?_eq_getElem hi, e.trans ?_⟩
        rw [List.getD_eq_getElem?_getD, List.getElem?_eq_getElem hi]
        rfl
      refine set_update_ints ((Walks.list nh3 _ l nI items).toS) s.heap.objs.size nS ns zl bd vals (items.size - 0) 0 _ (by omega) (Nat.zero_le _) ⟨⟨_, Heap.get?_push_size _ rfl, rfl, rfl⟩, il'.push _⟩ ⟨0, Nat.le_refl 0, setR_new_at (Heap.get?_push_of_some _ atS)⟩ fun s' c' mv lc R' => ?_
      obtain ⟨h', g', d', tk', os'⟩ := s'
      obtain rfl : g' = s.gens := mv.gens
      obtain rfl : d' = s.drawn := mv.drawn
      obtain rfl : os' = s.os := mv.os
      show wpAny _ _ _ _ _ _
      refine wpAny_pure (?_)
      show wpAny _ _ (ret Value.none) _ _ _
      refine wpAny_pure ⟨rfl, h', tk', c', rfl, R', zl ▸ lc, fun b o e => ?_⟩
      have ltb : b < s.heap.objs.size := Heap.lt_size e
      refine mv.heap b o (fun z => ?_) (Heap.get?_push_of_some _ (Heap.get?_push_of_some _ e))
      rw [Heap.size_push] at z
      simp only [List.mem_cons, List.not_mem_nil, or_false] at z
      rcases z with z | z
      · exact absurd z (Nat.ne_of_lt ltb)
      · exact absurd z (Nat.ne_of_lt (Nat.lt_succ_of_lt ltb))
    · match r₂, hr₂ with
      | .error e, hr₂ => exact hr₂
      | .ok .next, hr₂ => exact hr₂.elim
      | .ok .brk, hr₂ => exact hr₂.elim
      | .ok .cont, hr₂ => exact hr₂.elim
      | .ok (.ret r), hr₂ =>
        obtain ⟨rfl, h', tk, c', rfl, R', lc, kp⟩ := hr₂
        repeat (any_goals (first | assumption | wp_step))
        exact fin _ _ _ R' lc kp
end
section
variable {X : Cx}
/-- set(xs) -/
def rSetL (K : PySem.W.Frag) (w : World) : List V → Hp → VK → Prop := fun xs H Q => ∃ (a : Addr) (ns : List Int), xs = [V.ref a] ∧ SqL K H a (ns.map V.int) ∧ ns.length + 1 < scanBound ∧ ∀ (p : Addr) (c : Nat), H p = none → c ≤ ns.length → Q (.ref p) (upd H p (SetO w p (fun j => decide (j ∈ ns)) c))
theorem cr_setL (hc : X.calm = true) : CallR X (.type "set") (rSetL X.K X.w) := by
  intro pins s σ H vs us Q I r h
  obtain ⟨a, ns, rfl, hs, hb, q⟩ := h
  obtain ⟨its, rv, hl, hz⟩ := I.list hs
  rw [Vals.ref1 r]
  refine call_setL ns (I.ok.hd hc) hl.isList (by simpa using rv.ints) hb fun h' tk c R lc kp => ?_
  exact ⟨.ref _, _, I.laid (t' := tk) kp (Nat.le_refl _) (setO_new R), rfl, q _ c (I.hok.fresh (Nat.le_refl _)) lc⟩
end
end Deed

/-! turns among days -/
namespace Deed
abbrev DW (S : Type) := Int × S
section
variable {S : Type} [DecidableEq S]
def lastW (acc : List (Int × S)) : Option S := acc.getLast?.map (·.2)
def stepT (acc : List (Int × S)) (p : Int × S) : List (Int × S) := if lastW acc = some p.2 then acc else acc ++ [p]
def tns (l : List (Int × S)) : List (Int × S) := l.foldl stepT []
theorem lastW_step (acc : List (Int × S)) (p : Int × S) : lastW (stepT acc p) = some p.2 := by
  unfold stepT
  split
  · assumption
  · simp [lastW]
theorem stepT_len (acc : List (Int × S)) (p : Int × S) : (stepT acc p).length ≤ acc.length + 1 := by
  unfold stepT
  split
  · omega
  · simp
theorem foldT_len : ∀ (l acc : List (Int × S)), (l.foldl stepT acc).length ≤ acc.length + l.length
  | [], acc => by simp
  | p :: l, acc => by
    rw [List.foldl_cons]
    have h1 := foldT_len l (stepT acc p)
    have h2 := stepT_len acc p
    simp only [List.length_cons]
    omega
theorem tns_len (l : List (Int × S)) : (tns l).length ≤ l.length := by
  have := foldT_len l []
  simpa [tns] using this
theorem tns_snoc (l : List (Int × S)) (p : Int × S) : tns (l ++ [p]) = stepT (tns l) p := by
  unfold tns
  rw [List.foldl_append]
  rfl
theorem mem_stepT {acc : List (Int × S)} {p q : Int × S} (h : q ∈ stepT acc p) : q ∈ acc ∨ q = p := by
  unfold stepT at h
  split at h
  · exact .inl h
  · rcases List.mem_append.mp h with h | h
    · exact .inl h
    · exact .inr (List.mem_singleton.mp h)
theorem mem_foldT : ∀ {l acc : List (Int × S)} {q : Int × S}, q ∈ l.foldl stepT acc → q ∈ acc ∨ q ∈ l
  | [], _, _, h => .inl h
  | p :: l, acc, q, h => by
    rw [List.foldl_cons] at h
    rcases mem_foldT h with h | h
    · rcases mem_stepT h with h | h
      · exact .inl h
      · exact .inr (by rw [h]; exact List.mem_cons_self)
    · exact .inr (List.mem_cons_of_mem _ h)
theorem mem_tns {l : List (Int × S)} {q : Int × S} (h : q ∈ tns l) : q ∈ l := by
  rcases mem_foldT h with h | h
  · cases h
  · exact h
/-- what turns nothing may be left out -/
theorem fold_skip (W : Int → S) (D : Int → Bool) : ∀ (l : List Int) (x : Int) (acc : List (Int × S)), lastW acc = some (W x) → List.Pairwise (· < ·) (x :: l) → (∀ y ∈ l, D y = false → ∀ z ∈ x :: l, z < y → (∀ u ∈ x :: l, ¬ (z < u ∧ u < y)) → W y = W z) →
    (l.map fun m => (m, W m)).foldl stepT acc = ((l.filter D).map fun m => (m, W m)).foldl stepT acc
  | [], _, _, _, _, _ => rfl
  | y :: l, x, acc, ha, hp, hR => by
    have hp2 := (List.pairwise_cons.mp hp).2
    have hxy : x < y := (List.pairwise_cons.mp hp).1 y List.mem_cons_self
    have hR' : ∀ y' ∈ l, D y' = false → ∀ z ∈ y :: l, z < y' → (∀ u ∈ y :: l, ¬ (z < u ∧ u < y')) → W y' = W z := fun y' hy' hD z hz hzy hn => by
      refine hR y' (List.mem_cons_of_mem _ hy') hD z (List.mem_cons_of_mem _ hz) hzy fun u hu => ?_
      rcases List.mem_cons.mp hu with rfl | hu
      · have : u < z := (List.pairwise_cons.mp hp).1 z hz
        omega
      · exact hn u hu
    cases hD : D y with
    | true =>
      rw [List.map_cons, List.foldl_cons, List.filter_cons, if_pos hD, List.map_cons, List.foldl_cons]
      exact fold_skip W D l y _ (lastW_step _ _) hp2 hR'
    | false =>
      have hW : W y = W x := hR y List.mem_cons_self hD x List.mem_cons_self hxy fun u hu => by
        rcases List.mem_cons.mp hu with rfl | hu
        · omega
        · rcases List.mem_cons.mp hu with rfl | hu
          · omega
          · have := (List.pairwise_cons.mp hp2).1 u hu
            omega
      rw [List.map_cons, List.foldl_cons, List.filter_cons, if_neg (by rw [hD]; decide)]
      have e1 : stepT acc (y, W y) = acc := by
        unfold stepT
        rw [if_pos (by rw [ha, hW])]
      rw [e1]
      exact fold_skip W D l y acc (by rw [ha, hW]) hp2 hR'
theorem up_one : ∀ {l m : List Int}, l.Pairwise (· < ·) → m.Pairwise (· < ·) → (∀ x, x ∈ l ↔ x ∈ m) → l = m
  | [], [], _, _, _ => rfl
  | [], y :: m, _, _, h => absurd ((h y).mpr List.mem_cons_self) (by simp)
  | x :: l, [], _, _, h => absurd ((h x).mp List.mem_cons_self) (by simp)
  | x :: l, y :: m, hl, hm, h => by
    have h1 := List.pairwise_cons.mp hl
    have h2 := List.pairwise_cons.mp hm
    have e : x = y := by
      rcases List.mem_cons.mp ((h x).mp List.mem_cons_self) with e | e
      · exact e
      · rcases List.mem_cons.mp ((h y).mpr List.mem_cons_self) with e' | e'
        · exact e'.symm
        · have := h2.1 x e
          have := h1.1 y e'
          omega
    subst e
    rw [up_one h1.2 h2.2 fun z => ?_]
    constructor
    · intro hz
      rcases List.mem_cons.mp ((h z).mp (List.mem_cons_of_mem _ hz)) with e | e
      · have := h1.1 z hz
        omega
      · exact e
    · intro hz
      rcases List.mem_cons.mp ((h z).mpr (List.mem_cons_of_mem _ hz)) with e | e
      · have := h2.1 z hz
        omega
      · exact e
/-- by more days, none of which is ahead of the first: the same turns -/
theorem tns_marks (W : Int → S) {M D : List Int} (hM : M.Pairwise (· < ·)) (hD : D.Pairwise (· < ·)) (h0 : (0 : Int) ∈ D) (hsub : ∀ x ∈ D, x ∈ M) (hpos : ∀ x ∈ M, 0 ≤ x) (hW : ∀ z y, 0 ≤ z → z < y → (∀ u ∈ D, ¬ (z < u ∧ u ≤ y)) → W y = W z) :
    tns (M.map fun m => (m, W m)) = tns (D.map fun m => (m, W m)) := by
  have eD : M.filter (fun m => decide (m ∈ D)) = D := up_one (hM.filter _) hD fun x => by
    rw [List.mem_filter]
    constructor
    · rintro ⟨_, h⟩
      exact of_decide_eq_true h
    · intro h
      exact ⟨hsub x h, decide_eq_true h⟩
  cases M with
  | nil => exact absurd (hsub 0 h0) (by simp)
  | cons m l =>
    have hm0 : m = 0 := by
      rcases List.mem_cons.mp (hsub 0 h0) with e | e
      · exact e.symm
      · have := (List.pairwise_cons.mp hM).1 0 e
        have := hpos m List.mem_cons_self
        omega
    have hmD : decide (m ∈ D) = true := decide_eq_true (by rw [hm0]; exact h0)
    rw [List.filter_cons, if_pos hmD] at eD
    rw [← eD]
    unfold tns
    rw [List.map_cons, List.map_cons, List.foldl_cons, List.foldl_cons]
    refine fold_skip W _ l m _ (lastW_step _ _) hM fun y hy hDy z hz hzy hn => ?_
    refine hW z y (hpos z hz) hzy fun u hu ⟨h1, h2⟩ => ?_
    have hyD : y ∉ D := of_decide_eq_false hDy
    rcases Int.lt_or_eq_of_le h2 with h3 | h3
    · exact hn u (hsub u hu) ⟨h1, h3⟩
    · rw [h3] at hu
      exact hyD hu
end
end Deed
namespace Deed
open PySem PySem.Spec PyProof.Rows L2 LamX
theorem all_congr' {α : Type} {l : List α} {p q : α → Bool} (h : ∀ x ∈ l, p x = q x) : l.all p = l.all q := by
  rw [Bool.eq_iff_iff, List.all_eq_true, List.all_eq_true]
  exact ⟨fun z x hx => by rw [← h x hx]; exact z x hx, fun z x hx => by rw [h x hx]; exact z x hx⟩
/-- what matters of days -/
def Alike (es : List En) (d k d' k' : Int) : Prop := ∀ u ∈ es, (u.day ≤ d ↔ u.day ≤ d') ∧ (u.wri ≤ k ↔ u.wri ≤ k')
theorem Alike.open {es : List En} {d k d' k' : Int} (h : Alike es d k d' k') {u : En} (hu : u ∈ es) : isOpen d k u = isOpen d' k' u := by
  unfold isOpen
  rw [decide_eq_decide.mpr (h u hu).1, decide_eq_decide.mpr (h u hu).2]
theorem frcF_at {es : List En} {d k d' k' : Int} (h : Alike es d k d' k') : ∀ (f : Nat) (e : En), e ∈ es → frcF es d k f e = frcF es d' k' f e := by
  intro f
  induction f with
  | zero => intro e _; rfl
  | succ f ih =>
    intro e he
    show (isOpen d k e && es.all fun u => !(isOn "undone" e.num u && frcF es d k f u)) = (isOpen d' k' e && es.all fun u => !(isOn "undone" e.num u && frcF es d' k' f u))
    rw [h.open he, all_congr' fun u hu => by rw [ih u hu]]
theorem anyF_at {es : List En} {d k d' k' : Int} (h : Alike es d k d' k') (x : Str) (m : Int) : anyF es d k x m = anyF es d' k' x m := by
  unfold anyF frc
  exact any_congr fun u hu => by rw [frcF_at h _ u hu]
theorem stF_at {es : List En} {d k d' k' : Int} (h : Alike es d k d' k') : ∀ (f : Nat) (e : En), e ∈ es → stF es d k f e = stF es d' k' f e := by
  intro f
  induction f with
  | zero => intro e _; rfl
  | succ f ih =>
    intro e he
    show wordBy es d k e (e.rests.any fun r => es.any fun u => isD r u && !carries (stF es d k f u)) = wordBy es d' k' e (e.rests.any fun r => es.any fun u => isD r u && !carries (stF es d' k' f u))
    have e1 : (e.rests.any fun r => es.any fun u => isD r u && !carries (stF es d k f u)) = (e.rests.any fun r => es.any fun u => isD r u && !carries (stF es d' k' f u)) := any_congr fun r _ => any_congr fun u hu => by rw [ih u hu]
    rw [e1]
    unfold wordBy
    rw [anyF_at h, anyF_at h]
    have h1 := (h e he).1
    have h2 := (h e he).2
    have e2 : (k < e.wri) = (k' < e.wri) := propext ⟨fun z => by omega, fun z => by omega⟩
    have e3 : (d < e.day) = (d' < e.day) := propext ⟨fun z => by omega, fun z => by omega⟩
    simp only [e2, e3]
theorem st_at {es : List En} {d k d' k' : Int} (h : Alike es d k d' k') {e : En} (he : e ∈ es) : st es d k e = st es d' k' e := stF_at h _ e he
/-- the days at a place of the entries -/
def dayAt (pl : Bool) (e : En) : Int := if pl then e.day else e.wri
/-- what a deed is, by a day of that place -/
def stAt (es : List En) (pl : Bool) (o : Int) (e : En) (x : Int) : Str := if pl then st es x o e else st es o x e
def DaysAt (es : List En) (pl : Bool) (D : List Int) : Prop := D.Pairwise (· < ·) ∧ ∀ x, x ∈ D ↔ x = 0 ∨ ∃ e ∈ es, dayAt pl e = x
theorem stAt_same {es : List En} {pl : Bool} {D : List Int} (hD : DaysAt es pl D) (o : Int) {e : En} (he : e ∈ es) : ∀ z y, 0 ≤ z → z < y → (∀ u ∈ D, ¬ (z < u ∧ u ≤ y)) → stAt es pl o e y = stAt es pl o e z := by
  intro z y h0 hzy hn
  have key : ∀ u ∈ es, dayAt pl u ≤ y ↔ dayAt pl u ≤ z := fun u hu => by
    have h1 := hn _ ((hD.2 _).mpr (.inr ⟨u, hu, rfl⟩))
    constructor
    · intro h2
      omega
    · intro h2
      omega
  unfold stAt
  cases pl with
  | true => exact st_at (fun u hu => ⟨key u hu, Iff.rfl⟩) he
  | false => exact st_at (fun u hu => ⟨Iff.rfl, key u hu⟩) he
/-- the course, by whatever more days -/
theorem course_one {es : List En} {pl : Bool} {D M : List Int} (hD : DaysAt es pl D) (hM : M.Pairwise (· < ·)) (hsub : ∀ x ∈ D, x ∈ M) (hpos : ∀ x ∈ M, 0 ≤ x) (o : Int) {e : En} (he : e ∈ es) :
    tns (M.map fun m => (m, stAt es pl o e m)) = tns (D.map fun m => (m, stAt es pl o e m)) :=
  tns_marks _ hM hD.1 ((hD.2 0).mpr (.inl rfl)) hsub hpos (stAt_same hD o he)
end Deed

namespace Deed
open PySem PySem.Spec PyProof.Rows L2 LamX
theorem sNew {H : Hp} {p : Addr} (n : H p = none) (o : HO) : Same H (upd H p o) := fun b u e => by rw [upd_ne (ne_of_none e n)]; exact e
/-- a list of turns -/
def TurnsAt (H : Hp) (p : Addr) (l : List (Int × Str)) : Prop := ∃ zs : List (Addr × (Int × Str)), H p = some (.lst (zs.map fun z => V.ref z.1)) ∧ zs.map (·.2) = l ∧ ∀ z ∈ zs, H z.1 = some (.tup [.int z.2.1, .str z.2.2])
theorem TurnsAt.extN {H H' : Hp} {p : Addr} {l : List (Int × Str)} (h : TurnsAt H p l) (e : ExtN H H') : TurnsAt H' p l := by
  obtain ⟨zs, h1, h2, h3⟩ := h
  exact ⟨zs, e _ _ h1 (fun ps z => by cases z), h2, fun z hz => e _ _ (h3 z hz) (fun ps z => by cases z)⟩
theorem TurnsAt.snoc {H : Hp} {p tp : Addr} {zs : List (Addr × (Int × Str))} {q : Int × Str} (e : H p = some (.lst ((zs.map fun z => V.ref z.1) ++ [.ref tp]))) (et : H tp = some (.tup [.int q.1, .str q.2])) (h : ∀ z ∈ zs, H z.1 = some (.tup [.int z.2.1, .str z.2.2])) : TurnsAt H p (zs.map (·.2) ++ [q]) := by
  refine ⟨zs ++ [(tp, q)], ?_, ?_, fun z hz => ?_⟩
  · rw [e, List.map_append]
    rfl
  · rw [List.map_append]
    rfl
  · rcases List.mem_append.mp hz with hz | hz
    · exact h z hz
    · rw [List.mem_singleton.mp hz]
      exact et
section
variable {P : Program} {w : World} {K : PySem.W.Frag} {mg : Str → Option Value} {base : Heap} {T : List (Addr × Str)}
/-! ### the days of entries -/
abbrev sDaysAt : Stmt := topS 30
abbrev nDaysAt : List Str := ["book", "place", "entry"]
abbrev pDaysAt : List Str := ["book", "place"]
theorem scDaysAt : FnScope nDaysAt pDaysAt (defScope sDaysAt) := ⟨rfl, rfl, rfl, by decide +kernel, rfl, by decide +kernel, by decide +kernel⟩
def plI (pl : Bool) : Int := if pl then 1 else 2
def spDaysAt : Sp := fun vs H Q _ => ∃ (b fk t : Addr) (n : Nat) (age : Int) (zs : List (Addr × En)) (pl : Bool), vs = [.ref b, .int (plI pl)] ∧ BookAt H b fk t n age zs ∧ ∀ (D : List Int) (p : Addr) (H' : Hp), Same H H' → H p = none → H' p = some (.lst (D.map V.int)) → DaysAt (ens zs) pl D → D.length ≤ 17 → Q (.ref p) H'
theorem ok_daysAt {f : Addr} {fd : FuncData} {k : Nat} (F : Fun K "days_at" "days_at" sDaysAt f fd) (ms : mg "sorted" = none) (mS : mg "set" = none) : FnOk P w K mg base CX0 (k + 1) f fd pDaysAt spDaysAt := by
  refine F.ok scDaysAt (fun vs H Q E h => ?_) (fun cdv A outer s H vs Q E hr h => ?_)
  · obtain ⟨b, fk, t, n, age, zs, pl, rfl, _⟩ := h
    rfl
  · obtain ⟨b, fk, t, n, age, zs, pl, rfl, hB, q⟩ := h
    have nd := scDaysAt.nd
    have hl := hB.len
    refine ⟨_, pss_one (ps_ret (pe_callB (show CallR _ (.builtin "sorted") (rSortedSet w) from cr_sortedSet rfl) (by rfl) ms (by decide +kernel) (pa_cons (pe_callTy (show CallR _ (.type "set") (rSetL K w) from cr_setL rfl) (by rfl) mS (by decide +kernel) (pa_cons (pe_op op_cat (pe_lst (pa_cons pe_int pa_nil)) (pe_lc (own := [("entry", 2)]) (g := gName 2) (by rfl) nd (pi_tup (pe_ix ix_tup (pv 0) pe_int (fun _ _ => rfl))) (blkOk_by (own := [("entry", 2)]) (N := nDaysAt) (sc := defScope sDaysAt) (by decide +kernel)) (fun _ _ _ _ _ => pg_name (i := 2) nd rfl (Or.inl rfl)) (fun _ _ _ _ _ => pts_nil)
        (fun _ _ _ _ _ => show PE _ _ (tOp (rIxT K) (tVar 2) (tVar 1)) from pe_ix ix_tup (pv 2) (pv 1) (fun _ _ => rfl)))) pa_nil)) pa_nil))), ?_⟩
    refine ⟨(by show 1 ≤ sizeLine; decide), fun l0 nl0 => ?_⟩
    have s0 := sNew nl0 (.lst [.int 0])
    have e0 : (upd H l0 (.lst [.int 0])) l0 = some (.lst (([0] : List Int).map V.int)) := upd_same
    generalize (upd H l0 (.lst [.int 0])) = H1 at s0 e0
    have hB1 := hB.kp (Same.tup s0)
    refine ⟨_, rfl, b, _, 2, _, rfl, rfl, SqT.of hB1.at_, atI_nat (j := 2) rfl, t, rfl, ⟨_, SqT.of hB1.ents⟩, fun M nM => ?_⟩
    refine lc_tup (K := K) (a := t) (xs := refs zs) (fun i H' => H' M = some (.lst (((zs.take i).map fun z => dayAt pl z.2).map V.int)) ∧ Same H1 H') ⟨upd_same, sNew nM _⟩ (fun i H' _ h => SqT.of (h.2 _ _ hB1.ents)) ?_ ?_
    · rintro i x H' hx ⟨eM, sm⟩
      obtain ⟨z, hz, rfl⟩ := ref_at hx
      have hzm : z ∈ zs := List.mem_of_getElem? hz
      obtain ⟨xs, ex, _, g1, g2, _⟩ := ((hB1.ent z hzm).kp (Same.tup sm)).tup
      have gv : atI xs (plI pl) = some (.int (dayAt pl z.2)) := by
        cases pl with
        | true => exact g1
        | false => exact g2
      have hi : i < zs.length := (List.getElem?_eq_some_iff.mp hz).1
      refine ⟨rfl, ?_⟩
      unfold tYes
      dsimp only
      rw [if_pos rfl]
      refine ⟨_, rfl, _, rfl, z.1, xs, plI pl, _, rfl, rfl, SqT.of ex, gv, _, eM, small1000 (by rw [List.length_map, List.length_map, List.length_take]; omega), ?_, fun b o e => by rw [upd_ne (ne_of_none e nM)]; exact sm _ _ e⟩
      rw [upd_same, take_more hz, List.map_append, List.map_append]
      rfl
    rintro H2 ⟨eM, s2⟩
    rw [show (refs zs).length = zs.length from List.length_map _, List.take_length] at eM
    refine ⟨l0, M, _, _, rfl, rfl, s2 _ _ e0, eM, ?_, fun S nS => ?_⟩
    · rw [List.length_map, List.length_map, List.length_map]
      exact Nat.le_of_lt (small1000 (by show 1 + zs.length ≤ 1000; omega))
    have s3 := sNew nS (.lst (([0] : List Int).map V.int ++ (zs.map fun z => dayAt pl z.2).map V.int))
    have eS : (upd H2 S (.lst (([0] : List Int).map V.int ++ (zs.map fun z => dayAt pl z.2).map V.int))) S = some (.lst ((0 :: zs.map fun z => dayAt pl z.2).map V.int)) := by rw [upd_same]; rfl
    generalize (upd H2 S (.lst (([0] : List Int).map V.int ++ (zs.map fun z => dayAt pl z.2).map V.int))) = H3 at s3 eS
    have hl2 : (0 :: zs.map fun z => dayAt pl z.2).length ≤ 17 := by
      rw [List.length_cons, List.length_map]
      omega
    refine ⟨S, 0 :: zs.map (fun z => dayAt pl z.2), rfl, SqL.of eS, by unfold scanBound; omega, fun q1 c nq1 hc => ?_⟩
    have s4 := sNew nq1 (SetO w q1 (fun j => decide (j ∈ 0 :: zs.map (fun z => dayAt pl z.2))) c)
    have e4 : (upd H3 q1 (SetO w q1 (fun j => decide (j ∈ 0 :: zs.map (fun z => dayAt pl z.2))) c)) q1 = some (SetO w q1 (fun j => decide (j ∈ 0 :: zs.map (fun z => dayAt pl z.2))) c) := upd_same
    generalize (upd H3 q1 (SetO w q1 (fun j => decide (j ∈ 0 :: zs.map (fun z => dayAt pl z.2))) c)) = H4 at s4 e4
    refine ⟨q1, _, c, rfl, e4, by omega, fun D p up mem len np => ?_⟩
    have s14 := s0.trans (s2.trans (s3.trans s4))
    refine q D p _ (s14.trans (sNew np _)) (none_back s14 np) upd_same ⟨up, fun x => ?_⟩ (by omega)
    rw [mem x, decide_eq_true_iff, List.mem_cons, List.mem_map]
    constructor
    · rintro (h | ⟨z, hz, h⟩)
      · exact .inl h
      · exact .inr ⟨z.2, List.mem_map.mpr ⟨z, hz, rfl⟩, h⟩
    · rintro (h | ⟨e, he, h⟩)
      · exact .inl h
      · obtain ⟨z, hz, rfl⟩ := List.mem_map.mp he
        exact .inr ⟨z, hz, h⟩
/-! ### turns among days -/
end
end Deed

namespace Deed
open PySem PySem.Spec PyProof.Rows L2 LamX
section
variable {P : Program} {w : World} {K : PySem.W.Frag} {mg : Str → Option Value} {base : Heap} {T : List (Addr × Str)}
abbrev sTurnsA : Stmt := topS 31
abbrev nTurnsA : List Str := ["days", "words", "turns", "day", "word"]
abbrev pTurnsA : List Str := ["days", "words"]
theorem scTurnsA : FnScope nTurnsA pTurnsA (defScope sTurnsA) := ⟨rfl, rfl, rfl, by decide +kernel, rfl, by decide +kernel, by decide +kernel⟩
def spTurnsA : Sp := fun vs H Q _ => ∃ (a b : Addr) (ps : List (Int × Str)), vs = [.ref a, .ref b] ∧ H a = some (.lst ((ps.map (·.1)).map V.int)) ∧ H b = some (.lst ((ps.map (·.2)).map V.str)) ∧ ps.length ≤ 60 ∧ ∀ (p : Addr) (H' : Hp), Same H H' → H p = none → TurnsAt H' p (tns ps) → Q (.ref p) H'
theorem ok_turnsA {f : Addr} {fd : FuncData} {k : Nat} (F : Fun K "turns_among" "turns_among" sTurnsA f fd) (mZ : mg "zip" = none) : FnOk P w K mg base CX0 (k + 1) f fd pTurnsA spTurnsA := by
  refine F.ok scTurnsA (fun vs H Q E h => ?_) (fun cdv A outer s H vs Q E hr h => ?_)
  · obtain ⟨a, b, ps, rfl, _⟩ := h
    rfl
  · obtain ⟨a, b, ps, rfl, ea, eb, hl, q⟩ := h
    have nd := scTurnsA.nd
    refine ⟨_, pss_cons (ps_set (i := 2) nd rfl (.inl rfl) (pe_lst pa_nil))
      (pss_cons (ps_for PassesOwn.never rfl (pi_zip (by rfl) mZ (pa_cons (pv 0) (pa_cons (pv 1) pa_nil))) (pg_tup (by rfl) (pgs_cons (pg_name (i := 3) nd rfl (.inl rfl)) (pgs_cons (pg_name (i := 4) nd rfl (.inl rfl)) pgs_nil)))
        (pss_one (ps_if (PW.pt (pw_or (pt_not (pt_truth (pv 2) (fun _ => rfl))) (pw_or1 (pt_cmpR op_ne (pe_ix ix_tup (pe_ix ix_list (pv 2) (pe_un un_neg pe_int) (fun _ _ => rfl)) pe_int (fun _ _ => rfl)) (pv 4) (nomark _)))))
          (pss_one (ps_expr (pe_bm PySem.F.plainAttrs_list PySem.F.slot_list_append PySem.F.type_list_append mt_append (pv 2) (pa_cons (pe_tup (pa_cons (pv 3) (pa_cons (pv 4) pa_nil))) pa_nil)))) pss_nil)))
      (pss_one (ps_ret (pv 2)))), ?_⟩
    refine ⟨Nat.zero_le _, fun l nl => ?_⟩
    have s0 := sNew nl (.lst [])
    have e0 : (upd H l (.lst [])) l = some (.lst []) := upd_same
    generalize (upd H l (.lst [])) = H0 at s0 e0
    refine ⟨_, rfl, _, rfl, a, b, _, _, rfl, SqL.of (s0 _ _ ea), SqL.of (s0 _ _ eb), ?_⟩
    refine for_it (walk_zip (n := ps.length) (xs := (ps.map (·.1)).map V.int) (ys := (ps.map (·.2)).map V.str) (by simp)) (fun i σ H' => ∃ y3 y4, σ = [some (.ref a), some (.ref b), some (.ref l), y3, y4] ∧ Same H H' ∧ TurnsAt H' l (tns (ps.take i))) ⟨none, none, rfl, s0, [], e0, rfl, fun _ h => nomatch h⟩ (fun i σ H' _ h => ?_) ?_ ?_
    · obtain ⟨_, _, _, sm, _⟩ := h
      exact ⟨SqL.of (sm _ _ ea), SqL.of (sm _ _ eb)⟩
    · rintro i x σ H1 H2 hi ⟨y3, y4, rfl, sm, zs, el, ez, hz⟩ ⟨TT, x1, y1, rfl, nT, rfl, hx1, hy1⟩
      dsimp only at hx1 hy1
      rw [List.getElem?_map, List.getElem?_map] at hx1 hy1
      cases hp : ps[i]? with
      | none => rw [hp] at hx1; cases hx1
      | some pr =>
        rw [hp] at hx1 hy1
        injection hx1 with hx1
        injection hy1 with hy1
        subst hx1
        subst hy1
        have sT := sNew nT (.tup [.int pr.1, .str pr.2])
        have eT : (upd H1 TT (.tup [.int pr.1, .str pr.2])) TT = some (.tup [.int pr.1, .str pr.2]) := upd_same
        refine ⟨TT, _, rfl, SqT.of eT, rfl, _, _, rfl, _, _, rfl, rfl, ?_⟩
        generalize (upd H1 TT (.tup [.int pr.1, .str pr.2])) = H2 at sT eT
        have sm2 := sm.trans sT
        have el2 := sT _ _ el
        have hz2 := fun z hzz => sT _ _ (hz z hzz)
        have hlen : zs.length ≤ 60 := by
          have h1 := congrArg List.length ez
          rw [List.length_map] at h1
          have h2 := tns_len (ps.take i)
          rw [List.length_take] at h2
          omega
        rw [take_more hp, tns_snoc, ← ez]
        -- behind the append
        have behind : ∀ (tp : Addr) (H3 : Hp), H2 tp = none → H3 = upd H2 tp (.tup [.int pr.1, .str pr.2]) → H3 l = some (.lst (zs.map fun z => V.ref z.1)) ∧ Same H (upd H3 l (.lst ((zs.map fun z => V.ref z.1) ++ [.ref tp]))) ∧ TurnsAt (upd H3 l (.lst ((zs.map fun z => V.ref z.1) ++ [.ref tp]))) l (zs.map (·.2) ++ [pr]) := by
          rintro tp H3 ntp rfl
          have s3 := sNew ntp (.tup [.int pr.1, .str pr.2])
          have e3 : (upd H2 tp (.tup [.int pr.1, .str pr.2])) tp = some (.tup [.int pr.1, .str pr.2]) := upd_same
          generalize (upd H2 tp (.tup [.int pr.1, .str pr.2])) = H3 at s3 e3
          have nlt : tp ≠ l := fun z => by
            rw [z, el2] at ntp
            cases ntp
          refine ⟨s3 _ _ el2, fun b0 o0 h0 => ?_, TurnsAt.snoc upd_same (by rw [upd_ne nlt]; exact e3) fun z hzz => ?_⟩
          · rw [upd_ne (ne_of_none h0 nl)]
            exact s3 _ _ (sm2 _ _ h0)
          · have h1 := s3 _ _ (hz2 z hzz)
            have nzl : z.1 ≠ l := fun w => by
              rw [w, s3 _ _ el2] at h1
              cases h1
            rw [upd_ne nzl]
            exact h1
        refine ⟨_, rfl, _, .inl ⟨_, SqL.of el2, rfl⟩, ?_⟩
        rcases List.eq_nil_or_concat zs with e1 | ⟨init, zl, e1⟩
        · have est : stepT (zs.map (·.2)) pr = zs.map (·.2) ++ [pr] := by
            rw [e1]
            rfl
          rw [est, show ((zs.map fun z => V.ref z.1).isEmpty) = true from by rw [e1]; rfl]
          refine iteT ?_
          refine iteT ?_
          refine ⟨_, rfl, .inl ⟨rfl, _, SqL.of el2⟩, _, rfl, _, rfl, (by show 2 ≤ sizeLine; decide), fun tp ntp => ?_⟩
          obtain ⟨b1, b2, b3⟩ := behind tp _ ntp rfl
          refine ⟨l, _, _, rfl, rfl, b1, small1000 (by rw [List.length_map]; omega), ?_⟩
          exact ⟨_, _, rfl, b2, b3⟩
        · have e2 : zs = init ++ [zl] := by rw [e1, List.concat_eq_append]
          have elast : zs.map (fun z => V.ref z.1) = init.map (fun z => V.ref z.1) ++ [.ref zl.1] := by rw [e2, List.map_append]; rfl
          have ezl := hz2 zl (by rw [e2]; simp)
          have elw : lastW (zs.map (·.2)) = some zl.2.2 := by
            rw [e2, List.map_append]
            simp [lastW]
          rw [show ((zs.map fun z => V.ref z.1).isEmpty) = false from by rw [elast]; simp]
          refine iteF ?_
          refine ⟨_, rfl, _, rfl, l, _, -1, .ref zl.1, rfl, rfl, SqL.of el2, by rw [elast]; exact atI_last _ _, zl.1, _, 1, _, rfl, rfl, SqT.of ezl, atI_nat (j := 1) rfl, _, rfl, rfl, _, rfl, ?_⟩
          by_cases hw : zl.2.2 = pr.2
          · rw [decide_eq_true (show V.str zl.2.2 = V.str pr.2 by rw [hw])]
            refine iteF ?_
            have est : stepT (zs.map (·.2)) pr = zs.map (·.2) := by
              unfold stepT
              rw [if_pos (by rw [elw, hw])]
            rw [est]
            exact ⟨_, _, rfl, sm2, zs, el2, rfl, hz2⟩
          · rw [decide_eq_false (show ¬ V.str zl.2.2 = V.str pr.2 from fun z => hw (by injection z))]
            refine iteT ?_
            have est : stepT (zs.map (·.2)) pr = zs.map (·.2) ++ [pr] := by
              unfold stepT
              rw [if_neg (by rw [elw]; intro z; injection z with z; exact hw z)]
            rw [est]
            refine ⟨_, rfl, .inl ⟨rfl, _, SqL.of el2⟩, _, rfl, _, rfl, (by show 2 ≤ sizeLine; decide), fun tp ntp => ?_⟩
            obtain ⟨b1, b2, b3⟩ := behind tp _ ntp rfl
            refine ⟨l, _, _, rfl, rfl, b1, small1000 (by rw [List.length_map]; omega), ?_⟩
            exact ⟨_, _, rfl, b2, b3⟩
    · rintro σ H' ⟨y3, y4, rfl, sm, hT⟩
      rw [List.take_length] at hT
      exact ⟨_, rfl, q l H' sm nl hT⟩
end
end Deed

namespace Deed
open PySem PySem.Spec PyProof.Rows L2 LamX
theorem wdE_at {zs ys : List (Addr × En)} (hY : DeedsUp zs ys) {d k : Int} {e : En} (he : e ∈ ens zs) (hd : e.isDeed = true) : valV (wdE (ens zs) d k (ens ys)) (.inl e.num) = some (.str (st (ens zs) d k e)) :=
  valV_map (f := fun e : En => e.num) (g := fun e : En => V.str (st (ens zs) d k e)) hY.nodup ((hY.2.1 e).mpr ⟨he, hd⟩)
theorem DaysAt.rng {n : Nat} {es : List En} {pl : Bool} {D : List Int} (h : DaysAt es pl D) (hB : BkOk n es) : ∀ x ∈ D, 0 ≤ x ∧ x ≤ 9999 := fun x hx => by
  rcases (h.2 x).mp hx with rfl | ⟨e, he, rfl⟩
  · exact ⟨Int.le_refl _, by decide⟩
  · have h1 := hB.ok e he
    unfold dayAt
    cases pl with
    | true => exact h1.1
    | false => exact h1.2.1
section
variable {P : Program} {w : World} {K : PySem.W.Frag} {mg : Str → Option Value} {base : Heap} {T : List (Addr × Str)} {fCk fCD fDA fTA fAl : Addr} {dCk dCD dDA dTA dAl : FuncData}
/-! ### the course, and what was learned -/
abbrev sCourse : Stmt := topS 32
abbrev nCourse : List Str := ["book", "deed", "k", "days", "day"]
abbrev pCourse : List Str := ["book", "deed", "k"]
theorem scCourse : FnScope nCourse pCourse (defScope sCourse) := ⟨rfl, rfl, rfl, by decide +kernel, rfl, by decide +kernel, by decide +kernel⟩
def spCourse (pl : Bool) (T : List (Addr × Str)) : Sp := fun vs H Q _ => ∃ (b fk t : Addr) (n : Nat) (age : Int) (zs : List (Addr × En)) (e : En) (o : Int), vs = [.ref b, .int e.num, .int o] ∧ BookAt H b fk t n age zs ∧ Tabs T H ∧ e ∈ ens zs ∧ e.isDeed = true ∧ (0 ≤ o ∧ o ≤ 9999) ∧
  ∀ (p : Addr) (D : List Int) (H' : Hp), ExtN H H' → Tabs T H' → Fresh H p → TurnsAt H' p (tns (D.map fun m => (m, stAt (ens zs) pl o e m))) → DaysAt (ens zs) pl D → Q (.ref p) H'
theorem ok_course {f : Addr} {fd : FuncData} {k : Nat} {dv : List V} (F : FunD K "course_of" "course_of" (defArgs sCourse) (defBody sCourse) (defScope sCourse) dv [] f fd) (mD : MgInt mg "DAY" 1)
    (DCk : Df K mg "check_deed" sCheckDeed ["book", "thing"] fCk dCk) (GCk : FnOk P w K mg base CX0 k fCk dCk ["book", "thing"] (spCkDeed T)) (DCD : Df K mg "check_day" sCheckDay ["thing"] fCD dCD) (GCD : FnOk P w K mg base CX0 k fCD dCD ["thing"] spCkDay)
    (DDA : Df K mg "days_at" sDaysAt pDaysAt fDA dDA) (GDA : FnOk P w K mg base CX0 k fDA dDA pDaysAt spDaysAt) (DTA : Df K mg "turns_among" sTurnsA pTurnsA fTA dTA) (GTA : FnOk P w K mg base CX0 k fTA dTA pTurnsA spTurnsA)
    (gAl : mg "all_standing" = some (.ref fAl)) (kAl : PySem.W.keepIn K (.ref fAl) = true) (bAl : Binds K dAl pAllSt []) (GAl : FnOk P w K mg base CX0 k fAl dAl pAllSt (spAllSt T)) : FnOk P w K mg base CX0 (k + 1) f fd pCourse (spCourse true T) := by
  refine F.ok scCourse (fun vs H Q E h => ?_) (fun cdv A outer s H vs Q E hr h => ?_)
  · obtain ⟨b, fk, t, n, age, zs, e, o, rfl, _⟩ := h
    rfl
  · obtain ⟨b, fk, t, n, age, zs, e, o, rfl, hB, hT, he, hde, ho, q⟩ := h
    have nd := scCourse.nd
    have hu := hu_of hr
    refine ⟨_, PSs.nox (pss_cons (ps_expr (pe_call GCk hr (by rfl) DCk.g DCk.F.kp DCk.b .nil pass0 (pa_cons (pv 0) (pa_cons (pv 1) pa_nil))))
      (pss_cons (ps_expr (pe_call GCD hr (by rfl) DCD.g DCD.F.kp DCD.b .nil pass0 (pa_cons (pv 2) pa_nil)))
      (pss_cons (ps_set (i := 3) nd rfl (.inl rfl) (pe_call GDA hr (by rfl) DDA.g DDA.F.kp DDA.b .nil pass0 (pa_cons (pv 0) (pa_cons (pe_num (by rfl) mD) pa_nil))))
      (pss_one (ps_ret (pe_call GTA hr (by rfl) DTA.g DTA.F.kp DTA.b .nil pass0 (pa_cons (pv 3) (pa_cons (pe_lc (own := [("day", 4)]) (g := gName 4) (by rfl) nd (pi_list (pv 3)) (blkOk_by (own := [("day", 4)]) (N := nCourse) (sc := defScope sCourse) (by decide +kernel)) (fun _ _ _ _ _ => pg_name (i := 4) nd rfl (Or.inl rfl)) (fun _ _ _ _ _ => pts_nil)
        (fun _ _ _ _ _ => pe_dget hu (pe_call GAl hr (by rfl) gAl kAl bAl .nil pass0 (pa_cons (pv 0) (pa_cons (pv 4) (pa_cons (pv 2) pa_nil)))) (pv 1) (fun _ _ => rfl))) pa_nil)))))))), ?_⟩
    refine ⟨_, rfl, _, rfl, b, fk, t, n, age, zs, e, rfl, hB, hT, he, hde, fun H1 e1 T1 => ?_⟩
    refine ⟨_, rfl, o, rfl, ho.1, ho.2, ?_⟩
    have hB1 := hB.kp (ExtN.tup e1)
    refine ⟨_, rfl, b, fk, t, n, age, zs, true, rfl, hB1, fun D p H2 s2 np ep hD hDl => ?_⟩
    have hB2 := hB1.kp (Same.tup s2)
    have T2 := T1.ext s2
    have hDr := hD.rng hB.ok
    refine ⟨_, rfl, _, rfl, p, rfl, ⟨_, SqL.of ep⟩, fun M nM => ?_⟩
    refine lc_list (K := K) (a := p) (xs := D.map V.int) (fun i H' => H' M = some (.lst (((D.take i).map fun m => st (ens zs) m o e).map V.str)) ∧ ExtN H2 H' ∧ Tabs T H') ⟨upd_same, ExtN.new nM _, Tabs.new T2 nM _⟩ (fun i H' _ h => SqL.of (h.2.1 _ _ ep fun ps z => by cases z)) ?_ ?_
    · rintro i x H3 hx ⟨eM, e3, T3⟩
      rw [List.getElem?_map] at hx
      cases hz : D[i]? with
      | none => rw [hz] at hx; cases hx
      | some m =>
        rw [hz] at hx
        injection hx with hx
        subst hx
        have hi : i < D.length := (List.getElem?_eq_some_iff.mp hz).1
        have hm := hDr m (List.mem_of_getElem? hz)
        refine ⟨rfl, ?_⟩
        unfold tYes
        dsimp only
        rw [if_pos rfl]
        refine ⟨_, rfl, _, rfl, _, rfl, b, fk, t, n, age, zs, m, o, rfl, hB2.kp (ExtN.tup e3), T3, hm, ho, fun wh ys H4 e4 T4 fr4 ewh hY => ?_⟩
        have g1 : DGet H4 wh (.int e.num) (some (.str (st (ens zs) m o e))) := by
          have h1 := DGet.k (k := Sum.inl e.num) ewh
          rw [wdE_at hY he hde] at h1
          exact h1
        have eM4 := e4 _ _ eM fun ps z => by cases z
        refine ⟨_, rfl, wh, _, rfl, g1, _, eM4, small1000 (by rw [List.length_map, List.length_map, List.length_take]; omega), ?_, ?_, Tabs.put T4 eM4 _⟩
        · rw [upd_same, take_more hz, List.map_append, List.map_append]
          rfl
        · exact ExtN.put (e3.trans e4) (fun o z => by rw [nM] at z; cases z) _
    · rintro H3 ⟨eM, e3, T3⟩
      rw [show (D.map V.int).length = D.length from List.length_map _, List.take_length] at eM
      have ep3 := e3 _ _ ep fun ps z => by cases z
      refine ⟨p, M, D.map fun m => (m, st (ens zs) m o e), rfl, ?_, ?_, by rw [List.length_map]; omega, fun r H4 s4 nr hTr => ?_⟩
      · rw [ep3, List.map_map, List.map_map]
        rfl
      · rw [eM, List.map_map, List.map_map, List.map_map]
        rfl
      · have eA : ExtN H H3 := e1.trans ((ExtN.of s2).trans e3)
        exact q r D H4 (eA.trans (.of s4)) (T3.ext s4) (Fresh.of eA nr) hTr hD
abbrev nLearned : List Str := ["book", "deed", "d", "days", "known"]
abbrev pLearned : List Str := ["book", "deed", "d"]
end
end Deed

namespace Deed
open PySem PySem.Spec PyProof.Rows L2 LamX
/-! ### lists of turns as data -/
def tData (l : List (Int × Str)) : PyData := .list (l.map fun q => .tuple [.int q.1, .str q.2])
theorem dp_turns {K : PySem.W.Frag} {H : Hp} : ∀ (zs : List (Addr × (Int × Str))), (∀ z ∈ zs, H z.1 = some (.tup [.int z.2.1, .str z.2.2])) → DpAll K H (zs.map fun z => V.ref z.1) ((zs.map (·.2)).map fun q => PyData.tuple [.int q.1, .str q.2])
  | [], _ => .nil
  | z :: r, h => .cons (.tup (SqT.of (h z List.mem_cons_self)) (.cons (.int _) (.cons (.str _) .nil))) (dp_turns r fun x hx => h x (List.mem_cons_of_mem _ hx))
theorem TurnsAt.dp {K : PySem.W.Frag} {H : Hp} {p : Addr} {l : List (Int × Str)} (h : TurnsAt H p l) : Dp K H (.ref p) (tData l) := by
  obtain ⟨zs, h1, h2, h3⟩ := h
  subst h2
  exact .lst (SqL.of h1) (dp_turns zs h3)
theorem lay_turns : ∀ l : List (Int × Str), (∀ q ∈ l, PyData.strOk q.2 = true) → PyData.canLayAll0 (l.map fun q => PyData.tuple [.int q.1, .str q.2]) = true
  | [], _ => by simp [PyData.canLayAll0]
  | q :: r, h => by simp [PyData.canLayAll0, PyData.canLay0, h q List.mem_cons_self, lay_turns r fun x hx => h x (List.mem_cons_of_mem _ hx)]
theorem depth_turns : ∀ l : List (Int × Str), PyData.depthAll (l.map fun q => PyData.tuple [.int q.1, .str q.2]) ≤ 3
  | [] => by simp [PyData.depthAll]
  | q :: r => by
    have h := depth_turns r
    simp only [List.map_cons, PyData.depthAll, PyData.depth]
    omega
theorem shaped_turns (l : List (Int × Str)) (hok : ∀ q ∈ l, PyData.strOk q.2 = true) : SeqAt.shaped (tData l) = true := by
  have h1 := depth_turns l
  have h2 : PyData.depth (tData l) ≤ 64 := by
    unfold tData
    simp only [PyData.depth]
    omega
  show (PyData.canLay0 (tData l) && decide (PyData.depth (tData l) ≤ 64)) = true
  rw [Bool.and_eq_true]
  exact ⟨by unfold tData; simp only [PyData.canLay0]; exact lay_turns l hok, decide_eq_true h2⟩
theorem eqvAll_turns : ∀ l : List (Int × Str), PyData.eqvAll (l.map fun q => PyData.tuple [.int q.1, .str q.2]) (l.map fun q => PyData.tuple [.int q.1, .str q.2]) = true
  | [] => by simp [PyData.eqvAll]
  | q :: r => by simp [PyData.eqvAll, PyData.eqv, eqvAll_turns r]
theorem eqv_turns (l : List (Int × Str)) : PyData.eqv (tData l) (tData l) = true := by
  unfold tData
  simp only [PyData.eqv]
  exact eqvAll_turns l
theorem eqv_none (l : List (Int × Str)) : PyData.eqv (tData l) (.list []) = l.isEmpty := by
  unfold tData
  cases l with
  | nil => simp [PyData.eqv, PyData.eqvAll]
  | cons q r => simp [PyData.eqv, PyData.eqvAll]
section
variable {P : Program} {w : World} {K : PySem.W.Frag} {mg : Str → Option Value} {base : Heap} {T : List (Addr × Str)}
abbrev sLTurns : Stmt := topS 62
abbrev nLTurns : List Str := ["_law_rows", "_law_found", "_law_day_here", "_law_word"]
theorem scLTurns : FnScope nLTurns ["_law_rows"] (defScope sLTurns) := ⟨rfl, rfl, rfl, by decide +kernel, rfl, by decide +kernel, by decide +kernel⟩
def spLTurns : Sp := fun vs H Q _ => ∃ (a : Addr) (ps : List (Int × Str)), vs = [.ref a] ∧ TurnsAt H a ps ∧ (∀ q ∈ ps, PyData.strOk q.2 = true) ∧ ps.length ≤ 60 ∧ ∀ (p : Addr) (H' : Hp), Same H H' → H p = none → TurnsAt H' p (tns ps) → Q (.ref p) H'
theorem ok_lTurns {f : Addr} {fd : FuncData} {k : Nat} (F : Fun K "_law_turns" "_law_turns" sLTurns f fd) : FnOk P w K mg base CX0 (k + 1) f fd ["_law_rows"] spLTurns := by
  refine F.ok scLTurns (fun vs H Q E h => ?_) (fun cdv A outer s H vs Q E hr h => ?_)
  · obtain ⟨a, ps, rfl, _⟩ := h
    rfl
  · obtain ⟨a, ps, rfl, ⟨ws, ea, ew, hw⟩, hok, hl, q⟩ := h
    have nd := scLTurns.nd
    refine ⟨_, pss_cons (ps_set (i := 1) nd rfl (.inl rfl) (pe_lst pa_nil))
      (pss_cons (ps_for PassesOwn.never rfl (pi_list (pv 0)) (pg_tup (by rfl) (pgs_cons (pg_name (i := 2) nd rfl (.inl rfl)) (pgs_cons (pg_name (i := 3) nd rfl (.inl rfl)) pgs_nil)))
        (pss_one (ps_if (PW.pt (pw_or (pt_cmpR (op_eqD hr.units) (pv 1) (pe_lst pa_nil) (nomark _)) (pw_or1 (pt_cmpR op_ne (pe_ix ix_tup (pe_ix ix_list (pv 1) (pe_un un_neg pe_int) (fun _ _ => rfl)) pe_int (fun _ _ => rfl)) (pv 3) (nomark _)))))
          (pss_one (ps_expr (pe_bm PySem.F.plainAttrs_list PySem.F.slot_list_append PySem.F.type_list_append mt_append (pv 1) (pa_cons (pe_tup (pa_cons (pv 2) (pa_cons (pv 3) pa_nil))) pa_nil)))) pss_nil)))
      (pss_one (ps_ret (pv 1)))), ?_⟩
    refine ⟨Nat.zero_le _, fun l nl => ?_⟩
    have s0 := sNew nl (.lst [])
    have e0 : (upd H l (.lst [])) l = some (.lst []) := upd_same
    generalize (upd H l (.lst [])) = H0 at s0 e0
    refine ⟨_, rfl, a, rfl, ⟨_, SqL.of (s0 _ _ ea)⟩, ?_⟩
    refine for_list (K := K) (a := a) (xs := ws.map fun z => V.ref z.1) (fun i σ H' => ∃ y3 y4, σ = [some (.ref a), some (.ref l), y3, y4] ∧ Same H H' ∧ TurnsAt H' l (tns (ps.take i))) ⟨none, none, rfl, s0, [], e0, rfl, fun _ h => nomatch h⟩ (fun i σ H' _ h => ?_) ?_ ?_
    · obtain ⟨_, _, _, sm, _⟩ := h
      exact SqL.of (sm _ _ ea)
    · rintro i x σ H1 hx ⟨y3, y4, rfl, sm, zs, el, ez, hz⟩
      rw [List.getElem?_map] at hx
      cases hq : ws[i]? with
      | none => rw [hq] at hx; cases hx
      | some wz =>
        rw [hq] at hx
        injection hx with hx
        subst hx
        have eT := sm _ _ (hw wz (List.mem_of_getElem? hq))
        have hp : ps[i]? = some wz.2 := by rw [← ew, List.getElem?_map, hq]; rfl
        have hok1 : PyData.strOk wz.2.2 = true := hok _ (List.mem_of_getElem? hp)
        generalize wz.2 = pr at eT hp hok1
        refine ⟨wz.1, _, rfl, SqT.of eT, rfl, _, _, rfl, _, _, rfl, rfl, ?_⟩
        have hlen : zs.length ≤ 60 := by
          have h1 := congrArg List.length ez
          rw [List.length_map] at h1
          have h2 := tns_len (ps.take i)
          rw [List.length_take] at h2
          omega
        have hokz : ∀ q ∈ zs.map (·.2), PyData.strOk q.2 = true := fun q hqq => by
          rw [ez] at hqq
          exact hok q (List.mem_of_mem_take (mem_tns hqq))
        rw [take_more hp, tns_snoc, ← ez]
        refine ⟨_, rfl, Nat.zero_le _, fun l2 nl2 => ?_⟩
        have s2 := sNew nl2 (.lst [])
        have el20 : (upd H1 l2 (.lst [])) l2 = some (.lst []) := upd_same
        generalize (upd H1 l2 (.lst [])) = H2 at s2 el20
        have sm2 := sm.trans s2
        have el2 := s2 _ _ el
        have hz2 := fun z hzz => s2 _ _ (hz z hzz)
        -- behind the append
        have behind : ∀ (tp : Addr) (H3 : Hp), H2 tp = none → H3 = upd H2 tp (.tup [.int pr.1, .str pr.2]) → H3 l = some (.lst (zs.map fun z => V.ref z.1)) ∧ Same H (upd H3 l (.lst ((zs.map fun z => V.ref z.1) ++ [.ref tp]))) ∧ TurnsAt (upd H3 l (.lst ((zs.map fun z => V.ref z.1) ++ [.ref tp]))) l (zs.map (·.2) ++ [pr]) := by
          rintro tp H3 ntp rfl
          have s3 := sNew ntp (.tup [.int pr.1, .str pr.2])
          have e3 : (upd H2 tp (.tup [.int pr.1, .str pr.2])) tp = some (.tup [.int pr.1, .str pr.2]) := upd_same
          generalize (upd H2 tp (.tup [.int pr.1, .str pr.2])) = H3 at s3 e3
          have nlt : tp ≠ l := fun z => by
            rw [z, el2] at ntp
            cases ntp
          refine ⟨s3 _ _ el2, fun b0 o0 h0 => ?_, TurnsAt.snoc upd_same (by rw [upd_ne nlt]; exact e3) fun z hzz => ?_⟩
          · rw [upd_ne (ne_of_none h0 nl)]
            exact s3 _ _ (sm2 _ _ h0)
          · have h1 := s3 _ _ (hz2 z hzz)
            have nzl : z.1 ≠ l := fun w => by
              rw [w, s3 _ _ el2] at h1
              cases h1
            rw [upd_ne nzl]
            exact h1
        have hT2 : TurnsAt H2 l (zs.map (·.2)) := ⟨zs, el2, rfl, hz2⟩
        refine ⟨tData (zs.map (·.2)), .list [], hT2.dp, .lst (SqL.of el20) .nil, shaped_turns _ hokz, by decide +kernel, _, rfl, ?_⟩
        rw [eqv_none]
        rcases List.eq_nil_or_concat zs with e1 | ⟨init, zl, e1⟩
        · have est : stepT (zs.map (·.2)) pr = zs.map (·.2) ++ [pr] := by
            rw [e1]
            rfl
          rw [est, show ((zs.map (·.2)).isEmpty) = true from by rw [e1]; rfl]
          refine iteT ?_
          refine iteT ?_
          refine ⟨_, rfl, .inl ⟨rfl, _, SqL.of el2⟩, _, rfl, _, rfl, (by show 2 ≤ sizeLine; decide), fun tp ntp => ?_⟩
          obtain ⟨b1, b2, b3⟩ := behind tp _ ntp rfl
          refine ⟨l, _, _, rfl, rfl, b1, small1000 (by rw [List.length_map]; omega), ?_⟩
          exact ⟨_, _, rfl, b2, b3⟩
        · have e2 : zs = init ++ [zl] := by rw [e1, List.concat_eq_append]
          have elast : zs.map (fun z => V.ref z.1) = init.map (fun z => V.ref z.1) ++ [.ref zl.1] := by rw [e2, List.map_append]; rfl
          have ezl := hz2 zl (by rw [e2]; simp)
          have elw : lastW (zs.map (·.2)) = some zl.2.2 := by
            rw [e2, List.map_append]
            simp [lastW]
          rw [show ((zs.map (·.2)).isEmpty) = false from by rw [e2]; simp]
          refine iteF ?_
          refine ⟨_, rfl, _, rfl, l, _, -1, .ref zl.1, rfl, rfl, SqL.of el2, by rw [elast]; exact atI_last _ _, zl.1, _, 1, _, rfl, rfl, SqT.of ezl, atI_nat (j := 1) rfl, _, rfl, rfl, _, rfl, ?_⟩
          by_cases hw : zl.2.2 = pr.2
          · rw [decide_eq_true (show V.str zl.2.2 = V.str pr.2 by rw [hw])]
            refine iteF ?_
            have est : stepT (zs.map (·.2)) pr = zs.map (·.2) := by
              unfold stepT
              rw [if_pos (by rw [elw, hw])]
            rw [est]
            exact ⟨_, _, rfl, sm2, hT2⟩
          · rw [decide_eq_false (show ¬ V.str zl.2.2 = V.str pr.2 from fun z => hw (by injection z))]
            refine iteT ?_
            have est : stepT (zs.map (·.2)) pr = zs.map (·.2) ++ [pr] := by
              unfold stepT
              rw [if_neg (by rw [elw]; intro z; injection z with z; exact hw z)]
            rw [est]
            refine ⟨_, rfl, .inl ⟨rfl, _, SqL.of el2⟩, _, rfl, _, rfl, (by show 2 ≤ sizeLine; decide), fun tp ntp => ?_⟩
            obtain ⟨b1, b2, b3⟩ := behind tp _ ntp rfl
            refine ⟨l, _, _, rfl, rfl, b1, small1000 (by rw [List.length_map]; omega), ?_⟩
            exact ⟨_, _, rfl, b2, b3⟩
    · rintro σ H' ⟨y3, y4, rfl, sm, hT⟩
      have hlw : (ws.map fun z => V.ref z.1).length = ps.length := by rw [← ew, List.length_map, List.length_map]
      rw [hlw, List.take_length] at hT
      exact ⟨_, rfl, q l H' sm nl hT⟩
/-! ### marks -/
abbrev sMarks : Stmt := topS 63
abbrev nMarks : List Str := ["_law_book_here", "_law_at", "_law_found", "_law_entry_here"]
abbrev pMarks : List Str := ["_law_book_here", "_law_at"]
theorem scMarks : FnScope nMarks pMarks (defScope sMarks) := ⟨rfl, rfl, rfl, by decide +kernel, rfl, by decide +kernel, by decide +kernel⟩
def spMarks : Sp := fun vs H Q _ => ∃ (b fk t : Addr) (n : Nat) (age : Int) (zs : List (Addr × En)) (pl : Bool), vs = [.ref b, .int (plI pl)] ∧ BookAt H b fk t n age zs ∧
  ∀ (M : List Int) (p : Addr) (H' : Hp), Same H H' → H p = none → H' p = some (.lst (M.map V.int)) → M.Pairwise (· < ·) → (∀ x ∈ M, 0 ≤ x ∧ x ≤ 9999) → (0 : Int) ∈ M → (∀ e ∈ ens zs, dayAt pl e ∈ M) → M.length ≤ 50 → Q (.ref p) H'
theorem ok_marks {f : Addr} {fd : FuncData} {k : Nat} (F : Fun K "_law_marks" "_law_marks" sMarks f fd) (B : Bi mg) (mS : mg "set" = none) : FnOk P w K mg base CX0 (k + 1) f fd pMarks spMarks := by
  refine F.ok scMarks (fun vs H Q E h => ?_) (fun cdv A outer s H vs Q E hr h => ?_)
  · obtain ⟨b, fk, t, n, age, zs, pl, rfl, _⟩ := h
    rfl
  · obtain ⟨b, fk, t, n, age, zs, pl, rfl, hB, q⟩ := h
    have nd := scMarks.nd
    have hl := hB.len
    refine ⟨_, pss_cons (ps_set (i := 2) nd rfl (.inl rfl) (pe_lst (pa_cons pe_int (pa_cons pe_int pa_nil))))
      (pss_cons (ps_for PassesOwn.never rfl (pi_tup (pe_ix ix_tup (pv 0) pe_int (fun _ _ => rfl))) (pg_name (i := 3) nd rfl (.inl rfl))
        (pss_one (ps_set (i := 2) nd rfl (.inl rfl) (pe_op op_cat (pv 2) (pe_lst (pa_cons (pe_callB (call_max2 rfl) (by rfl) B.max (by decide +kernel) (pa_cons pe_int (pa_cons (pe_op op_sub (pe_ix ix_tup (pv 3) (pv 1) (fun _ _ => rfl)) pe_int) pa_nil))) (pa_cons (pe_ix ix_tup (pv 3) (pv 1) (fun _ _ => rfl)) (pa_cons (pe_callB (call_min2 rfl) (by rfl) B.min (by decide +kernel) (pa_cons pe_int (pa_cons (pe_op op_add (pe_ix ix_tup (pv 3) (pv 1) (fun _ _ => rfl)) pe_int) pa_nil))) pa_nil))))))))
      (pss_one (ps_ret (pe_callB (show CallR _ (.builtin "sorted") (rSortedSet w) from cr_sortedSet rfl) (by rfl) B.sorted (by decide +kernel) (pa_cons (pe_callTy (show CallR _ (.type "set") (rSetL K w) from cr_setL rfl) (by rfl) mS (by decide +kernel) (pa_cons (pv 2) pa_nil)) pa_nil))))), ?_⟩
    refine ⟨(by show 2 ≤ sizeLine; decide), fun l nl => ?_⟩
    have s0 := sNew nl (.lst [.int 0, .int 9999])
    have e0 : (upd H l (.lst [.int 0, .int 9999])) l = some (.lst (([0, 9999] : List Int).map V.int)) := upd_same
    generalize (upd H l (.lst [.int 0, .int 9999])) = H0 at s0 e0
    have hB0 := hB.kp (Same.tup s0)
    refine ⟨_, rfl, b, _, 2, _, rfl, rfl, SqT.of hB0.at_, atI_nat (j := 2) rfl, t, rfl, ⟨_, SqT.of hB0.ents⟩, ?_⟩
    refine for_tup (K := K) (a := t) (xs := refs zs) (fun i σ H' => ∃ l y3, ∃ fs : List Int, σ = [some (.ref b), some (.int (plI pl)), some (.ref l), y3] ∧ Same H H' ∧ H' l = some (.lst (fs.map V.int)) ∧ fs.length = 2 + 3 * i ∧ (∀ x ∈ fs, 0 ≤ x ∧ x ≤ 9999) ∧ (0 : Int) ∈ fs ∧ ∀ z ∈ zs.take i, dayAt pl z.2 ∈ fs) ⟨l, none, [0, 9999], rfl, s0, e0, rfl, fun x hx => ?_, by simp, fun z hz => nomatch hz⟩ (fun i σ H' _ h => ?_) ?_ ?_
    · simp only [List.mem_cons, List.not_mem_nil, or_false] at hx
      rcases hx with rfl | rfl <;> omega
    · obtain ⟨_, _, _, _, sm, _⟩ := h
      exact SqT.of (sm _ _ hB.ents)
    · rintro i x σ H1 hx ⟨l1, y3, fs, rfl, sm, el, hfl, hfr, hf0, hfz⟩
      obtain ⟨z, hz, rfl⟩ := ref_at hx
      have hzm : z ∈ zs := List.mem_of_getElem? hz
      have hi : i < zs.length := (List.getElem?_eq_some_iff.mp hz).1
      have oz := hB.ok.ok z.2 (List.mem_map.mpr ⟨z, hzm, rfl⟩)
      obtain ⟨xs, ex, _, g1, g2, _⟩ := ((hB.ent z hzm).kp (Same.tup sm)).tup
      have gv : atI xs (plI pl) = some (.int (dayAt pl z.2)) := by
        cases pl with
        | true => exact g1
        | false => exact g2
      have hv : 0 ≤ dayAt pl z.2 ∧ dayAt pl z.2 ≤ 9999 := by
        unfold dayAt
        cases pl with
        | true => exact oz.1
        | false => exact oz.2.1
      refine ⟨_, rfl, _, rfl, _, rfl, z.1, xs, plI pl, _, rfl, rfl, SqT.of ex, gv, _, _, rfl, rfl, _, _, rfl, ?_⟩
      refine ⟨_, rfl, _, rfl, z.1, xs, plI pl, _, rfl, rfl, SqT.of ex, gv, ?_⟩
      refine ⟨_, rfl, _, rfl, z.1, xs, plI pl, _, rfl, rfl, SqT.of ex, gv, _, _, rfl, rfl, _, _, rfl, ?_⟩
      obtain ⟨m1, em1, hm1⟩ : ∃ m : Int, (if dayAt pl z.2 - 1 > 0 then dayAt pl z.2 - 1 else 0) = m ∧ 0 ≤ m ∧ m ≤ 9999 := ⟨_, rfl, by split <;> omega, by split <;> omega⟩
      obtain ⟨m2, em2, hm2⟩ : ∃ m : Int, (if dayAt pl z.2 + 1 < 9999 then dayAt pl z.2 + 1 else 9999) = m ∧ 0 ≤ m ∧ m ≤ 9999 := ⟨_, rfl, by split <;> omega, by split <;> omega⟩
      dsimp only
      rw [em1, em2]
      obtain ⟨v, hvd⟩ : ∃ v, v = dayAt pl z.2 := ⟨_, rfl⟩
      rw [← hvd]
      rw [← hvd] at hv
      refine ⟨(by show 3 ≤ sizeLine; decide), fun N nN => ?_⟩
      have sN := sNew nN (.lst [.int m1, .int v, .int m2])
      have eN : (upd H1 N (.lst [.int m1, .int v, .int m2])) N = some (.lst (([m1, v, m2] : List Int).map V.int)) := upd_same
      generalize (upd H1 N (.lst [.int m1, .int v, .int m2])) = H2 at sN eN
      refine ⟨l1, N, _, _, rfl, rfl, sN _ _ el, eN, ?_, fun S nS => ?_⟩
      · rw [List.length_map, List.length_map]
        exact Nat.le_of_lt (small1000 (by show fs.length + 3 ≤ 1000; omega))
      · refine ⟨S, _, fs ++ [m1, v, m2], rfl, (sm.trans sN).trans (sNew nS _), by rw [upd_same, List.map_append], by rw [List.length_append, hfl]; show 2 + 3 * i + 3 = _; omega, fun x hx => ?_, List.mem_append.mpr (.inl hf0), fun y hy => ?_⟩
        · rcases List.mem_append.mp hx with hx | hx
          · exact hfr x hx
          · simp only [List.mem_cons, List.not_mem_nil, or_false] at hx
            rcases hx with rfl | rfl | rfl
            · exact hm1
            · exact hv
            · exact hm2
        · rw [take_more hz] at hy
          rcases List.mem_append.mp hy with hy | hy
          · exact List.mem_append.mpr (.inl (hfz y hy))
          · rw [List.mem_singleton.mp hy]
            exact List.mem_append.mpr (.inr (by simp [hvd]))
    · rintro σ H1 ⟨l1, y3, fs, rfl, sm, el, hfl, hfr, hf0, hfz⟩
      rw [show (refs zs).length = zs.length from List.length_map _] at hfl hfz
      rw [List.take_length] at hfz
      refine ⟨_, rfl, l1, fs, rfl, SqL.of el, by unfold scanBound; omega, fun q1 c nq1 hc => ?_⟩
      have s4 := sNew nq1 (SetO w q1 (fun j => decide (j ∈ fs)) c)
      have e4 : (upd H1 q1 (SetO w q1 (fun j => decide (j ∈ fs)) c)) q1 = some (SetO w q1 (fun j => decide (j ∈ fs)) c) := upd_same
      generalize (upd H1 q1 (SetO w q1 (fun j => decide (j ∈ fs)) c)) = H4 at s4 e4
      refine ⟨q1, _, c, rfl, e4, by omega, fun M p up mem len np => ?_⟩
      have s14 := sm.trans s4
      have mem' : ∀ x, x ∈ M ↔ x ∈ fs := fun x => by rw [mem x, decide_eq_true_iff]
      refine q M p _ (s14.trans (sNew np _)) (none_back s14 np) upd_same up (fun x hx => hfr x ((mem' x).mp hx)) ((mem' 0).mpr hf0) (fun e he => ?_) (by omega)
      obtain ⟨z, hz, rfl⟩ := List.mem_map.mp he
      exact (mem' _).mpr (hfz z hz)
end
end Deed

namespace Deed
open PySem PySem.Spec PyProof.Rows L2 LamX
/-! tuples put together and cut, whatever they are: what follows is shown once -/
theorem catA_same {K : PySem.W.Frag} {H : Hp} {a b : Addr} {xs ys : List V} {Q : VK} (ha : H a = some (.tup xs)) (hb : H b = some (.tup ys)) (hl : xs.length + ys.length ≤ 1000) (q : ∀ t H', Same H H' → H' t = some (.tup (xs ++ ys)) → Q (.ref t) H') : rCatA K (.ref a) (.ref b) H Q := by
  refine ⟨a, b, xs, ys, rfl, rfl, SqT.of ha, SqT.of hb, Nat.le_of_lt (small1000 hl), fun e => ?_, fun _ e => ?_, fun _ _ p np => q p _ (same_new np _) upd_same⟩
  · subst e
    exact q b H (same_refl _) hb
  · subst e
    exact q a H (same_refl _) (by rw [List.append_nil]; exact ha)
theorem slA_same {K : PySem.W.Frag} {H : Hp} {a : Addr} {xs : List V} {lo hi : Option Int} {Q : VK} (ha : H a = some (.tup xs)) (q : ∀ t H', Same H H' → H' t = some (.tup (cutV xs lo hi)) → Q (.ref t) H') : rSlA K (.ref a) lo hi H Q := by
  refine ⟨a, xs, rfl, SqT.of ha, fun e => ?_, fun _ p np => q p _ (same_new np _) upd_same⟩
  refine q a H (same_refl _) ?_
  rw [ha]
  unfold cutV
  rw [e.1, e.2, List.drop_zero, Nat.sub_zero, List.take_length]
end Deed

namespace Deed
open PySem PySem.Spec PyProof.Rows L2 LamX
/-! entries as data -/
def entD (e : En) : PyData := match e.kd with
  | .deed g t rs ws => .tuple [.int e.num, .int e.day, .int e.wri, .int e.hand, .str "deed", .int g, .int t, .tuple (rs.map PyData.int), .tuple (ws.map PyData.int)]
  | .act x o => .tuple [.int e.num, .int e.day, .int e.wri, .int e.hand, .str x, .int o]
theorem EntAt.dp {K : PySem.W.Frag} {H : Hp} {a : Addr} {e : En} (h : EntAt H a e) : Dp K H (.ref a) (entD e) := by
  unfold EntAt at h
  unfold entD
  cases hk : e.kd with
  | deed g t rs ws =>
    rw [hk] at h
    obtain ⟨r, w, h1, h2, h3⟩ := h
    exact .tup (SqT.of h1) (.cons (.int _) (.cons (.int _) (.cons (.int _) (.cons (.int _) (.cons (.str _) (.cons (.int _) (.cons (.int _) (.cons (.tup (SqT.of h2) (dp_ints rs)) (.cons (.tup (SqT.of h3) (dp_ints ws)) .nil)))))))))
  | act x o =>
    rw [hk] at h
    exact .tup (SqT.of h) (.cons (.int _) (.cons (.int _) (.cons (.int _) (.cons (.int _) (.cons (.str _) (.cons (.int _) .nil))))))
theorem dp_ents {K : PySem.W.Frag} {H : Hp} : ∀ zs : List (Addr × En), (∀ z ∈ zs, EntAt H z.1 z.2) → DpAll K H (refs zs) ((ens zs).map entD)
  | [], _ => .nil
  | z :: r, h => .cons (h z List.mem_cons_self).dp (dp_ents r fun x hx => h x (List.mem_cons_of_mem _ hx))
theorem EnOk.lay {n : Nat} {ds as : List Int} {e : En} (h : EnOk n ds as e) : PyData.canLay0 (entD e) = true := by
  unfold entD
  cases hk : e.kd with
  | deed g t rs ws =>
    have h1 := lay_ints rs
    have h2 := lay_ints ws
    simp only [PyData.canLay0, PyData.canLayAll0, h1, h2, Bool.and_true, Bool.true_and]
    decide +kernel
  | act x o =>
    have h4 := h.2.2.2
    rw [hk] at h4
    have hx : PyData.strOk x = true := by rcases h4.1 with ⟨z, _⟩ | ⟨z | z, _⟩ <;> rw [z] <;> decide +kernel
    simp [PyData.canLay0, PyData.canLayAll0, hx]
theorem lay_ents {n : Nat} {ds as : List Int} : ∀ es : List En, (∀ e ∈ es, EnOk n ds as e) → PyData.canLayAll0 (es.map entD) = true
  | [], _ => by simp [PyData.canLayAll0]
  | e :: r, h => by
    simp [PyData.canLayAll0, (h e List.mem_cons_self).lay, lay_ents r fun x hx => h x (List.mem_cons_of_mem _ hx)]
theorem depth_ent (e : En) : PyData.depth (entD e) ≤ 4 := by
  unfold entD
  cases e.kd with
  | deed g t rs ws =>
    have h1 := depth_ints rs
    have h2 := depth_ints ws
    simp only [PyData.depth, PyData.depthAll]
    omega
  | act x o =>
    simp only [PyData.depth, PyData.depthAll]
    omega
theorem depth_ents : ∀ es : List En, PyData.depthAll (es.map entD) ≤ 5
  | [] => by simp [PyData.depthAll]
  | e :: r => by
    have h1 := depth_ent e
    have h2 := depth_ents r
    simp only [List.map_cons, PyData.depthAll]
    omega
theorem shaped_entsT {n : Nat} {ds as : List Int} (es : List En) (h : ∀ e ∈ es, EnOk n ds as e) : SeqAt.shaped (.tuple (es.map entD)) = true := by
  have h1 := depth_ents es
  have h2 : PyData.depth (.tuple (es.map entD)) ≤ 64 := by
    simp only [PyData.depth]
    omega
  show (PyData.canLay0 (.tuple (es.map entD)) && decide (PyData.depth (.tuple (es.map entD)) ≤ 64)) = true
  rw [Bool.and_eq_true]
  exact ⟨by simp only [PyData.canLay0]; exact lay_ents es h, decide_eq_true h2⟩
theorem shaped_entsL {n : Nat} {ds as : List Int} (es : List En) (h : ∀ e ∈ es, EnOk n ds as e) : SeqAt.shaped (.list (es.map entD)) = true := by
  have h1 := depth_ents es
  have h2 : PyData.depth (.list (es.map entD)) ≤ 64 := by
    simp only [PyData.depth]
    omega
  show (PyData.canLay0 (.list (es.map entD)) && decide (PyData.depth (.list (es.map entD)) ≤ 64)) = true
  rw [Bool.and_eq_true]
  exact ⟨by simp only [PyData.canLay0]; exact lay_ents es h, decide_eq_true h2⟩
theorem eqvT_nil (l : List PyData) : PyData.eqv (.tuple l) (.tuple []) = decide (l = []) := by
  cases l <;> simp [PyData.eqv, PyData.eqvAll]
theorem eqvL_nil (l : List PyData) : PyData.eqv (.list l) (.list []) = decide (l = []) := by
  cases l <;> simp [PyData.eqv, PyData.eqvAll]
/-! cuts -/
theorem cut_to (xs : List V) (k : Nat) : cutV xs none (some (k : Int)) = xs.take k := by
  unfold cutV
  rw [HT.sIx_none, HT.sIx_nat, List.drop_zero, Nat.sub_zero, List.take_eq_take_iff]
  omega
theorem cut_from (xs : List V) (k : Nat) : cutV xs (some (k : Int)) none = xs.drop k := by
  unfold cutV
  rw [HT.sIx_none, HT.sIx_nat]
  rw [List.take_of_length_le (by rw [List.length_drop]; omega)]
  rcases Nat.le_total k xs.length with h | h
  · rw [Nat.min_eq_left h]
  · rw [Nat.min_eq_right h, List.drop_length, List.drop_eq_nil_of_le h]
/-! a book with one entry otherwise, and with one gone -/
theorem dn_swap {A B : List En} {e e' : En} (hn : e'.num = e.num) (hd : e'.isDeed = e.isDeed) : dn (A ++ e' :: B) = dn (A ++ e :: B) := by
  unfold dn
  rw [List.filter_append, List.filter_append, List.filter_cons, List.filter_cons, hd]
  cases e.isDeed <;> simp [hn]
theorem an_swap {A B : List En} {e e' : En} (hn : e'.num = e.num) (hd : e'.isDeed = e.isDeed) : an (A ++ e' :: B) = an (A ++ e :: B) := by
  unfold an
  rw [List.filter_append, List.filter_append, List.filter_cons, List.filter_cons, hd]
  cases e.isDeed <;> simp [hn]
theorem BkOk.swap {n : Nat} {A B : List En} {e e' : En} (h : BkOk n (A ++ e :: B)) (hn : e'.num = e.num) (hd : e'.isDeed = e.isDeed) (ho : EnOk n (dn (A ++ e :: B)) (an (A ++ e :: B)) e') : BkOk n (A ++ e' :: B) := by
  refine ⟨?_, fun x hx => ?_, fun x hx => ?_⟩
  · have := h.nd
    rw [List.map_append, List.map_cons] at this ⊢
    rw [hn]
    exact this
  · rcases List.mem_append.mp hx with hx | hx
    · exact h.rng x (List.mem_append.mpr (.inl hx))
    · rcases List.mem_cons.mp hx with rfl | hx
      · rw [hn]
        exact h.rng e (by simp)
      · exact h.rng x (by simp [hx])
  · rw [dn_swap hn hd, an_swap hn hd]
    rcases List.mem_append.mp hx with hx | hx
    · exact h.ok x (List.mem_append.mpr (.inl hx))
    · rcases List.mem_cons.mp hx with rfl | hx
      · exact ho
      · exact h.ok x (by simp [hx])
/-- the numbers that an entry names -/
def En.names (e : En) : List Int := match e.kd with
  | .deed _ _ rs _ => rs
  | .act _ o => [o]
theorem EnOk.names_len {n : Nat} {ds as : List Int} {e : En} (h : EnOk n ds as e) : e.names.length ≤ 2 := by
  unfold En.names
  cases hk : e.kd with
  | deed g t rs ws =>
    have h4 := h.2.2.2
    rw [hk] at h4
    exact h4.2.2.2.1
  | act x o =>
    show 1 ≤ 2
    omega
theorem EnOk.less {n : Nat} {ds as ds' as' : List Int} {e : En} (h : EnOk n ds as e) (h1 : ∀ x ∈ e.names, x ∈ ds → x ∈ ds') (h2 : ∀ x ∈ e.names, x ∈ as → x ∈ as') : EnOk n ds' as' e := by
  unfold EnOk at h ⊢
  obtain ⟨a, b, c, d⟩ := h
  refine ⟨a, b, c, ?_⟩
  unfold En.names at h1 h2
  cases hk : e.kd with
  | deed g t rs ws =>
    rw [hk] at d h1
    obtain ⟨d1, d2, d3, d4, d5, d6, d7⟩ := d
    exact ⟨d1, d2, d3, d4, d5, fun r hr => ⟨h1 r hr (d6 r hr).1, (d6 r hr).2⟩, d7⟩
  | act x o =>
    rw [hk] at d h1 h2
    refine ⟨?_, d.2⟩
    rcases d.1 with ⟨z, ho⟩ | ⟨z, ho⟩
    · exact .inl ⟨z, h2 o (by simp) ho⟩
    · exact .inr ⟨z, h1 o (by simp) ho⟩
theorem BkOk.gone {n : Nat} {A B : List En} {e : En} (h : BkOk n (A ++ e :: B)) (hno : ∀ u ∈ A ++ e :: B, e.num ∉ u.names) : BkOk n (A ++ B) := by
  have sub : (A ++ B).Sublist (A ++ e :: B) := (List.Sublist.refl A).append (List.sublist_cons_self e B)
  have mem : ∀ x ∈ A ++ B, x ∈ A ++ e :: B := fun x hx => sub.subset hx
  have back : ∀ u ∈ A ++ e :: B, u.num ≠ e.num → u ∈ A ++ B := fun u hu hne => by
    rcases List.mem_append.mp hu with hu | hu
    · exact List.mem_append.mpr (.inl hu)
    · rcases List.mem_cons.mp hu with rfl | hu
      · exact absurd rfl hne
      · exact List.mem_append.mpr (.inr hu)
  refine ⟨(sub.map _).nodup h.nd, fun x hx => h.rng x (mem x hx), fun x hx => (h.ok x (mem x hx)).less (fun y hy hd => ?_) (fun y hy hd => ?_)⟩
  · obtain ⟨u, hu, h1, rfl⟩ := mem_dn.mp hd
    exact mem_dn.mpr ⟨u, back u hu (fun q => hno x (mem x hx) (q ▸ hy)), h1, rfl⟩
  · obtain ⟨u, hu, h1, rfl⟩ := mem_an.mp hd
    exact mem_an.mpr ⟨u, back u hu (fun q => hno x (mem x hx) (q ▸ hy)), h1, rfl⟩
/-- an entry by its first four places -/
theorem EntAt.four {H : Hp} {a : Addr} {e : En} (h : EntAt H a e) : ∃ r : List V, r.length ≤ 5 ∧ H a = some (.tup (.int e.num :: .int e.day :: .int e.wri :: .int e.hand :: r)) ∧ ∀ (H' : Hp) (a' : Addr) (d w : Int), KpT H H' → H' a' = some (.tup (.int e.num :: .int d :: .int w :: .int e.hand :: r)) → EntAt H' a' { e with day := d, wri := w } := by
  unfold EntAt at h ⊢
  cases hk : e.kd with
  | deed g t rs ws =>
    rw [hk] at h
    obtain ⟨r, w, h1, h2, h3⟩ := h
    exact ⟨_, by simp, h1, fun H' a' d w' k e' => ⟨r, w, e', k _ _ h2, k _ _ h3⟩⟩
  | act x o =>
    rw [hk] at h
    exact ⟨_, by simp, h, fun H' a' d w' k e' => e'⟩
end Deed

namespace Deed
section
open PySem PySem.Spec PySem.W PyProof.Rows L2 LamX
theorem alike_ent (e u : En) : alike (entD e) (entD u) = true := by
  unfold entD
  cases e.kd <;> cases u.kd <;> simp [alike, alikeAll, alike_ints]
theorem eqv_ent_self (e : En) : PyData.eqv (entD e) (entD e) = true := eqv_refl_alike _ (alike_ent e e)
theorem eqv_ent_ne {e u : En} (h : e.num ≠ u.num) : PyData.eqv (entD e) (entD u) = false := by
  unfold entD
  cases e.kd <;> cases u.kd <;> simp [PyData.eqv, PyData.eqvAll, h]
end
open PySem PySem.Spec PyProof.Rows L2 LamX
theorem EnOk.names_lt {n : Nat} {ds as : List Int} {e : En} (h : EnOk n ds as e) {m : Int} (hm : m ∈ e.names) : m < e.num ∧ (m ∈ ds ∨ m ∈ as) := by
  have h4 := h.2.2.2
  unfold En.names at hm
  cases hk : e.kd with
  | deed g t rs ws =>
    rw [hk] at h4 hm
    exact ⟨(h4.2.2.2.2.2.1 m hm).2, .inl (h4.2.2.2.2.2.1 m hm).1⟩
  | act x o =>
    rw [hk] at h4 hm
    rw [List.mem_singleton.mp hm]
    rcases h4.1 with ⟨_, z⟩ | ⟨_, z⟩
    · exact ⟨h4.2, .inr z⟩
    · exact ⟨h4.2, .inl z⟩
end Deed

namespace Deed
open PySem PySem.Spec PySem.W PyProof.Rows L2 LamX
/-! ### max(t, key=f) of a tuple: f pure, its answers whole numbers -/
/-- what stood stands -/
abbrev Gr (g h : Heap) : Prop := ∀ b o, g.get? b = some o → h.get? b = some o
section
variable {prog : Program} {w : World} {A : Around} {E : Value → Shared → Prop} {s : Shared} {I S t f : Addr} {vs : List Value} {R : Result → Shared → Prop}
/-- the cell of the best so far: the item, its answer -/
abbrev bestO (v : Value) (i : Int) (u : Tok) (c : Nat) : Obj := seqObj "list" #[v, .int i u] c
theorem gr_pop {g h h' : Heap} (x : Gr g h) (no : g.get? I = none) (y : ∀ b o, b ∉ [I] → h.get? b = some o → h'.get? b = some o) : Gr g h' := fun b o e => y b o (fun z => by rw [List.mem_singleton.mp z, no] at e; cases e) (x b o e)
theorem gr_put {g h h' : Heap} (x : Gr g h) (no : g.get? S = none) (y : Heap.SameBut S h h') : Gr g h' := fun b o e => (y.2 b fun z => by rw [z, no] at e; cases e).trans (x b o e)
theorem max_rest (kf : Nat → Int) (hot : A.handled = none) (ht : s.heap.IsTuple t vs.toArray) (nI : s.heap.get? I = none) (nS : s.heap.get? S = none) (IS : I ≠ S) (tI : t ≠ I)
    (ask : ∀ i v, vs[i]? = some v → ∀ h tk, Gr s.heap h → wpAny (model prog w) A.in1 (call (.ref f) [v]) (KeyPure (.int (kf i)) { s with heap := h, toks := tk }) (fun _ _ => False) { s with heap := h, toks := tk })
    (fin : ∀ i v h tk, vs[i]? = some v → (∀ j, j < vs.length → kf j ≤ kf i) → (∀ j, j < i → kf j < kf i) → Gr s.heap h → R (.ok (.ret v)) { s with heap := h, toks := tk }) :
    ∀ (left j i : Nat) (h : Heap) (tk : Nat) (v : Value) (u : Tok) (c : Nat), vs.length = j + 1 + left → Gr s.heap h → h.get? S = some (bestO v (kf i) u c) → h.IsTupleIter I t (j + 1) → vs[i]? = some v → i ≤ j → (∀ m, m ≤ j → kf m ≤ kf i) → (∀ m, m < i → kf m < kf i) →
      codeAny (model prog w) A (.builtin "max.loop" ⟨[.ref I, .ref f, .ref S], []⟩) R { s with heap := h, toks := tk } := by
  have nm : (toString "max" ++ toString ".loop" : String) = "max.loop" := by decide
  have walk := Walks.tuple (prog := prog) (w := w) (A := A.in1) hot I t tI vs.toArray
  have size : vs.toArray.size = vs.length := List.size_toArray ..
  intro left
  induction left with
  | zero =>
    intro j i h tk v u c len g eS it ev _ top low
    refine codeAny_builtin PySem.F.entry_max_loop ?_
    rw [Around.under_plainId PySem.F.plain_max_loop _]
    refine wpAny_bind (wpAny_seqItems eS rfl ?_)
    show wpAny _ A.in1 (tryCatch (pyNext (.ref I)) _ >>= _) _ _ _
    refine wpAny_bind (wpAny_tryCatch (walk.done { s with heap := h, toks := tk } _ _ ⟨by rw [size, len]; exact it, ht.at (g _)⟩ fun h' tk' kp => ?_))
    have eS' := kp S _ (fun z => IS (List.mem_singleton.mp z).symm) eS
    show wpAny _ A.in1 (updateSeq S (fun _ => #[]) >>= _) _ _ _
    refine wpAny_bind (wpAny_updateSeq eS' rfl (wpAny_bind (wpAny_letGo (wpAny_pure ?_))))
    exact fin i v _ _ ev (fun m hm => top m (by omega)) low (gr_put (gr_pop g nI kp) nS (Heap.SameBut.update h' S (Obj.mapSeq fun _ => (#[] : Array Value))))
  | succ left ih =>
    intro j i h tk v u c len g eS it ev ij top low
    refine codeAny_builtin PySem.F.entry_max_loop ?_
    rw [Around.under_plainId PySem.F.plain_max_loop _]
    refine wpAny_bind (wpAny_seqItems eS rfl ?_)
    show wpAny _ A.in1 (tryCatch (pyNext (.ref I)) _ >>= _) _ _ _
    refine wpAny_bind (wpAny_tryCatch (walk.item (j + 1) { s with heap := h, toks := tk } _ _ (by omega) ⟨it, ht.at (g _)⟩ fun x h' tk' px st kp => ?_))
    have ex : vs[j + 1]? = some x := by simpa using px
    have g1 := gr_pop g nI kp
    have eS1 := kp S _ (fun z => IS (List.mem_singleton.mp z).symm) eS
    show wpAny _ A.in1 (tryCatch (holding [x] (call (.ref f) [x])) _ >>= _) _ _ _
    refine wpAny_bind (wpAny_tryCatch (wpAny_holding (wpAny_mono (ask (j + 1) x ex h' tk' g1) (fun y s2 told => ?_) fun _ _ no => no.elim)))
    obtain ⟨h2, tk2, rfl, g2, rd⟩ := told
    obtain ⟨u2, rfl⟩ : ∃ u2, y = .int (kf (j + 1)) u2 := by
      cases rd
      exact ⟨_, rfl⟩
    have eS2 := g2 _ _ eS1
    have it2 : h2.IsTupleIter I t (j + 1 + 1) := st.1.at (g2 _)
    have g3 : Gr s.heap h2 := fun b o e => g2 b o (g1 b o e)
    show wpAny _ A.in1 (tryCatch (holding [x, .int (kf (j + 1)) u2] (richCompare .Gt (.int (kf (j + 1)) u2) (.int (kf i) u) >>= _)) _ >>= _) _ _ _
    refine wpAny_bind (wpAny_tryCatch (wpAny_holding (wpAny_bind (CmpOf.ints_gt (P := fun m z => ∃ u, z = .int (kf m) u) kf (fun _ _ z => z) (j + 1) i _ _ _ _ _ ⟨u2, rfl⟩ ⟨u, rfl⟩ (wpAny_bind (wpAny_holding (wpAny_truthy_bool (wpAny_bind (wpAny_letGo (wpAny_pure ?_))))))))))
    by_cases more : kf (j + 1) > kf i
    · simp only [more, decide_true, if_true]
      obtain ⟨c2, eS3⟩ : ∃ c2, (h2.update S (Obj.mapSeq fun _ => #[x, .int (kf (j + 1)) u2])).get? S = some (bestO x (kf (j + 1)) u2 c2) := ⟨_, get?_update_seq eS2 fun _ => #[x, .int (kf (j + 1)) u2]⟩
      have but := Heap.SameBut.update h2 S (Obj.mapSeq fun _ => #[x, .int (kf (j + 1)) u2])
      refine wpAny_bind (wpAny_updateSeq eS2 rfl (wpAny_bind (wpAny_letGo ?_)))
      rw [nm]
      refine wpAny_pure ⟨plainId_quiet PySem.F.plain_max_loop _, ih (j + 1) (j + 1) _ _ x u2 c2 (by omega) (gr_put g3 nS but) eS3 (it2.at fun o e => (but.2 I IS).trans e) ex (Nat.le_refl _) (fun m hm => ?_) fun m hm => ?_⟩
      · rcases Nat.lt_or_ge m (j + 1) with h1 | h1
        · have := top m (by omega)
          omega
        · rw [show m = j + 1 by omega]
          exact Int.le_refl _
      · have := top m (by omega)
        omega
    · simp only [more, decide_false, Bool.false_eq_true, if_false]
      refine wpAny_bind (wpAny_letGo ?_)
      rw [nm]
      refine wpAny_pure ⟨plainId_quiet PySem.F.plain_max_loop _, ih (j + 1) i _ _ v u c (by omega) g3 eS2 it2 ev (by omega) (fun m hm => ?_) low⟩
      rcases Nat.lt_or_ge m (j + 1) with h1 | h1
      · exact top m (by omega)
      · rw [show m = j + 1 by omega]
        omega
theorem max_tup {Q : Value → Shared → Prop} (kf : Nat → Int) (hot : A.handled = none) (ht : s.heap.IsTuple t vs.toArray) (some_ : 0 < vs.length)
    (ask : ∀ i v, vs[i]? = some v → ∀ h tk, Gr s.heap h → wpAny (model prog w) A.in1 (call (.ref f) [v]) (KeyPure (.int (kf i)) { s with heap := h, toks := tk }) (fun _ _ => False) { s with heap := h, toks := tk })
    (fin : ∀ i v h tk, vs[i]? = some v → (∀ j, j < vs.length → kf j ≤ kf i) → (∀ j, j < i → kf j < kf i) → Gr s.heap h → Q v { s with heap := h, toks := tk }) :
    wpAny (model prog w) A (call (.builtin "max") [.ref t] [(Str.ofString "key", .ref f)]) Q E s := by
  have nm : (toString "max" ++ toString ".loop" : String) = "max.loop" := by decide
  have size : vs.toArray.size = vs.length := List.size_toArray ..
  have tl : t < s.heap.objs.size := by
    obtain ⟨o, e, _⟩ := ht
    exact Heap.lt_size e
  refine kmk_tree PySem.F.kind_max PySem.F.plain_max PySem.F.entry_max (kmk_max_key _ _) ?_
  show wpAny _ A.in1 (Builtin.Builtins.bindParams "max" ["key", "default"] 0 ⟨[], [(Str.ofString "key", .ref f)]⟩ >>= _) _ _ s
  refine wpAny_bind (wpAny_of_eq (show Builtin.Builtins.bindParams "max" ["key", "default"] 0 ⟨[], [(Str.ofString "key", .ref f)]⟩ = pure [some (.ref f), none] from rfl) (wpAny_bind (wpAny_pure (wpAny_bind (wpAny_pyIter_tuple ht (wpAny_bind (wpAny_newList ?_ (Nat.zero_le _))))))))
  rw [nm]
  have zS : (s.heap.push { cls := .type "tuple_iterator", data := .fields #[.ref t, .int 0 0] }).objs.size = s.heap.objs.size + 1 := size_push' ..
  rw [zS]
  have tI : t ≠ s.heap.objs.size := Nat.ne_of_lt tl
  have IS : s.heap.objs.size ≠ s.heap.objs.size + 1 := Nat.ne_of_lt (Nat.lt_succ_self _)
  have nI : s.heap.get? s.heap.objs.size = none := Heap.get?_none_of_le (Nat.le_refl _)
  have nS : s.heap.get? (s.heap.objs.size + 1) = none := Heap.get?_none_of_le (Nat.le_succ _)
  have g0 : Gr s.heap ((s.heap.push { cls := .type "tuple_iterator", data := .fields #[.ref t, .int 0 0] }).push (seqObj "list" #[] 0)) := fun b o e => Heap.get?_push_of_some _ (Heap.get?_push_of_some _ e)
  have eI : ((s.heap.push { cls := .type "tuple_iterator", data := .fields #[.ref t, .int 0 0] }).push (seqObj "list" #[] 0)).get? s.heap.objs.size = some { cls := .type "tuple_iterator", data := .fields #[.ref t, .int 0 0] } := Heap.get?_push_of_some _ (Heap.get?_push_size _ rfl)
  have eS : ((s.heap.push { cls := .type "tuple_iterator", data := .fields #[.ref t, .int 0 0] }).push (seqObj "list" #[] 0)).get? (s.heap.objs.size + 1) = some (seqObj "list" #[] 0) := by
    rw [← zS]
    exact Heap.get?_push_size _ rfl
  have walk := Walks.tuple (prog := prog) (w := w) (A := A.in1) hot s.heap.objs.size t tI vs.toArray
  refine wpAny_pure ⟨plainId_quiet PySem.F.plain_max_loop _, codeAny_builtin PySem.F.entry_max_loop ?_⟩
  rw [Around.under_plainId PySem.F.plain_max_loop _]
  refine wpAny_bind (wpAny_seqItems eS rfl ?_)
  show wpAny _ A.in1 (tryCatch (pyNext (.ref s.heap.objs.size)) _ >>= _) _ _ _
  refine wpAny_bind (wpAny_tryCatch (walk.item 0 _ _ _ (by rw [size]; exact some_) ⟨⟨_, eI, rfl, rfl⟩, ht.at (g0 _)⟩ fun x h' tk' px st kp => ?_))
  have ex : vs[0]? = some x := by simpa using px
  have g1 := gr_pop g0 nI kp
  have eS1 := kp _ _ (fun z => IS (List.mem_singleton.mp z).symm) eS
  show wpAny _ A.in1 (tryCatch (holding [x] (call (.ref f) [x])) _ >>= _) _ _ _
  refine wpAny_bind (wpAny_tryCatch (wpAny_holding (wpAny_mono (ask 0 x ex h' tk' g1) (fun y s2 told => ?_) fun _ _ no => no.elim)))
  obtain ⟨h2, tk2, rfl, g2, rd⟩ := told
  obtain ⟨u2, rfl⟩ : ∃ u2, y = .int (kf 0) u2 := by
    cases rd
    exact ⟨_, rfl⟩
  have eS2 := g2 _ _ eS1
  obtain ⟨c2, eS3⟩ : ∃ c2, (h2.update (s.heap.objs.size + 1) (Obj.mapSeq fun _ => #[x, .int (kf 0) u2])).get? (s.heap.objs.size + 1) = some (bestO x (kf 0) u2 c2) := ⟨_, get?_update_seq eS2 fun _ => #[x, .int (kf 0) u2]⟩
  have but := Heap.SameBut.update h2 (s.heap.objs.size + 1) (Obj.mapSeq fun _ => #[x, .int (kf 0) u2])
  show wpAny _ A.in1 (updateSeq (s.heap.objs.size + 1) (fun _ => #[x, .int (kf 0) u2]) >>= _) _ _ _
  refine wpAny_bind (wpAny_updateSeq eS2 rfl ?_)
  rw [nm]
  exact wpAny_pure ⟨plainId_quiet PySem.F.plain_max_loop _, max_rest kf hot ht nI nS IS tI ask fin (vs.length - 1) 0 0 _ _ x u2 c2 (by omega) (gr_put (fun b o e => g2 b o (g1 b o e)) nS but) eS3 ((st.1.at (g2 _)).at fun o e => (but.2 _ IS).trans e) ex (Nat.le_refl _) (fun m hm => by rw [show m = 0 by omega]; exact Int.le_refl _) fun m hm => absurd hm (Nat.not_lt_zero _)⟩
end
end Deed

namespace Deed
open PySem PySem.Spec PySem.W PyProof.Rows L2 LamX
/-- max(e, key=lambda x: x[0]) of a tuple of tuples: one with the greatest key; a table may have grown -/
def tMaxK (K : PySem.W.Frag) (T : List (Addr × Str)) (te : TA) : TE := fun σ H Q => te σ H fun vs H1 => ∃ (a : Addr) (xs : List V) (ks : V → Int), vs = [.ref a] ∧ SqT K H1 a xs ∧ xs ≠ [] ∧ (∀ y ∈ xs, ∃ t r, y = .ref t ∧ H1 t = some (.tup (.int (ks y) :: r))) ∧ Tabs T H1 ∧
  ∀ y H2, ExtN H1 H2 → Tabs T H2 → y ∈ xs → (∀ z ∈ xs, ks z ≤ ks y) → Q y H2
theorem vals_at : ∀ {xs : List V} {us : List Value}, Vals xs us → ∀ (i : Nat) (v : Value), us[i]? = some v → ∃ y, xs[i]? = some y ∧ RelV y v
  | _, _, .nil, _, _, h => nomatch h
  | _, _, .cons r _, 0, _, h => by cases h; exact ⟨_, rfl, r⟩
  | _, _, .cons _ r, i + 1, v, h => vals_at r i v h
section
variable {X : Cx}
theorem pe_maxK {T : List (Addr × Str)} {c P : Addr} {k : Nat} {e ix : Expr} {te : TA} {x : Str} {params : Arguments} {scope : Scope} {p p1 p3 lpos kpos pos : Pos} (calm : X.calm = true)
    (hg : Gl X "max") (hm : X.mg "max" = none) (ha : PA X [e] te) (hr : Room (k + 1) X.A) (TB : TabB X.base X.mg c P) (hcode : X.env.code = .ref c) (hmT : (P, X.env.qual ++ "<lambda>") ∈ T) (hu : ∀ p ∈ T, p.1 = P → p.2 = X.env.qual ++ "<lambda>")
    (hdef : defaultsOf params X.env = ([], [])) (hfree : ∀ y ∈ scope.names, y.2 ≠ .free)
    (hk : scope.kind = .function) (hco : scope.isCoroutine = false) (hgen : scope.isGenerator = false) (hcell : ∀ y ∈ scope.names, y.2 ≠ .cell) (hloc : scope.names.lookup x = some .local)
    (hbind : ∀ (q : Str) (cl : List (Str × Addr)) (pm cv ctv v : Value), bindArgs (kla_fn "<lambda>" q params (.Subscript (.Name x p1) ix p3) scope cl pm cv ctv) ⟨[v], []⟩ = pure [(x, v)])
    (hix : ∀ (env : Env) (A : Around) (E : Value → Shared → Prop) (s' : Shared) (Q : Value → Shared → Prop), env.scope = scope → env.globals = mainGlobals → s'.heap.Ns mainGlobals X.mg → (∀ u tk, Q (.int 0 u) { s' with toks := tk }) → wpAny (model X.prog X.w) A (eval ix env) Q E s')
    (hpl : PlainIx ix) (hd : (x == ("__debug__" : Str)) = false)
    (h1 : backTo pos (starEach [e] X.env) = (false, eval e X.env) :: backTo pos (starEach [] X.env) := by rfl) (h2 : (backTo pos (starEach [e] X.env)).any (·.1) = false := by rfl) :
    PE X (.Call (.Name "max" p) [e] [⟨some "key", .Lambda params (.Subscript (.Name x p1) ix p3) scope lpos, kpos⟩] pos) (tMaxK X.K T te) := by
  refine ⟨fun pins s σ H Q I h => ?_⟩
  refine wpAny_Call_Name_kw (ld_blt I hg hm (show bootBuiltins "max" = some (.builtin "max") by decide +kernel) ?_)
  refine callWith_kw (thn (ha.run pos pins s σ H _ I h) fun us s1 ⟨vs, H1, I1, r1, q1⟩ => ?_) h1 h2 rfl rfl
  obtain ⟨a, xs, ks, rfl, hS, hne, hxs, hT, q⟩ := q1
  obtain rfl := Vals.ref1 r1
  show wpAny _ _ (evalAll [(do let v ← eval (.Lambda params (.Subscript (.Name x p1) ix p3) scope lpos) X.env; standAt pos; pure v)]) _ _ s1
  refine wpAny_evalAll_cons (wpAny_bind (lam_make2 I1 TB hcode hmT hu hT hdef (fun y hy e => absurd e (hfree y hy)) fun f c' pm ctv H2 s2 I2 eN T2 hf hfn hfr hco' => wpAny_bind (wpAny_standAt (wpAny_pure (wpAny_evalAll_nil ?_)))))
  have hS2 : SqT X.K H2 a xs := by
    rcases hS with (z | ⟨o, z⟩) | z
    · exact .inl (.inl (eN _ _ z fun ps z' => by cases z'))
    · exact .inl (.inr ⟨o, eN _ _ z fun ps z' => by cases z'⟩)
    · exact .inr z
  obtain ⟨its, rv, hl, hz⟩ := I2.tuple hS2
  have hun := hr.un
  have hdp := hr.dp
  have len := rv.length
  have pos_ : 0 < its.length := by
    rw [← len]
    exact List.length_pos_iff.mpr hne
  have at_ : ∀ (i : Nat) (v : Value), its[i]? = some v → ∃ y, xs[i]? = some y ∧ RelV y v := vals_at rv
  show wpAny (model X.prog X.w) X.A (call (.builtin "max") [.ref a] [(Str.ofString "key", .ref f)]) _ _ s2
  refine max_tup (fun i => ks (xs.getD i .non)) (I2.ok.hd calm) hl pos_ (fun i v hv h tk kp => ?_) fun i v h tk hv top _ kp => ?_
  · obtain ⟨y, hy, ry⟩ := at_ i v hv
    obtain ⟨t, r, rfl, ht⟩ := hxs y (List.mem_of_getElem? hy)
    obtain rfl : v = Value.ref t := ry
    have ek : ks (xs.getD i .non) = ks (.ref t) := by rw [List.getD_eq_getElem?_getD, hy]; rfl
    rw [ek]
    have ht2 := eN _ _ ht fun ps z' => by cases z'
    obtain ⟨_, its2, r2, o, ho, hc, n, hd2⟩ := I2.hok _ _ ht2
    obtain ⟨oc, vs, tt, c1, c2, c3⟩ := (I2.hok c' _ hco').1
    cases r2 with
    | cons ru r3 =>
      obtain ⟨tu, rfl⟩ := ru
      refine lam_key (u := tu) (s := { s2 with heap := h, toks := tk }) (kp _ _ hf) ⟨c', oc, vs, tt, rfl, kp _ _ c1, c2, c3⟩ ?_ (I2.nolimit.keeps kp) ((I2.mod.glob.keeps I2.bk).keeps kp) hk hco hgen hcell hloc (fun v => hbind _ _ _ _ _ v) hix hpl hd ⟨o, kp _ _ ho, hc, n, hd2⟩ (by simp)
      show X.A.depth < recursionLimit
      omega
  · obtain ⟨y, hy, ry⟩ := at_ i v hv
    have ey : xs.getD i .non = y := by rw [List.getD_eq_getElem?_getD, hy]; rfl
    refine ⟨y, H2, I2.kept kp, ry, q y H2 eN T2 (List.mem_of_getElem? hy) fun z hz => ?_⟩
    obtain ⟨j, hj, ez⟩ := List.getElem_of_mem hz
    have h1 := top j (by rw [← len]; exact hj)
    have ej : xs.getD j .non = z := by rw [List.getD_eq_getElem?_getD, List.getElem?_eq_getElem hj, ez]; rfl
    rw [ej, ey] at h1
    exact h1
end
end Deed

namespace Deed
open PySem PySem.Spec PyProof.Rows L2 LamX
section
variable {P : Program} {w : World} {K : PySem.W.Frag} {mg : Str → Option Value} {base : Heap} {T : List (Addr × Str)}
/-! ### another book, or the same one otherwise -/
abbrev sLOther : Stmt := topS 64
abbrev nLOther : List Str := ["_law_pen_here", "_law_book_here", "_law_folk_here", "_law_age", "_law_entries_here", "_law_at", "_law_one", "_law_turned", "_law_last", "_law_entry_here"]
abbrev pLOther : List Str := ["_law_pen_here", "_law_book_here"]
theorem scLOther : FnScope nLOther pLOther (defScope sLOther) := ⟨rfl, rfl, rfl, by decide +kernel, rfl, by decide +kernel, by decide +kernel⟩
def qOth : Str := "_law_other.<locals>.<lambda>"
def spLOther28 (T : List (Addr × Str)) : Sp := fun vs H Q _ => ∃ (p b fk t : Addr) (n : Nat) (age : Int) (zs : List (Addr × En)), vs = [.ref p, .ref b] ∧ PenAt H p ∧ BookAt H b fk t n age zs ∧ zs.length ≤ 11 ∧ Tabs T H ∧
  ∀ b' fk' t' n' age' zs' H', XP p H H' → PenAt H' p → Tabs T H' → BookAt H' b' fk' t' n' age' zs' → zs'.length ≤ 11 → Q (.ref b') H'
theorem ok_LOther28 {f c tb : Addr} {fd : FuncData} {k : Nat} (F : Fun K "_law_other" "_law_other" sLOther f fd) (hc : fd.code = .ref c) (TB : TabB base mg c tb) (hmT : (tb, qOth) ∈ T) (hu : ∀ p ∈ T, p.1 = tb → p.2 = qOth)
    (C__law_draw : CallOk P w K mg base (k + 1) "_law_draw" ["_law_pen_here", "_law_bound"] spDraw) (C__law_day : CallOk P w K mg base (k + 1) "_law_day" ["_law_pen_here"] spDay) (C__law_book : CallOk P w K mg base (k + 1) "_law_book" ["_law_pen_here", "_law_most"] spBook) (m_len : mg "len" = none) (m_max : mg "max" = none) (m_tuple : mg "tuple" = none) : FnOk P w K mg base CX0 (k + 2) f fd pLOther (spLOther28 T) := by
  refine okC F hc scLOther (fun vs H Q E h => ?_) (fun A outer s H vs Q E hr h => ?_)
  · obtain ⟨p, b, fk, t, n, age, zs, rfl, _⟩ := h
    rfl
  · obtain ⟨p, b, fk, t, n, age, zs, rfl, hP, hB, h11, hT, q⟩ := h
    have nd := scLOther.nd
    refine ⟨_, pss_cons (ps_asg (pv 1) (pg_tup (by rfl) (pgs_cons (pg_name (i := 2) nd rfl (.inl rfl)) (pgs_cons (pg_name (i := 3) nd rfl (.inl rfl)) (pgs_cons (pg_name (i := 4) nd rfl (.inl rfl)) pgs_nil)))))
      (pss_cons (ps_if (PW.pt (pw_or (pt_cmpR (op_eqD hr.units) (pv 4) (pe_tup pa_nil) (nomark _)) (pw_or1 (pt_cmpR op_eq (pe_call C__law_draw.ok hr (by rfl) C__law_draw.g C__law_draw.kp C__law_draw.b .nil pass0 (pa_cons (pv 0) (pa_cons pe_int pa_nil))) pe_int (nomark _))))) (pss_one (ps_ret (pe_call C__law_book.ok hr (by rfl) C__law_book.g C__law_book.kp C__law_book.b .nil pass0 (pa_cons (pv 0) (pa_cons pe_int pa_nil))))) pss_nil)
      (pss_cons (ps_set (i := 5) nd rfl (.inl rfl) (pe_call C__law_draw.ok hr (by rfl) C__law_draw.g C__law_draw.kp C__law_draw.b .nil pass0 (pa_cons (pv 0) (pa_cons (pe_callB call_len_seq (by rfl) m_len (by decide +kernel) (pa_cons (pv 4) pa_nil)) pa_nil))))
      (pss_cons (ps_set (i := 6) nd rfl (.inl rfl) (pe_ix ix_tup (pv 4) (pv 5) (fun _ _ => rfl)))
      (pss_cons (ps_if (pt_cmpR op_eq (pe_call C__law_draw.ok hr (by rfl) C__law_draw.g C__law_draw.kp C__law_draw.b .nil pass0 (pa_cons (pv 0) (pa_cons pe_int pa_nil))) pe_int (nomark _)) (pss_cons (ps_set (i := 7) nd rfl (.inl rfl) (pe_op op_catA (pe_op op_catA (pe_slice sl_tupA (pv 6) po_none (po_some pe_int)) (pe_tup (pa_cons (pe_call C__law_day.ok hr (by rfl) C__law_day.g C__law_day.kp C__law_day.b .nil pass0 (pa_cons (pv 0) pa_nil)) (pa_cons (pe_call C__law_day.ok hr (by rfl) C__law_day.g C__law_day.kp C__law_day.b .nil pass0 (pa_cons (pv 0) pa_nil)) pa_nil)))) (pe_slice sl_tupA (pv 6) (po_some pe_int) po_none)))
      (pss_one (ps_ret (pe_tup (pa_cons (pv 2) (pa_cons (pv 3) (pa_cons (pe_op op_catA (pe_op op_catA (pe_slice sl_tupA (pv 4) po_none (po_some (pv 5))) (pe_tup (pa_cons (pv 7) pa_nil))) (pe_slice sl_tupA (pv 4) (po_some (pe_op op_add (pv 5) pe_int)) po_none)) pa_nil))))))) pss_nil)
      (pss_cons (ps_set (i := 8) nd rfl (.inr rfl) (pe_maxK (T := T) (c := c) (P := tb) (k := k) rfl (by rfl) m_max (pa_cons (pv 4) pa_nil) hr TB rfl hmT hu rfl (by decide +kernel) rfl rfl rfl (by decide +kernel) rfl (fun _ _ _ _ _ _ => rfl) (fun env A E s' Q he hg hn hq => wpAny_Constant_int (hq _ _)) (fun _ _ => rfl) (by decide)))
      (pss_one (ps_ret (pe_tup (pa_cons (pv 2) (pa_cons (pv 3) (pa_cons (pe_callTy call_tuple_of (by rfl) m_tuple (by decide +kernel) (pa_cons (pe_lc (own := [("_law_entry_here", 9)]) (g := gName 9) (by rfl) nd (pi_tup (pv 4)) (blkOk_by (own := [("_law_entry_here", 9)]) (N := nLOther) (sc := defScope sLOther) (by decide +kernel)) (fun _ _ _ _ _ => (pg_name (i := 9) nd rfl (.inl rfl))) (fun _ _ _ _ _ => (pts_one (show PT _ _ (tTest (tOp (rNeD K) (tVar 9) (tVar 8))) from pt_cmpR (op_neD hr.units) (pv 9) (pv 8) (nomark _))))
          (fun _ _ _ _ _ => (pv 9))) pa_nil)) pa_nil))))))))))), ?_⟩
    have len := hB.len
    refine ⟨_, rfl, b, _, rfl, SqT.of hB.at_, rfl, _, _, rfl, _, _, rfl, _, _, rfl, rfl, ?_⟩
    refine ⟨_, rfl, Nat.zero_le _, fun t1 nt1 => ?_⟩
    have s1 := same_new nt1 (.tup [])
    have e1 : (upd H t1 (.tup [])) t1 = some (.tup []) := upd_same
    have P1 := hP.new nt1 (.tup [])
    generalize (upd H t1 (.tup [])) = H1 at s1 e1 P1
    have hB1 := hB.kp (Same.tup s1)
    have T1 := hT.ext s1
    refine ⟨_, _, .tup (SqT.of hB1.ents) (dp_ents zs hB1.ent), .tup (SqT.of e1) .nil, shaped_entsT (ens zs) hB.ok.ok, by decide +kernel, _, rfl, ?_⟩
    rw [eqvT_nil]
    have anew : ∀ H2, Kp p H H2 → PenAt H2 p → Tabs T H2 → (spBook [.ref p, .int 11] H2 (fun v H' => Q v H') E) := fun H2 k2 P2 T2 => ⟨p, 11, rfl, P2, by decide, by decide, fun b2 fk2 t2 n2 age2 zs2 H3 k3 P3 hB3 h3 => q b2 fk2 t2 n2 age2 zs2 H3 (XP.ofK (k2.trans k3)) P3 (Tabs.kp T2 k3 P2) hB3 (by omega)⟩
    refine ite2 (fun c => ?_) (fun c => ?_)
    · refine iteT ?_
      exact ⟨_, rfl, anew H1 (Kp.same s1) P1 T1⟩
    have hne : 0 < zs.length := by
      rcases Nat.eq_zero_or_pos zs.length with h | h
      · exfalso
        rw [List.length_eq_zero_iff.mp h] at c
        exact c (decide_eq_true rfl)
      · exact h
    refine ⟨_, rfl, p, 3, rfl, P1, by decide, by decide, fun way H2 k2 P2 a2 b2 => ?_⟩
    have k12 : Kp p H H2 := (Kp.same s1).trans k2
    have T2 := Tabs.kp T1 k2 P1
    refine ⟨rfl, _, rfl, ?_⟩
    refine ite2 (fun c0 => ?_) (fun c0 => ?_)
    · exact ⟨_, rfl, anew H2 k12 P2 T2⟩
    have hB2 := hB.kp (k12.tup hP)
    refine ⟨_, rfl, _, rfl, t, _, rfl, .inr (SqT.of hB2.ents), p, _, rfl, P2, by rw [List.length_map]; omega, by rw [List.length_map]; omega, fun at0 H3 k3 P3 a3 b3 => ?_⟩
    rw [List.length_map] at b3
    have k13 : Kp p H H3 := k12.trans k3
    have T3 := Tabs.kp T2 k3 P2
    have hB3 := hB.kp (k13.tup hP)
    obtain ⟨j, rfl⟩ := Int.eq_ofNat_of_zero_le a3
    have hj : j < zs.length := by omega
    have hzj : zs[j]? = some zs[j] := List.getElem?_eq_getElem hj
    generalize zs[j] = z at hzj
    have hzm : z ∈ zs := List.mem_of_getElem? hzj
    have hez : z.2 ∈ ens zs := List.mem_map.mpr ⟨z, hzm, rfl⟩
    have hsp : zs = zs.take j ++ z :: zs.drop (j + 1) := by
      have h1 : zs.drop j = z :: zs.drop (j + 1) := by
        rw [List.drop_eq_getElem_cons hj]
        congr 1
        have := List.getElem?_eq_getElem hj
        rw [hzj] at this
        injection this with this
        exact this.symm
      rw [← h1, List.take_append_drop]
    refine ⟨_, rfl, _, rfl, t, _, (j : Int), .ref z.1, rfl, rfl, SqT.of hB3.ents, atI_nat (j := j) (by rw [List.getElem?_map, hzj]; rfl), ?_⟩
    have hOz := hB.ok.ok z.2 hez
    refine ⟨_, rfl, p, 2, rfl, P3, by decide, by decide, fun way2 H4 k4 P4 a4 b4 => ?_⟩
    have k14 : Kp p H H4 := k13.trans k4
    have T4 := Tabs.kp T3 k4 P3
    have hB4 := hB.kp (k14.tup hP)
    have hEz := hB4.ent z hzm
    refine ⟨rfl, _, rfl, ?_⟩
    refine ite2 (fun c1 => ?_) (fun c1 => ?_)
    · -- other days
      obtain ⟨r4, hr4, ez4, mk4⟩ := hEz.four
      refine ⟨_, rfl, _, rfl, slA_same ez4 fun s5 H5 sm5 e5 => ?_⟩
      rw [show cutV (.int z.2.num :: .int z.2.day :: .int z.2.wri :: .int z.2.hand :: r4) none (some (1 : Int)) = [.int z.2.num] from cut_to _ 1] at e5
      have P5 : PenAt H5 p := ExtN.pen (.of sm5) P4
      refine ⟨_, rfl, p, rfl, P5, fun v1 H6 k6 P6 v10 v11 => ?_⟩
      refine ⟨_, rfl, p, rfl, P6, fun v2 H7 k7 P7 v20 v21 => ⟨(by show 2 ≤ sizeLine; decide), fun t8 nt8 => ?_⟩⟩
      have e57 := k7.tup P6 _ _ (k6.tup P5 _ _ e5)
      have s8 := same_new nt8 (.tup [.int v1, .int v2])
      have e8 : (upd H7 t8 (.tup [.int v1, .int v2])) t8 = some (.tup [.int v1, .int v2]) := upd_same
      generalize (upd H7 t8 (.tup [.int v1, .int v2])) = H8 at s8 e8
      refine catA_same (s8 _ _ e57) e8 (by show 1 + 2 ≤ 1000; omega) fun t9 H9 s9 e9 => ?_
      have k49 : Kp p H4 H9 := (Kp.same sm5).trans (k6.trans (k7.trans ((Kp.same s8).trans (Kp.same s9))))
      have P9 : PenAt H9 p := ExtN.pen (.of (s8.trans s9)) P7
      refine ⟨_, rfl, _, rfl, ?_⟩
      dsimp only [tNoPart]
      refine slA_same (k49.tup P4 _ _ ez4) fun s10 H10 sm10 e10 => ?_
      rw [show cutV (.int z.2.num :: .int z.2.day :: .int z.2.wri :: .int z.2.hand :: r4) (some (3 : Int)) none = .int z.2.hand :: r4 from cut_from _ 3] at e10
      refine catA_same (sm10 _ _ e9) e10 (by show 3 + (r4.length + 1) ≤ 1000; omega) fun t11 H11 s11 e11 => ?_
      have k411 : Kp p H4 H11 := k49.trans ((Kp.same sm10).trans (Kp.same s11))
      have P11 : PenAt H11 p := ExtN.pen (.of (sm10.trans s11)) P9
      have T11 := Tabs.kp T4 k411 P4
      have hE' := mk4 H11 t11 v1 v2 (k411.tup P4) e11
      obtain ⟨e', he', hn', hd', hO'⟩ : ∃ e' : En, EntAt H11 t11 e' ∧ e'.num = z.2.num ∧ e'.isDeed = z.2.isDeed ∧ EnOk n (dn (ens zs)) (an (ens zs)) e' := ⟨_, hE', rfl, rfl, ⟨v10, v11⟩, ⟨v20, v21⟩, hOz.2.2⟩
      clear hE'
      have hB11 := hB.kp ((k14.trans k411).tup hP)
      refine ⟨_, rfl, _, rfl, _, rfl, _, rfl, _, rfl, slA_same hB11.ents fun s6 H12 sm12 e12 => ?_⟩
      rw [cut_to] at e12
      refine ⟨_, rfl, (by show 1 ≤ sizeLine; decide), fun t13 nt13 => ?_⟩
      have s13 := same_new nt13 (.tup [.ref t11])
      have e13 : (upd H12 t13 (.tup [.ref t11])) t13 = some (.tup [.ref t11]) := upd_same
      generalize (upd H12 t13 (.tup [.ref t11])) = H13 at s13 e13
      refine catA_same (s13 _ _ e12) e13 (by rw [List.length_take, List.length_map]; show _ + 1 ≤ 1000; omega) fun t14 H14 s14 e14 => ?_
      have s1114 := sm12.trans (s13.trans s14)
      refine ⟨_, rfl, _, rfl, _, _, rfl, rfl, _, rfl, ?_⟩
      dsimp only [tNoPart]
      refine slA_same (s1114 _ _ hB11.ents) fun s15 H15 sm15 e15 => ?_
      rw [show ((j : Int) + 1) = ((j + 1 : Nat) : Int) from rfl, cut_from] at e15
      refine catA_same (sm15 _ _ e14) e15 (by rw [List.length_append, List.length_take, List.length_drop, List.length_map]; show _ + 1 + _ ≤ 1000; omega) fun t16 H16 s16 e16 => ⟨(by show 3 ≤ sizeLine; decide), fun b17 nb17 => ?_⟩
      have s17 := same_new nb17 (.tup [.ref fk, .int age, .ref t16])
      have e17 : (upd H16 b17 (.tup [.ref fk, .int age, .ref t16])) b17 = some (.tup [.ref fk, .int age, .ref t16]) := upd_same
      generalize (upd H16 b17 (.tup [.ref fk, .int age, .ref t16])) = H17 at s17 e17
      have s1117 := s1114.trans (sm15.trans (s16.trans s17))
      have hB17 := hB11.kp (Same.tup s1117)
      have hen : ens (zs.take j ++ (t11, e') :: zs.drop (j + 1)) = ens (zs.take j) ++ e' :: ens (zs.drop (j + 1)) := List.map_append
      have hen2 : ens zs = ens (zs.take j) ++ z.2 :: ens (zs.drop (j + 1)) := by
        have h1 := congrArg ens hsp
        rw [show ens (zs.take j ++ z :: zs.drop (j + 1)) = ens (zs.take j) ++ z.2 :: ens (zs.drop (j + 1)) from List.map_append] at h1
        exact h1
      have hll : (zs.take j ++ (t11, e') :: zs.drop (j + 1)).length ≤ 11 := by
        rw [List.length_append, List.length_take, List.length_cons, List.length_drop]
        omega
      refine q b17 fk t16 n age (zs.take j ++ (t11, e') :: zs.drop (j + 1)) H17 (XP.ofK ((k14.trans k411).trans (Kp.same s1117))) (ExtN.pen (.of s1117) P11) (T11.ext s1117) ⟨e17, hB17.folk, hB.n2, hB.n6, hB.age0, hB.age1, ?_, fun u hu => ?_, ?_, by omega⟩ hll
      · rw [s17 _ _ e16, ← List.map_take, ← List.map_drop, List.append_assoc]
        exact congrArg (fun l => some (HO.tup l)) (List.map_append (f := fun z : Addr × En => V.ref z.1) (l₁ := zs.take j) (l₂ := (t11, e') :: zs.drop (j + 1))).symm
      · rcases List.mem_append.mp hu with h | h
        · exact hB17.ent u (List.mem_of_mem_take h)
        · rcases List.mem_cons.mp h with rfl | h
          · exact he'.kp (Same.tup s1117)
          · exact hB17.ent u (List.mem_of_mem_drop h)
      · rw [hen]
        have h1 := hB.ok
        rw [hen2] at h1 hO'
        exact h1.swap hn' hd' hO'
    · -- without its last entry
      refine ⟨_, rfl, t, refs zs, keyAt H4, rfl, SqT.of hB4.ents, (fun z => by rw [List.map_eq_nil_iff.mp z] at hne; exact absurd hne (Nat.lt_irrefl 0)), fun y hy => ?_, T4, fun y H5 eN T5 hy top => ?_⟩
      · obtain ⟨u, hu, rfl⟩ := List.mem_map.mp hy
        obtain ⟨r, h1, h2⟩ := (hB4.ent u hu).key
        exact ⟨u.1, r, rfl, by rw [h2]; exact h1⟩
      obtain ⟨u, hum, rfl⟩ := List.mem_map.mp hy
      have hB5 := hB4.kp (ExtN.tup eN)
      have P5 := ExtN.pen eN P4
      have most : ∀ x ∈ zs, x.2.num ≤ u.2.num := fun x hx => by
        have h1 := top (.ref x.1) (List.mem_map.mpr ⟨x, hx, rfl⟩)
        obtain ⟨_, _, g1⟩ := (hB4.ent x hx).key
        obtain ⟨_, _, g2⟩ := (hB4.ent u hum).key
        rw [g1, g2] at h1
        exact h1
      refine ⟨_, rfl, _, rfl, _, rfl, t, rfl, ⟨_, SqT.of hB5.ents⟩, fun M nM => ?_⟩
      refine lc_sameV (walk_tup (xs := refs zs)) zs (fun x => decide (x.2.num ≠ u.2.num)) (fun x => .ref x.1) (by rw [List.length_map]) (by omega) nM (fun H s => SqT.of (s _ _ hB5.ents)) ?_ ?_
      · rintro i x x0 H6 H6' hy6 s6 ⟨rfl, hx⟩ Q1 Q0 q1 q0
        rw [List.getElem?_map, hy6] at hx
        injection hx with hx
        subst hx
        have hxm := List.mem_of_getElem? hy6
        have hEx := (hB5.ent x hxm).kp (Same.tup s6)
        have hEu := (hB5.ent u hum).kp (Same.tup s6)
        have hlx := (hB.ok.ok x.2 (List.mem_map.mpr ⟨x, hxm, rfl⟩)).lay
        have hlu := (hB.ok.ok u.2 (List.mem_map.mpr ⟨u, hum, rfl⟩)).lay
        have dx := depth_ent x.2
        have du := depth_ent u.2
        refine ⟨rfl, ?_⟩
        refine ⟨_, rfl, _, rfl, entD x.2, entD u.2, hEx.dp, hEu.dp, (by show (PyData.canLay0 _ && decide (_ ≤ 64)) = true; rw [hlx, decide_eq_true (by omega)]; rfl), (by show (PyData.canLay0 _ && decide (_ ≤ 64)) = true; rw [hlu, decide_eq_true (by omega)]; rfl), _, rfl, ?_⟩
        by_cases hn : x.2.num = u.2.num
        · have ee : x.2 = u.2 := num_inj hB.ok (List.mem_map.mpr ⟨x, hxm, rfl⟩) (List.mem_map.mpr ⟨u, hum, rfl⟩) hn
          rw [ee, eqv_ent_self]
          refine iteF ?_
          exact q0 (decide_eq_false fun z => z (by rw [ee])) _ (same_refl _)
        · rw [eqv_ent_ne hn]
          refine iteT ?_
          exact ⟨_, rfl, q1 (decide_eq_true hn) _ (same_refl _)⟩
      intro H6 s6 eM
      refine ⟨M, _, rfl, .inl ⟨SqL.of eM, fun t7 nt7 => ?_⟩⟩
      have s7 := same_new nt7 (.tup (refs (zs.filter fun x => decide (x.2.num ≠ u.2.num))))
      have e7 : (upd H6 t7 (.tup (refs (zs.filter fun x => decide (x.2.num ≠ u.2.num))))) t7 = some (.tup (refs (zs.filter fun x => decide (x.2.num ≠ u.2.num)))) := upd_same
      generalize (upd H6 t7 (.tup (refs (zs.filter fun x => decide (x.2.num ≠ u.2.num))))) = H7 at s7 e7
      refine ⟨(by show 3 ≤ sizeLine; decide), fun b8 nb8 => ?_⟩
      have s8 := same_new nb8 (.tup [.ref fk, .int age, .ref t7])
      have e8 : (upd H7 b8 (.tup [.ref fk, .int age, .ref t7])) b8 = some (.tup [.ref fk, .int age, .ref t7]) := upd_same
      generalize (upd H7 b8 (.tup [.ref fk, .int age, .ref t7])) = H8 at s8 e8
      have s58 := s6.trans (s7.trans s8)
      have hB8 := hB5.kp (Same.tup s58)
      obtain ⟨A1, B1, hab⟩ := List.append_of_mem hum
      have hab2 : ens zs = ens A1 ++ u.2 :: ens B1 := by rw [hab]; exact List.map_append
      have hfil : zs.filter (fun x => decide (x.2.num ≠ u.2.num)) = A1 ++ B1 := by
        have hnd := hB.ok.nd
        rw [hab2, List.map_append, List.map_cons] at hnd
        have h1 := List.nodup_append.mp hnd
        have h2 := List.nodup_cons.mp h1.2.1
        rw [hab, List.filter_append, List.filter_cons_of_neg (by simp), List.filter_eq_self.mpr fun x hx => ?_, List.filter_eq_self.mpr fun x hx => ?_]
        · exact decide_eq_true fun z => h2.1 (z ▸ List.mem_map.mpr ⟨x.2, List.mem_map.mpr ⟨x, hx, rfl⟩, rfl⟩)
        · exact decide_eq_true fun z => h1.2.2 _ (List.mem_map.mpr ⟨x.2, List.mem_map.mpr ⟨x, hx, rfl⟩, rfl⟩) _ List.mem_cons_self z
      rw [hfil] at e7
      refine q b8 fk t7 n age (A1 ++ B1) H8 ((XP.ofK k14).trans (XP.ofN (eN.trans (.of s58)))) (ExtN.pen (.of s58) P5) (T5.ext s58) ⟨e8, hB8.folk, hB.n2, hB.n6, hB.age0, hB.age1, s8 _ _ e7, fun x hx => hB8.ent x ?_, ?_, ?_⟩ ?_
      · rw [hab]
        rcases List.mem_append.mp hx with h | h
        · exact List.mem_append.mpr (.inl h)
        · exact List.mem_append.mpr (.inr (List.mem_cons_of_mem _ h))
      · have h1 := hB.ok
        rw [hab2] at h1
        rw [show ens (A1 ++ B1) = ens A1 ++ ens B1 from List.map_append]
        refine h1.gone fun x hx hm => ?_
        have h2 := ((h1.ok x hx).names_lt hm).1
        rw [← hab2] at hx
        obtain ⟨x0, hx0, rfl⟩ := List.mem_map.mp hx
        have := most x0 hx0
        omega
      · have := congrArg List.length hab
        rw [List.length_append, List.length_cons] at this
        rw [List.length_append]
        omega
      · have := congrArg List.length hab
        rw [List.length_append, List.length_cons] at this
        rw [List.length_append]
        omega
end
end Deed

namespace Deed
open PySem PySem.Spec PyProof.Rows L2 LamX
section
variable {P : Program} {w : World} {K : PySem.W.Frag} {mg : Str → Option Value} {base : Heap} {T : List (Addr × Str)}
theorem stAt_true (es : List En) (o : Int) (e : En) (m : Int) : stAt es true o e m = st es m o e := rfl
/-- a list that is new to a heap is written: what stood there stands, but for the tables -/
theorem ExtN.clear {H H1 H2 : Hp} {p : Addr} (e : ExtN H H2) (f : Fresh H1 p) (e1 : ExtN H H1) (o : HO) : ExtN H (upd H2 p o) := ExtN.put e (Fresh.up e1 f) o
/-! ### a book, asked once -/
abbrev sLRight : Stmt := topS 65
abbrev nLRight : List Str := ["_law_book_here", "_law_d", "_law_known", "_law_entries_here", "_law_words_here", "_law_found", "_law_deed_here", "_law_rows", "_law_some", "_law_day_here"]
abbrev pLRight : List Str := ["_law_book_here", "_law_d", "_law_known"]
theorem scLRight : FnScope nLRight pLRight (defScope sLRight) := ⟨rfl, rfl, rfl, by decide +kernel, rfl, by decide +kernel, by decide +kernel⟩
def spLRight28 (T : List (Addr × Str)) : Sp := fun vs H Q _ => ∃ (b fk t : Addr) (n : Nat) (age : Int) (zs : List (Addr × En)) (d k : Int), vs = [.ref b, .int d, .int k] ∧ BookAt H b fk t n age zs ∧ zs.length ≤ 11 ∧ Tabs T H ∧ (0 ≤ d ∧ d ≤ 9999) ∧ (0 ≤ k ∧ k ≤ 9999) ∧
  ∀ H', ExtN H H' → Tabs T H' → Q (.bl true) H'
theorem ok_LRight28 {f : Addr} {fd : FuncData} {k : Nat} (F : Fun K "_law_right" "_law_right" sLRight f fd) (C__law_entries : CallOk P w K mg base k "_law_entries" ["_law_book_here"] spEnts) (C__law_words : CallOk P w K mg base k "_law_words" pWords spWords) (C_all_standing : CallOk P w K mg base k "all_standing" pAllSt (spAllSt T)) (C_why_of : CallOk P w K mg base k "why_of" ["book", "deed", "d", "k"] (spWhyOf T))
    (C__law_why : CallOk P w K mg base k "_law_why" ["_law_entries_here", "_law_words_here", "_law_deed_here", "_law_d", "_law_k"] (spLWhy 31)) (C__law_marks : CallOk P w K mg base k "_law_marks" pMarks spMarks) (C_course_of : CallOk P w K mg base k "course_of" pCourse (spCourse true T)) (C__law_turns : CallOk P w K mg base k "_law_turns" ["_law_rows"] spLTurns) : FnOk P w K mg base CX0 (k + 1) f fd pLRight (spLRight28 T) := by
  refine F.ok scLRight (fun vs H Q E h => ?_) (fun cdv A outer s H vs Q E hr h => ?_)
  · obtain ⟨b, fk, t, n, age, zs, d, k, rfl, _⟩ := h
    rfl
  · obtain ⟨b, fk, t, n, age, zs, d, kk, rfl, hB, h11, hT, hd, hk, q⟩ := h
    have nd := scLRight.nd
    have hu := hu_of hr
    refine ⟨_, pss_cons (ps_set (i := 3) nd rfl (.inr rfl) (pe_call C__law_entries.ok hr (by rfl) C__law_entries.g C__law_entries.kp C__law_entries.b .nil pass0 (pa_cons (pv 0) pa_nil)))
      (pss_cons (ps_set (i := 4) nd rfl (.inl rfl) (pe_call C__law_words.ok hr (by rfl) C__law_words.g C__law_words.kp C__law_words.b .nil pass0 (pa_cons (pv 3) (pa_cons (pv 1) (pa_cons (pv 2) pa_nil)))))
      (pss_cons (ps_set (i := 5) nd rfl (.inl rfl) (pe_call C_all_standing.ok hr (by rfl) C_all_standing.g C_all_standing.kp C_all_standing.b .nil pass0 (pa_cons (pv 0) (pa_cons (pv 1) (pa_cons (pv 2) pa_nil)))))
      (pss_cons (ps_if (pt_cmpR (op_ne_dictA (Nat.lt_of_succ_lt hu)) (pv 5) (pv 4) (nomark _)) (pss_one (ps_ret pe_bl)) pss_nil)
      (pss_cons (ps_expr (pe_bm0 PySem.F.plainAttrs_dict PySem.F.slot_dict_clear PySem.F.type_dict_clear mtd_clear (pv 5)))
      (pss_cons (ps_lock (ps_for PassesOwn.never rfl (pi_keys (pv 4)) (pg_name (i := 6) nd rfl (.inr rfl))
        (pss_cons (ps_if (pt_cmpR (op_neD hr.units) (pe_call C_why_of.ok hr (by rfl) C_why_of.g C_why_of.kp C_why_of.b .nil pass0 (pa_cons (pv 0) (pa_cons (pv 6) (pa_cons (pv 1) (pa_cons (pv 2) pa_nil))))) (pe_call C__law_why.ok hr (by rfl) C__law_why.g C__law_why.kp C__law_why.b .nil pass0 (pa_cons (pv 3) (pa_cons (pv 4) (pa_cons (pv 6) (pa_cons (pv 1) (pa_cons (pv 2) pa_nil)))))) (nomark _)) (pss_one (ps_ret pe_bl)) pss_nil)
      (pss_cons (ps_setLc (i := 7) (own := [("_law_day_here", 9)]) (g := gName 9) (by rfl) nd rfl rfl (sw_true rfl rfl rfl (by decide +kernel)) (pi_list (pe_call C__law_marks.ok hr (by rfl) C__law_marks.g C__law_marks.kp C__law_marks.b .nil pass0 (pa_cons (pv 0) (pa_cons pe_int pa_nil)))) (blkOk_by (own := [("_law_day_here", 9)]) (N := nLRight) (sc := defScope sLRight) (by decide +kernel)) (fun _ _ _ _ _ => (pg_name (i := 9) nd rfl (.inl rfl))) (fun _ _ _ _ _ => pts_nil)
          (fun _ _ _ _ _ => (pe_tup (pa_cons (pv 9) (pa_cons (pe_dget hu (pe_call C__law_words.ok hr (by rfl) C__law_words.g C__law_words.kp C__law_words.b .nil pass0 (pa_cons (pv 3) (pa_cons (pv 9) (pa_cons (pv 2) pa_nil)))) (pv 6) (fun _ _ => rfl)) pa_nil)))))
      (pss_cons (ps_set (i := 8) nd rfl (.inl rfl) (pe_call C_course_of.ok hr (by rfl) C_course_of.g C_course_of.kp C_course_of.b .nil pass0 (pa_cons (pv 0) (pa_cons (pv 6) (pa_cons (pv 2) pa_nil)))))
      (pss_cons (ps_if (pt_cmpR (op_neD hr.units) (pv 8) (pe_call C__law_turns.ok hr (by rfl) C__law_turns.g C__law_turns.kp C__law_turns.b .nil pass0 (pa_cons (pv 7) pa_nil)) (nomark _)) (pss_one (ps_ret pe_bl)) pss_nil)
      (pss_one (ps_expr (pe_bm0 PySem.F.plainAttrs_list PySem.F.slot_list_clear PySem.F.type_list_clear mt_clear (pv 8))))))))))
      (pss_one (ps_ret pe_bl))))))), ?_⟩
    refine ⟨_, rfl, b, fk, t, n, age, zs, rfl, hB, fun ed H1 s1 ned hE1 => ?_⟩
    refine ⟨_, rfl, _, rfl, _, rfl, ed, d, kk, n, zs, rfl, hE1, fun du us H2 s2 ndu edu hDU => ?_⟩
    have s12 := s1.trans s2
    have hB2 := hB.kp (Same.tup s12)
    have T2 := hT.ext s12
    have hE2 := hE1.same s2
    refine ⟨_, rfl, _, rfl, _, rfl, b, fk, t, n, age, zs, d, kk, rfl, hB2, T2, hd, hk, fun fo us' H3 e3 T3 fr3 efo hDU' => ?_⟩
    have nk : ∀ kv : List (Key × V), ∀ ps, HO.dK kv ≠ .tbl ps := fun xs ps z => by cases z
    have eee : ens us' = ens us := wds_one hDU' hDU
    rw [eee] at efo
    have edu3 := e3 _ _ edu (nk _)
    have hnd := hDU.nodup
    have nfd : du ≠ fo := fr3.ne edu (nk _)
    have hyl : us.length ≤ 16 := hDU.2.2
    refine ⟨_, rfl, _, rfl, fo, du, _, _, rfl, rfl, efo, edu3, rfl, fun pp hpp => ?_, _, rfl, ?_⟩
    · obtain ⟨e', he', rfl⟩ := List.mem_map.mp hpp
      exact ⟨valV_map (f := fun e : En => e.num) (g := fun e : En => V.str (st (ens zs) d kk e)) hnd he', rfl⟩
    refine iteF ?_
    refine ⟨_, rfl, .inr (.inr (.inl ⟨rfl, .inl ⟨_, efo⟩⟩)), fo, _, rfl, rfl, efo, ?_⟩
    have T4 : Tabs T (upd H3 fo (.dK [])) := Tabs.lock T3 efo _
    have e4 : ExtN H2 (upd H3 fo (.dK [])) := ExtN.put e3 fr3 _
    have edu4 : (upd H3 fo (.dK [])) du = some (.dK (wdE (ens zs) d kk (ens us))) := by rw [upd_ne nfd]; exact edu3
    generalize (upd H3 fo (.dK [])) = H4 at T4 e4 edu4
    have hB4 := hB2.kp (ExtN.tup e4)
    have hE4 := hE2.extN e4
    -- each deed
    refine ⟨du, _, edu4, trivial, fun od => ?_⟩
    have hL : ∀ b0 o, b0 ≠ du → H4 b0 = some o → (upd H4 du (.frz od (.dK (wdE (ens zs) d kk (ens us))))) b0 = some o := fun b0 o nb e => by
      rw [upd_ne nb]
      exact e
    have hLe : (upd H4 du (.frz od (.dK (wdE (ens zs) d kk (ens us))))) du = some (.frz od (.dK (wdE (ens zs) d kk (ens us)))) := upd_same
    have TL : Tabs T (upd H4 du (.frz od (.dK (wdE (ens zs) d kk (ens us))))) := Tabs.lock T4 edu4 _
    generalize (upd H4 du (.frz od (.dK (wdE (ens zs) d kk (ens us))))) = HL at hL hLe TL
    have tupL : KpT H4 HL := fun b0 xs0 e0 => hL b0 _ (fun z => by rw [z, edu4] at e0; cases e0) e0
    have hBL := hB4.kp tupL
    have hEL : EdAt HL ed n zs := ⟨hL _ _ (ne_of_none hE1.at_ ndu) hE4.at_, fun z hz => (hE4.ent z hz).kp tupL, hE4.ok, hE4.len⟩
    have nf : ∀ ps, HO.frz od (.dK (wdE (ens zs) d kk (ens us))) ≠ .tbl ps := fun ps z => by cases z
    refine ⟨_, rfl, du, od, rfl, .inl ⟨_, hLe, ?_⟩⟩
    refine for_it walk_keys (fun i2 σ H' => ∃ y6 y7 y8 y9, σ = [some (.ref b), some (.int d), some (.int kk), some (.ref ed), some (.ref du), some (.ref fo), y6, y7, y8, y9] ∧ ExtN HL H' ∧ Tabs T H') ⟨_, _, _, _, rfl, ExtN.refl _, TL⟩ (fun i2 σ H' _ h => ?_) ?_ ?_
    · obtain ⟨_, _, _, _, _, eX, _⟩ := h
      exact eX _ _ hLe nf
    · rintro j3 x σ H5 H6 hj3 ⟨v6, v7, v8, v9, rfl, e6, T6⟩ ⟨rfl, kkey, vv, hkv, rfl⟩
      rw [List.getElem?_map] at hkv
      cases hz0 : (ens us)[j3]? with
      | none => rw [hz0] at hkv; cases hkv
      | some e =>
        rw [hz0] at hkv
        injection hkv with hkv
        injection hkv with hk1 hv1
        subst hk1
        obtain ⟨hem, hed⟩ := (hDU.2.1 e).mp (List.mem_of_getElem? hz0)
        have hB6 := hBL.kp (ExtN.tup e6)
        have hE6 := hEL.extN e6
        have hW6 : WordR H6 du (ens zs) d kk := ⟨zs, us, rfl, hDU, .inr ⟨od, e6 _ _ hLe nf⟩⟩
        have hru := hB.ok.rng e hem
        -- why
        refine ⟨_, rfl, _, rfl, _, rfl, _, rfl, b, fk, t, n, age, zs, e, d, kk, rfl, hB6, T6, hem, hed, hd, hk, fun t1 ys H7 e7 T7 hO hd7 => ?_⟩
        refine ⟨_, rfl, _, rfl, _, rfl, _, rfl, _, rfl, ed, du, e.num, d, kk, n, zs, ys, rfl, hE6.extN e7, hW6.extN e7, hO, ⟨e, hem, hed, rfl, by omega⟩, fun t2 H8 s8 hd8 => ?_⟩
        have hfi := why_fine hO hem hed
        have hl11 : (ens zs).length ≤ 11 := by rw [List.length_map]; exact h11
        have hf31 : Fine 31 (why (ens zs) ys d kk e.num) := hfi.mono (by omega)
        have hd7' := hd7.ext (.of s8)
        refine ⟨_, _, hd7'.dp K hf31.1, hd8.dp K hf31.1, Dat.shaped hf31.1 hf31.2, Dat.shaped hf31.1 hf31.2, _, rfl, ?_⟩
        rw [Dat.self]
        refine iteF ?_
        have e68 : ExtN H6 H8 := e7.trans (.of s8)
        have T8 := T7.ext s8
        have hB8 := hB6.kp (ExtN.tup e68)
        have hE8 := hE6.extN e68
        -- the course
        refine ⟨_, rfl, b, fk, t, n, age, zs, true, rfl, hB8, fun M1 pm1 H9 sm1 npm1 epm1 up1 rg1 z01 in1 ln1 => ?_⟩
        have hE9 := hE8.extN (.of sm1)
        refine ⟨pm1, rfl, ⟨_, SqL.of epm1⟩, fun R1 nR1 => ?_⟩
        refine lc_sameT (walk_list (xs := M1.map V.int)) M1 (fun _ => true) (fun m => [.int m, .str (stAt (ens zs) true kk e m)]) (by rw [List.length_map]) (by omega) nR1 (fun H s => SqL.of (s _ _ epm1)) ?_ ?_
        · rintro i2 m x H10 H10' hy s10 ⟨rfl, hx⟩ Q1 Q0 q1 q0
          rw [List.getElem?_map, hy] at hx
          injection hx with hx
          subst hx
          refine ⟨rfl, ?_⟩
          refine ⟨_, rfl, _, rfl, _, rfl, _, rfl, ed, m, kk, n, zs, rfl, hE9.extN (.of s10), fun wd ws H11 s11 nwd ewd hY => ?_⟩
          have dg := DGet.k (k := Sum.inl e.num) ewd
          rw [wdE_at hY hem hed] at dg
          refine ⟨_, rfl, wd, _, rfl, dg, (by show 2 ≤ sizeLine; decide), fun tp ntp => ?_⟩
          exact q1 rfl tp _ (s11.trans (same_new ntp _)) upd_same
        intro H10 rs s10 eR1 ers hrs
        rw [List.filter_eq_self.mpr fun _ _ => rfl] at ers
        have hTu : TurnsAt H10 R1 (M1.map fun m => (m, stAt (ens zs) true kk e m)) := ⟨rs.map fun r => (r.1, (r.2, stAt (ens zs) true kk e r.2)), by rw [eR1, List.map_map]; rfl, by rw [← ers, List.map_map, List.map_map]; rfl, fun z hz => by
          obtain ⟨r, hr0, rfl⟩ := List.mem_map.mp hz
          exact hrs r hr0⟩
        have s810 := sm1.trans s10
        have e610 : ExtN H6 H10 := e68.trans (.of s810)
        have T10 := T8.ext s810
        have hB10 := hB8.kp (Same.tup s810)
        refine ⟨_, rfl, _, rfl, _, rfl, b, fk, t, n, age, zs, e, kk, rfl, hB10, T10, hem, hed, hk, fun q1 D1 H11 e11 T11 f11 hq1 hD1 => ?_⟩
        have hTu11 := hTu.extN e11
        refine ⟨_, rfl, _, rfl, R1, _, rfl, hTu11, fun q2 hq2 => ?_, by rw [List.length_map]; omega, fun du1 H12 s12 ndu1 hdu1 => ?_⟩
        · obtain ⟨m, _, rfl⟩ := List.mem_map.mp hq2
          exact st_ok _ _ _ _
        have dsub : ∀ x ∈ D1, x ∈ M1 := fun x hx => by
          rcases (hD1.2 x).mp hx with h | ⟨e', he', h⟩
          · rw [h]
            exact z01
          · rw [← h]
            exact in1 e' he'
        have c1 := course_one hD1 up1 dsub (fun x hx => (rg1 x hx).1) kk hem
        rw [c1] at hdu1
        have hok : ∀ q2 ∈ tns (D1.map fun m => (m, stAt (ens zs) true kk e m)), PyData.strOk q2.2 = true := fun q2 hq2 => by
          obtain ⟨m, _, rfl⟩ := List.mem_map.mp (mem_tns hq2)
          exact st_ok _ _ _ _
        have hq12 := hq1.extN (.of s12)
        refine ⟨tData _, tData _, hq12.dp, hdu1.dp, shaped_turns _ hok, shaped_turns _ hok, _, rfl, ?_⟩
        rw [eqv_turns]
        refine iteF ?_
        have nl : ∀ xs : List V, ∀ ps, HO.lst xs ≠ .tbl ps := fun xs ps z => by cases z
        obtain ⟨us1, eq1, eu1, hus1⟩ := hq12
        refine ⟨_, rfl, .inl ⟨rfl, _, SqL.of eq1⟩, q1, _, rfl, rfl, eq1, ?_⟩
        have e612 : ExtN H6 H12 := e610.trans (e11.trans (.of s12))
        have eL12 : ExtN HL H12 := e6.trans e612
        exact ⟨_, _, _, _, rfl, ExtN.put eL12 (Fresh.up (e6.trans e610) f11) _, Tabs.put (T11.ext s12) eq1 _⟩
    · rintro σ H5 ⟨v6, v7, v8, v9, rfl, e5, T5⟩
      have hd5 := e5 _ _ hLe nf
      refine ⟨hd5, ?_⟩
      have eU : ExtN H (upd H5 du (.dK (wdE (ens zs) d kk (ens us)))) := fun b0 o0 h0 ht => by
        have nb0 : b0 ≠ du := ne_of_none (s1 _ _ h0) ndu
        rw [upd_ne nb0]
        exact e5 _ _ (hL _ _ nb0 (e4 _ _ (s12 _ _ h0) ht)) ht
      exact q _ eU (Tabs.unlock T5 hd5 _)
end
end Deed

namespace Deed
open PySem PySem.Spec PyProof.Rows L2 LamX
/-! ### repr(x) of data without dicts, where no repr is under way -/
/-- how long a thing shows, how deep it is -/
structure Sh (k m : Nat) (d : PyData) : Prop where
  len : d.shown.length ≤ k
  show_ : d.showable = true
  nod : d.hasDict = false
  dep : d.depth ≤ m
theorem Sh.mono {k m k' m' : Nat} {d : PyData} (h : Sh k m d) (h1 : k ≤ k') (h2 : m ≤ m') : Sh k' m' d := ⟨Nat.le_trans h.len h1, h.show_, h.nod, Nat.le_trans h.dep h2⟩
def rRpr (K : PySem.W.Frag) : List V → Hp → VK → Prop := fun vs H Q => ∃ (a : Addr) (d : PyData), vs = [.ref a] ∧ Dp K H (.ref a) d ∧ Sh 100000 60 d ∧ Q (.str d.shown) H
theorem call_rpr {X : Cx} (hg : X.A.guards = some []) (hu : X.A.units + 65 < cLine) : CallR X (.builtin "repr") (rRpr X.K) := by
  intro pins s σ H xs us Q I r h
  obtain ⟨a, d, rfl, hd, sh, q⟩ := h
  obtain rfl := Vals.ref1 r
  obtain ⟨as, rd⟩ := Dp.reads I d _ _ hd rfl
  refine repr_of_reads' (h₀ := s.heap) rd sh.show_ (fun z => by rw [sh.nod] at z; cases z) hg (by have := sh.dep; omega) (fun _ _ e => e) (fun h' u tk kp => ⟨.str d.shown, H, I.kept kp, ⟨u, rfl⟩, q⟩) ?_
  have := sh.len
  rw [sizeLine_eq]
  omega
theorem int_len {i : Int} (h0 : -10000 ≤ i) (h1 : i ≤ 10000) : (PySem.Str.ofString (toString i)).length ≤ 11 := by
  cases i with
  | ofNat n => exact Nat.le_trans (PyProof.Rows.toString_length_le (k := 10) (Int.natCast_nonneg n) (by decide) (by show (n : Int) < 10 ^ 10; have : (n : Int) ≤ 10000 := h1; omega)) (by decide)
  | negSucc m =>
    have h2 := PyProof.Rows.toString_length_le (v := ((m + 1 : Nat) : Int)) (k := 10) (Int.natCast_nonneg _) (by decide) (by have : -10000 ≤ Int.negSucc m := h0; omega)
    rw [PyProof.Rows.ofString_length] at h2 ⊢
    have e : toString (Int.negSucc m) = "-" ++ toString ((m + 1 : Nat) : Int) := rfl
    rw [e]
    simp only [String.toList_append, List.length_append]
    have : ("-" : String).toList.length = 1 := by decide
    omega
theorem Sh.int {i : Int} (h0 : -10000 ≤ i) (h1 : i ≤ 10000) : Sh 11 1 (.int i) := ⟨by
    show (PyData.shown (.int i)).length ≤ 11
    unfold PyData.shown
    exact int_len h0 h1, by
    show PyData.showable (.int i) = true
    unfold PyData.showable
    refine decide_eq_true ?_
    by_cases z : i.natAbs = 0
    · rw [z]
      decide
    · exact (Nat.log2_lt z).mpr (Nat.lt_of_lt_of_le (show i.natAbs < 2 ^ 14 by omega) (Nat.pow_le_pow_right (by decide) (by decide))), by unfold PyData.hasDict; rfl, by simp [PyData.depth]⟩
theorem Sh.none : Sh 11 1 .none := ⟨by decide +kernel, by decide +kernel, by decide +kernel, by decide +kernel⟩
theorem Sh.word {x : Str} (h : x = "deed" ∨ x = "paid" ∨ x = "void" ∨ x = "undone") : Sh 11 1 (.str x) := by
  rcases h with rfl | rfl | rfl | rfl <;> exact ⟨by decide +kernel, by decide +kernel, by decide +kernel, by decide +kernel⟩
theorem Sh.tup {k m n : Nat} {xs : List PyData} (h : ∀ x ∈ xs, Sh k m x) (hn : xs.length ≤ n) : Sh (n * (k + 2) + 3) (m + 1) (.tuple xs) := by
  have all_ : ∀ ys : List PyData, (∀ x ∈ ys, Sh k m x) → piled (PyData.shownAll ys) ≤ ys.length * (k + 2) ∧ PyData.showableAll ys = true ∧ PyData.hasDictAll ys = false ∧ PyData.depthAll ys ≤ m ∧ (PyData.shownAll ys = [] → ys = []) := by
    intro ys
    induction ys with
    | nil => exact fun _ => ⟨by simp [PyData.shownAll, piled], by unfold PyData.showableAll; rfl, by unfold PyData.hasDictAll; rfl, by simp [PyData.depthAll], fun _ => rfl⟩
    | cons y r ih =>
      intro h
      obtain ⟨a1, a2, a3, a4, _⟩ := ih fun x hx => h x (List.mem_cons_of_mem _ hx)
      have hy := h y List.mem_cons_self
      have l1 := hy.len
      have l2 := hy.dep
      refine ⟨?_, ?_, ?_, ?_, fun z => ?_⟩
      · simp only [PyData.shownAll, piled, List.length_cons, Nat.add_mul, Nat.one_mul] at a1 ⊢
        simp only [List.map_cons, List.sum_cons] at a1 ⊢
        omega
      · unfold PyData.showableAll
        rw [hy.show_, a2]
        rfl
      · unfold PyData.hasDictAll
        rw [hy.nod, a3]
        rfl
      · simp only [PyData.depthAll]
        omega
      · unfold PyData.shownAll at z
        cases z
  obtain ⟨a1, a2, a3, a4, a5⟩ := all_ xs h
  have le : xs.length * (k + 2) ≤ n * (k + 2) := Nat.mul_le_mul_right _ hn
  refine ⟨?_, by unfold PyData.showable; exact a2, by unfold PyData.hasDict; exact a3, by simp only [PyData.depth]; omega⟩
  unfold PyData.shown tupleText
  rw [strLen_append, strLen_append]
  have e1 : ("(" : Str).length = 1 := by decide +kernel
  have e2 : ((if (PyData.shownAll xs).length == 1 then ",)" else ")" : String) : Str).length ≤ 2 := by split <;> decide +kernel
  by_cases ne : PyData.shownAll xs = []
  · rw [ne] at e2 ⊢
    have e3 : (Str.join ", " []).length = 0 := by decide +kernel
    omega
  · have e3 := join_length_add _ ne
    omega
end Deed

namespace Deed
open PySem PySem.Spec PyProof.Rows L2 LamX
/-! ### books as data, how long they show -/
theorem sqT_extN {K : PySem.W.Frag} {H H' : Hp} {a : Addr} {xs : List V} (e : ExtN H H') (h : SqT K H a xs) : SqT K H' a xs := by
  rcases h with (z | ⟨o, z⟩) | z
  · exact .inl (.inl (e _ _ z fun ps z' => by cases z'))
  · exact .inl (.inr ⟨o, e _ _ z fun ps z' => by cases z'⟩)
  · exact .inr z
mutual
theorem Dp.extN {K : PySem.W.Frag} {H H' : Hp} (e : ExtN H H') : ∀ {v : V} {d : PyData}, Dp K H v d → Dp K H' v d
  | _, _, .non => .non
  | _, _, .bl b => .bl b
  | _, _, .int i => .int i
  | _, _, .str x => .str x
  | _, _, .lst h a => .lst (ExtN.sqL e h) (DpAll.extN e a)
  | _, _, .tup h a => .tup (sqT_extN e h) (DpAll.extN e a)
theorem DpAll.extN {K : PySem.W.Frag} {H H' : Hp} (e : ExtN H H') : ∀ {vs : List V} {ds : List PyData}, DpAll K H vs ds → DpAll K H' vs ds
  | _, _, .nil => .nil
  | _, _, .cons h r => .cons (Dp.extN e h) (DpAll.extN e r)
end
theorem dpSh_all {K : PySem.W.Frag} {H : Hp} {k m : Nat} : ∀ xs : List V, (∀ x ∈ xs, ∃ d, Dp K H x d ∧ Sh k m d) → ∃ ds, DpAll K H xs ds ∧ ds.length = xs.length ∧ ∀ d ∈ ds, Sh k m d
  | [], _ => ⟨[], .nil, rfl, fun _ h => nomatch h⟩
  | x :: r, h => by
    obtain ⟨d, h1, h2⟩ := h x List.mem_cons_self
    obtain ⟨ds, h3, h4, h5⟩ := dpSh_all r fun y hy => h y (List.mem_cons_of_mem _ hy)
    refine ⟨d :: ds, .cons h1 h3, by rw [List.length_cons, List.length_cons, h4], fun y hy => ?_⟩
    rcases List.mem_cons.mp hy with rfl | hy
    · exact h2
    · exact h5 y hy
theorem dpSh_tup {K : PySem.W.Frag} {H : Hp} {k m n : Nat} {a : Addr} {xs : List V} (e : H a = some (.tup xs)) (hn : xs.length ≤ n) (h : ∀ x ∈ xs, ∃ d, Dp K H x d ∧ Sh k m d) : ∃ d, Dp K H (.ref a) d ∧ Sh (n * (k + 2) + 3) (m + 1) d := by
  obtain ⟨ds, h1, h2, h3⟩ := dpSh_all xs h
  exact ⟨.tuple ds, .tup (SqT.of e) h1, .tup h3 (by omega)⟩
theorem int_sh {K : PySem.W.Frag} {H : Hp} {i : Int} (h0 : -10000 ≤ i) (h1 : i ≤ 10000) : ∃ d, Dp K H (.int i) d ∧ Sh 11 1 d := ⟨_, .int i, .int h0 h1⟩
theorem up_sh {K : PySem.W.Frag} {H : Hp} {x : V} {k m k' m' : Nat} (h : ∃ d, Dp K H x d ∧ Sh k m d) (h1 : k ≤ k') (h2 : m ≤ m') : ∃ d, Dp K H x d ∧ Sh k' m' d := h.imp fun _ h => ⟨h.1, h.2.mono h1 h2⟩
theorem ints_sh {K : PySem.W.Frag} {H : Hp} {a : Addr} {ns : List Int} (e : H a = some (.tup (ns.map V.int))) (hn : ns.length ≤ 3) (h : ∀ i ∈ ns, -10000 ≤ i ∧ i ≤ 10000) : ∃ d, Dp K H (.ref a) d ∧ Sh 42 2 d :=
  dpSh_tup (k := 11) (m := 1) (n := 3) e (by rw [List.length_map]; exact hn) fun x hx => by
    obtain ⟨i, hi, rfl⟩ := List.mem_map.mp hx
    exact int_sh (h i hi).1 (h i hi).2
theorem PersonAt.sh {K : PySem.W.Frag} {H : Hp} {x : V} (h : PersonAt H x) : ∃ d, Dp K H x d ∧ Sh 29 2 d := by
  obtain ⟨a, b, d, rfl, h1, h2, h3, h4⟩ := h
  refine dpSh_tup (k := 11) (m := 1) (n := 2) h1 (Nat.le_refl _) fun x hx => ?_
  rcases List.mem_cons.mp hx with rfl | hx
  · exact int_sh (by omega) (by omega)
  · rw [List.mem_singleton.mp hx]
    rcases h4 with rfl | ⟨i, rfl, h5, h6⟩
    · exact ⟨_, .non, .none⟩
    · exact int_sh (by omega) (by omega)
theorem EntAt.sh {K : PySem.W.Frag} {H : Hp} {a : Addr} {n : Nat} {ds as : List Int} {e : En} (h : EntAt H a e) (ho : EnOk n ds as e) (hr : 0 ≤ e.num ∧ e.num ≤ 30) (hn : n ≤ 6) (hds : ∀ x ∈ ds, 0 ≤ x) (has : ∀ x ∈ as, 0 ≤ x) : ∃ d, Dp K H (.ref a) d ∧ Sh 399 3 d := by
  have h4 := ho.2.2.2
  obtain ⟨o1, o2, o3, _⟩ := ho
  unfold EntAt at h
  have small : ∀ {i : Int}, 0 ≤ i → i ≤ 9999 → ∃ d, Dp K H (.int i) d ∧ Sh 42 2 d := fun h0 h1 => up_sh (int_sh (by omega) (by omega)) (by decide) (by decide)
  have word : ∀ {x : Str}, (x = "deed" ∨ x = "paid" ∨ x = "void" ∨ x = "undone") → ∃ d, Dp K H (.str x) d ∧ Sh 42 2 d := fun hx => ⟨_, .str _, (Sh.word hx).mono (by decide) (by decide)⟩
  cases hk : e.kd with
  | deed g t rs ws =>
    rw [hk] at h h4
    obtain ⟨r, w, e1, e2, e3⟩ := h
    obtain ⟨⟨g0, g1⟩, ⟨t0, t1⟩, _, r1, _, r3, w1, _, w3⟩ := h4
    refine dpSh_tup (k := 42) (m := 2) (n := 9) e1 (Nat.le_refl _) fun x hx => ?_
    simp only [List.mem_cons, List.not_mem_nil, or_false] at hx
    rcases hx with rfl | rfl | rfl | rfl | rfl | rfl | rfl | rfl | rfl
    · exact small (by omega) (by omega)
    · exact small o1.1 o1.2
    · exact small o2.1 o2.2
    · exact small (by omega) (by omega)
    · exact word (.inl rfl)
    · exact small (by omega) (by omega)
    · exact small (by omega) (by omega)
    · exact ints_sh e2 (by omega) fun i hi => by
        have h1 := r3 i hi
        have h2 := hds i h1.1
        omega
    · exact ints_sh e3 (by omega) fun i hi => by
        have h1 := w3 i hi
        omega
  | act x o =>
    rw [hk] at h h4
    have o0 : 0 ≤ o := by
      rcases h4.1 with ⟨_, z⟩ | ⟨_, z⟩
      · exact has o z
      · exact hds o z
    have h5 := h4.2
    refine dpSh_tup (k := 42) (m := 2) (n := 9) h (by show 6 ≤ 9; decide) fun y hy => ?_
    simp only [List.mem_cons, List.not_mem_nil, or_false] at hy
    rcases hy with rfl | rfl | rfl | rfl | rfl | rfl
    · exact small (by omega) (by omega)
    · exact small o1.1 o1.2
    · exact small o2.1 o2.2
    · exact small (by omega) (by omega)
    · rcases h4.1 with ⟨z, _⟩ | ⟨z | z, _⟩
      · exact word (.inr (.inr (.inr z)))
      · exact word (.inr (.inl z))
      · exact word (.inr (.inr (.inl z)))
    · exact small (by omega) (by omega)
theorem BookAt.sh {K : PySem.W.Frag} {H : Hp} {b fk t : Addr} {n : Nat} {age : Int} {zs : List (Addr × En)} (h : BookAt H b fk t n age zs) : ∃ d, Dp K H (.ref b) d ∧ Sh 100000 60 d := by
  have hds : ∀ x ∈ dn (ens zs), 0 ≤ x := fun x hx => by
    obtain ⟨e, he, _, rfl⟩ := mem_dn.mp hx
    exact (h.ok.rng e he).1
  have has : ∀ x ∈ an (ens zs), 0 ≤ x := fun x hx => by
    obtain ⟨e, he, _, rfl⟩ := mem_an.mp hx
    exact (h.ok.rng e he).1
  obtain ⟨xs, ef, hl, hx⟩ := h.folk
  have n6 := h.n6
  have a0 := h.age0
  have a1 := h.age1
  have folk : ∃ d, Dp K H (.ref fk) d ∧ Sh 6419 4 d := up_sh (dpSh_tup (k := 29) (m := 2) (n := 6) ef (by omega) fun x hm => (hx x hm).sh) (by decide) (by decide)
  have ents : ∃ d, Dp K H (.ref t) d ∧ Sh 6419 4 d := dpSh_tup (k := 399) (m := 3) (n := 16) h.ents (by rw [List.length_map]; exact h.len) fun x hm => by
    obtain ⟨z, hz, rfl⟩ := List.mem_map.mp hm
    have he : z.2 ∈ ens zs := List.mem_map.mpr ⟨z, hz, rfl⟩
    exact (h.ent z hz).sh (h.ok.ok _ he) (h.ok.rng _ he) n6 hds has
  refine up_sh (dpSh_tup (k := 6419) (m := 4) (n := 3) h.at_ (Nat.le_refl _) fun x hm => ?_) (by decide) (by decide)
  simp only [List.mem_cons, List.not_mem_nil, or_false] at hm
  rcases hm with rfl | rfl | rfl
  · exact folk
  · exact up_sh (int_sh (by omega) (by omega)) (by decide) (by decide)
  · exact ents
end Deed

namespace LamX
open PySem PySem.Spec PyProof.Rows L2
/-! ### the end of a law that asks repr: its body is run where no repr is under way -/
/-- the tables, and the script, locked, if the written part hasn't it -/
def begH (K : PySem.W.Frag) (a : Addr) (ts : List Addr) (o : Obj) (xs : List V) : Hp := fun b => if b ∈ ts then some (.tbl #[]) else if b = a ∧ K.lookup a = none then some (.frz o (.lst xs)) else none
theorem begH_at {K : PySem.W.Frag} {a b : Addr} {ts : List Addr} {o : Obj} {xs : List V} {u : HO} (h : begH K a ts o xs b = some u) : (b ∈ ts ∧ u = .tbl #[]) ∨ (b = a ∧ K.lookup a = none ∧ u = .frz o (.lst xs)) := by
  unfold begH at h
  split at h
  · rename_i hb
    cases h
    exact .inl ⟨hb, rfl⟩
  · split at h
    · rename_i hb
      cases h
      exact .inr ⟨hb.1, hb.2, rfl⟩
    · cases h
/-- a def's body at callerA: nothing is handled, no repr is under way -/
def BodyG (P : Program) (w : World) (K : PySem.W.Frag) (mg : Str → Option Value) (base : Heap) (N : List Str) (qual : Str) (st : Stmt) (f c a : Addr) (s : Shared) (H : Hp) : Prop :=
  ∃ t, PSs (cxOf CX0 P w K mg base N qual (defScope st) f (.ref c) callerA [] s H (fun _ _ _ => False)).nox (defBody st) t ∧ t { nx := fun _ _ => False, rt := fun v _ => v = .bl true } (start N [.ref a]) H
theorem law_G {P : Program} {w : World} {K : PySem.W.Frag} {mg mb : Str → Option Value} {k : Nat} {f c a : Addr} {cs : List (Addr × Addr)} {fd : FuncData} {nm qual x : Str} {st : Stmt} {N : List Str} {s : Shared} {vs : List Value} {ns : List Int}
    (KX : K.In s.heap) (hns : s.heap.Ns mainGlobals mg) (hb : s.heap.Ns builtinsNs mb) (hbb : ∀ x : Str, x ≠ "__name__" → mb x = bootBuiltins x) (hlim : s.heap.NoLimit) (hg : s.gens = #[])
    (hT : ∀ p ∈ cs, s.heap.get? p.2 = some { cls := .none, data := .fields #[] }) (nT : ∀ p ∈ cs, K.lookup p.2 = none) (C : ∀ p ∈ cs, PySem.W.CodeHd s.heap p.1 p.2)
    (hbm : ∃ (bm : Addr) (ob : Obj), mg "__builtins__" = some (.ref bm) ∧ bm ≠ builtinsNs ∧ s.heap.get? bm = some ob ∧ ob.cls = .type "module" ∧ ob.dict = some builtinsNs ∧ ob.data = .plain)
    (ha : s.heap.get? a = some { cls := .type "list", data := .seq vs.toArray }) (hi : IntsAre vs ns) (hl : ns.length ≤ sizeLine) (hr : Room (k + 1) callerA) (F : Fun K nm qual st f fd) (hc : fd.code = .ref c) (S : FnScope N [x] (defScope st)) (hbind : ∀ (s : Shared) (u : Value), BindsTo s fd ⟨[u], []⟩ [(x, u)])
    (body : ∀ base : Heap, K.In base → base.Ns mainGlobals mg → (∀ p ∈ cs, TabB base mg p.1 p.2) → ∀ (s : Shared) (H : Hp), (∀ p ∈ cs, H p.2 = some (.tbl #[])) → SqL K H a (ns.map V.int) → BodyG P w K mg base N qual st f c a s H) :
    codeAny (model P w) callerA (.call (.ref f) ⟨[.ref a], []⟩) (fun r s' => r = .ok (.ret (.bool true)) ∧ OldK s.heap s'.heap ∧ s'.os = s.os ∧ AllBare s'.gens) s := by
  have rv := vals_ints hi
  have hlen := hi.length
  generalize hts : cs.map (·.2) = ts
  have inT : ∀ p ∈ cs, p.2 ∈ ts := fun p hp => hts ▸ List.mem_map.mpr ⟨p, hp, rfl⟩
  have ofT : ∀ b, b ∈ ts → ∃ p ∈ cs, p.2 = b := fun b hb => by
    rw [← hts] at hb
    exact List.mem_map.mp hb
  have objT : ∀ b, b ∈ ts → s.heap.get? b = some { cls := .none, data := .fields #[] } := fun b hb => by
    obtain ⟨p, hp, rfl⟩ := ofT b hb
    exact hT p hp
  have aT : a ∉ ts := fun z => by
    have q := objT a z
    rw [ha] at q
    exact absurd (congrArg Obj.data (Option.some.inj q)) (fun z => by cases z)
  generalize hH : begH K a ts { cls := .type "list", data := .seq vs.toArray } (ns.map V.int) = H
  have what : ∀ b u, H b = some u → (b ∈ ts ∧ u = .tbl #[]) ∨ (b = a ∧ K.lookup a = none ∧ u = .frz { cls := .type "list", data := .seq vs.toArray } (.lst (ns.map V.int))) := fun b u e => by
    rw [← hH] at e
    exact begH_at e
  have tabs : ∀ p ∈ cs, H p.2 = some (.tbl #[]) := fun p hp => by
    rw [← hH]
    exact if_pos (inT p hp)
  -- what is no list and no empty table is not tracked
  have free : ∀ {b : Addr} {o : Obj}, s.heap.get? b = some o → (∀ us n, o.data ≠ .seq us n) → o.data ≠ .fields #[] → H b = none := fun {b o} e n1 n2 => by
    cases q : H b with
    | none => rfl
    | some u =>
      rcases what b u q with ⟨hb, _⟩ | ⟨hb, _⟩
      · rw [objT b hb] at e
        cases e
        exact absurd rfl n2
      · rw [hb, ha] at e
        cases e
        exact absurd rfl (n1 _ _)
  have dict : ∀ {b : Addr} {m : Str → Option Value}, s.heap.Ns b m → (hidT s.heap H).Ns b m := fun {b m} ⟨o, es, ep, e, d, r⟩ => ⟨o, es, ep, hidT_get e (free e (fun us n z => by rw [d] at z; cases z) fun z => by rw [d] at z; cases z), d, r⟩
  have hK : K.In (hidT s.heap H) := fun b o e => hidT_get (KX b o e) (by
    cases q : H b with
    | none => rfl
    | some u =>
      rcases what b u q with ⟨hb, _⟩ | ⟨hb, hn, _⟩
      · obtain ⟨p, hp, rfl⟩ := ofT b hb
        rw [nT p hp] at e
        cases e
      · rw [hb, hn] at e
        cases e)
  have hM : L2.Mod K mg (hidT s.heap H) := ⟨hK, dict hns, ⟨mb, dict hb, hbb⟩, hlim.imp fun mc h => ⟨dict h.1, h.2⟩⟩
  have TB : ∀ p ∈ cs, TabB (hidT s.heap H) mg p.1 p.2 := fun p hp => by
    have eP := hT p hp
    obtain ⟨o, us, file, tf, flags, tg, inF, text, tt, e1, r1, r2, r3, r⟩ := C p hp
    obtain ⟨bm, ob, b1, b2, b3, b4, b5, b6⟩ := hbm
    obtain ⟨og, es, ep, eg, dg, _⟩ := hns
    refine ⟨⟨o, us, file, tf, flags, tg, inF, text, tt, hidT_get e1 (free e1 (fun us n z => by rw [r2] at z; cases z) fun z => by rw [r2] at z; cases z; simp at r3), r1, r2, r3, r⟩,
      ⟨bm, ob, b1, b2, fun z => ?_, fun z => ?_, hidT_get b3 (free b3 (fun us n z => by rw [b6] at z; cases z) fun z => by rw [b6] at z; cases z), b4, b5, b6⟩, fun z => ?_⟩
    · rw [z, eg] at b3
      cases b3
      rw [dg] at b6
      cases b6
    · rw [z, eP] at b3
      cases b3
      cases b6
    · rw [z, eP] at eg
      cases eg
      cases dg
  have hok : HOk P w H s.heap := fun b u e => by
    rcases what b u e with ⟨hb, rfl⟩ | ⟨rfl, _, rfl⟩
    · exact objT b hb
    · exact ⟨ha, by rw [List.length_map]; exact hl, vs, _, rv, ha⟩
  have hS : SqL K H a (ns.map V.int) := by
    cases hk : K.lookup a with
    | some o =>
      have e := KX a o hk
      rw [ha] at e
      cases e
      exact .inr ⟨_, vs.toArray, _, hk, rfl, rfl, rfl, by rw [List.size_toArray, hlen]; exact hl, by simpa using rv⟩
    | none => exact .inl (.inr ⟨{ cls := .type "list", data := .seq vs.toArray }, by rw [← hH]; exact (if_neg aT).trans (if_pos ⟨rfl, hk⟩)⟩)
  have e0 : Env0 P w K mg (hidT s.heap H) callerA [] s H := ⟨rfl, hM, fun b o e => of_hidT e, Nat.le_of_eq (hidT_size _ _), trivial, fun b z => absurd (show b ∈ ([] : List Addr) from z) (by simp), hok, .of_eq hg⟩
  obtain ⟨t, ht, hq⟩ := body _ hK (dict hns) TB s H tabs hS
  -- the call
  obtain ⟨oc, od, kV, doc, pm, an, cdv, ct, osl, rfl, lk, hcd⟩ := F.ex
  have ec : cdv = .ref c := hc
  subst ec
  have run : codeAny (model P w) callerA (.call (.ref f) ⟨[.ref a], []⟩) (CR CX0 [] P w H s (fun v _ => v = .bl true) fun _ _ _ => False) s := by
    refine codeAny_call_function hr.depth (KX _ _ lk) rfl S.co S.gen rfl (PySem.W.codeRec_of KX hcd) (hbind s (.ref a) _ _ _ _ (wpAny_newFunctionEnv_cells S.kind (fun y hy => ?_) fun env he s1 en => ?_))
    · rcases S.par y.1 (List.of_mem_zip (show (y.1, y.2) ∈ [x].zip [Value.ref a] from hy)).1 with q | q
      · exact .inl q
      · exact .inr ⟨q, PySem.W.cellsFrom_some _ _ _ (.inl q)⟩
    subst he
    refine ⟨hlim.keeps en.toInCall.keep, codeAny_func ?_⟩
    have I : Inv (cxOf CX0 P w K mg (hidT s.heap H) N qual (defScope st) f (.ref c) callerA [] s H (fun _ _ _ => False)) [] (start N [.ref a]) H s1 := inv_start (us := [.ref a]) S hr.hd e0 rfl (.cons rfl .nil) en
    refine wpAny_mono (ht.nox.run [] s1 (start N [.ref a]) H _ I hq) (fun fl s2 hs => ?_) fun e s2 hs => hs
    match fl, hs with
    | .ret u, ⟨v, σ', H2, J, r, q⟩ => exact ⟨v, H2, J.os, J.bare, J.base, J.hok, r, q⟩
    | .next, ⟨_, _, _, z⟩ => exact z.elim
    | .brk, ⟨_, _, _, z⟩ => exact z.elim
    | .cont, ⟨_, _, _, z⟩ => exact z.elim
  refine codeAny_mono run fun r s2 told => ?_
  match r, told with
  | .error e, z => exact z.elim
  | .ok .next, z => exact z.elim
  | .ok .brk, z => exact z.elim
  | .ok .cont, z => exact z.elim
  | .ok (.ret u), ⟨v, H2, os2, bare2, un, ok2, rv2, q⟩ =>
    obtain rfl : v = .bl true := q
    obtain rfl : u = Value.bool true := rv2
    have kept : ∀ b o, b ∉ ts → s.heap.get? b = some o → s2.heap.get? b = some o := fun b o nb e => by
      cases q : H b with
      | none => exact un.keep b o e q (fun z => absurd (show b ∈ ([] : List Addr) from z) (by simp)) (by simp)
      | some u =>
        rcases what b u q with ⟨z, _⟩ | ⟨rfl, _, rfl⟩
        · exact absurd z nb
        · rw [ha] at e
          cases e
          exact (ok2 _ _ (un.frzs _ _ _ q)).1
    have grew : ∀ b, b ∈ ts → ∃ more : Array Value, s2.heap.get? b = some { cls := .none, data := .fields more } := fun b hb => by
      obtain ⟨p, hp, rfl⟩ := ofT b hb
      obtain ⟨more, z⟩ := un.tbls p.2 #[] (tabs p hp)
      exact ⟨_, ok2 p.2 _ z⟩
    refine ⟨rfl, ⟨fun b o e => ?_, fun b o e => ?_⟩, os2, bare2⟩
    · by_cases hb : b ∈ ts
      · obtain ⟨more, hm⟩ := grew b hb
        obtain ⟨p, hp, rfl⟩ := ofT b hb
        rw [hT p hp] at e
        cases e
        exact .inr (.inl ⟨((C p hp).tab (hT p hp)).isCodeTable, rfl, #[], more, rfl, by rw [Array.empty_append]; exact hm⟩)
      · exact .inl (kept b o hb e)
    · by_cases hb : b ∈ ts
      · obtain ⟨more, hm⟩ := grew b hb
        exact ⟨_, hm⟩
      · exact ⟨o, kept b o hb e⟩
end LamX

namespace LamX
open PySem PySem.Spec PyProof.Rows L2
/-- what is known of the law at the head's heap h, its body run at callerA -/
def LawG (l : PySem.W.OpenLaw) (w : World) (K : PySem.W.Frag) (n : Nat) (x nm qual : Str) (st : Stmt) (N : List Str) (mg : Str → Option Value) (f : Addr) (h : Heap) : Prop :=
  ∃ (fd : FuncData) (c : Addr) (cs : List (Addr × Addr)), (∀ p ∈ cs, h.get? p.2 = some { cls := .none, data := .fields #[] }) ∧ (∀ p ∈ cs, K.lookup p.2 = none) ∧ (∀ p ∈ cs, PySem.W.CodeHd h p.1 p.2) ∧ (∀ (s : Shared) (u : Value), BindsTo s fd ⟨[u], []⟩ [(x, u)]) ∧
    Fun K nm qual st f fd ∧ fd.code = .ref c ∧ FnScope N [x] (defScope st) ∧
    ∀ (a : Addr) (ns : List Int), ns.length ≤ n → ∀ base : Heap, K.In base → base.Ns mainGlobals mg → (∀ p ∈ cs, TabB base mg p.1 p.2) → ∀ (s : Shared) (H : Hp), (∀ p ∈ cs, H p.2 = some (.tbl #[])) → SqL K H a (ns.map V.int) → BodyG l.prog w K mg base N qual st f c a s H
theorem walk_G {l : PySem.W.OpenLaw} {n k : Nat} {q : Program} {loose : List Str} {XP : (Str → Option Value) → Heap → Prop} {YP : World → Heap → Prop} {d : DefRec} {x nm qual : Str} {st : Stmt} {N : List Str}
    (hn : l.most = some n) (hn2 : n ≤ sizeLine) (hdf : d.params.defaults = []) (hr : Room (k + 1) callerA)
    (F : ∀ (w : World) (mg : Str → Option Value) (fa : Addr) (h : Heap), YP w h → h.Ns mainGlobals mg → mg d.name = some (.ref fa) → ∃ K : PySem.W.Frag, K.In h ∧ LawG l w K n x nm qual st N mg fa h) :
    PySem.W.WalkO q loose XP YP l.row.toRowW d [] (fun f vs => PySem.call f vs) := by
  refine Att.attach_callB hn hdf fun w s₀ s₁ mg mb fa o pm cd doc a vs ns G Y ho hd hcd hmg hobj hints hlen hbits hg => ?_
  obtain ⟨K, KX, fd, c, cs, hT, nT, C, hb, hF, hc, S, body⟩ := F w mg fa _ Y G.T.g hmg
  exact law_G KX G.T.g G.T.b G.T.builtins G.T.nolimit hg hT nT C G.T.bmain hobj hints (Nat.le_trans hlen hn2) hr hF hc S hb (body a ns hlen)
end LamX

namespace Deed
open PySem PySem.Spec PyProof.Rows L2 LamX
section
variable {P : Program} {w : World} {K : PySem.W.Frag} {mg : Str → Option Value} {base : Heap} {T : List (Addr × Str)}
abbrev sLaw : Stmt := topS 66
abbrev nLaw : List Str := ["_law_script", "_law_pen_here", "_law_one", "_law_books", "_law_d", "_law_known", "_law_turn", "_law_book_here", "_law_kept"]
theorem scLaw : FnScope nLaw ["_law_script"] (defScope sLaw) := ⟨rfl, rfl, rfl, by decide +kernel, rfl, by decide +kernel, by decide +kernel⟩
theorem law_body {f c a : Addr} {k : Nat} {ns : List Int} {s : Shared} {H : Hp} (hr0 : Room (k + 1) callerA) (hS : SqL K H a (ns.map V.int)) (hT : Tabs T H)
    (C_ce : CallOk P w K mg base k "_law_cell_at" ["_law_script", "_law_k"] (spCell K)) (C_pe : CallOk P w K mg base k "_law_pen" ["_law_cell"] spPen) (C_bo : CallOk P w K mg base k "_law_book" ["_law_pen_here", "_law_most"] spBook) (C_ot : CallOk P w K mg base k "_law_other" pLOther (spLOther28 T)) (C_da : CallOk P w K mg base k "_law_days" pDays spDays) (C_dr : CallOk P w K mg base k "_law_draw" ["_law_pen_here", "_law_bound"] spDraw) (C_ri : CallOk P w K mg base k "_law_right" pLRight (spLRight28 T))
    (m_range : mg "range" = none) (m_int : mg "int" = none) (m_repr : mg "repr" = none) : BodyG P w K mg base nLaw "law" sLaw f c a s H := by
  have hr := hr0.deeper (envOfC "law" (defScope sLaw) s.heap.objs.size f (.ref c))
  have nd := scLaw.nd
  have hu65 := Nat.lt_of_le_of_lt (Nat.add_le_add_left (show 65 ≤ 16 * k + 200 by omega) _) (show _ + (16 * k + 200) < cLine from by have h := hr.un; rw [Nat.add_assoc] at h; exact h)
  refine ⟨_, pss_cons (ps_set (i := 1) nd rfl (.inl rfl) (pe_call C_pe.ok hr (by rfl) C_pe.g C_pe.kp C_pe.b .nil pass0 (pa_cons (pe_call C_ce.ok hr (by rfl) C_ce.g C_ce.kp C_ce.b .nil pass0 (pa_cons (pv 0) (pa_cons pe_int pa_nil))) pa_nil)))
      (pss_cons (ps_set (i := 2) nd rfl (.inl rfl) (pe_call C_bo.ok hr (by rfl) C_bo.g C_bo.kp C_bo.b .nil pass0 (pa_cons (pv 1) (pa_cons pe_int pa_nil))))
      (pss_cons (ps_set (i := 3) nd rfl (.inl rfl) (pe_lst (pa_cons (pv 2) (pa_cons (pe_call C_ot.ok hr (by rfl) C_ot.g C_ot.kp C_ot.b .nil pass0 (pa_cons (pv 1) (pa_cons (pv 2) pa_nil))) pa_nil))))
      (pss_cons (ps_asg (pe_call C_da.ok hr (by rfl) C_da.g C_da.kp C_da.b .nil pass0 (pa_cons (pv 1) (pa_cons (pv 2) pa_nil))) (pg_tup (by rfl) (pgs_cons (pg_name (i := 4) nd rfl (.inl rfl)) (pgs_cons (pg_name (i := 5) nd rfl (.inl rfl)) pgs_nil))))
      (pss_cons (ps_for PassesOwn.never rfl (pi_range1 rfl m_range (pa_cons pe_int pa_nil)) (pg_name (i := 6) nd rfl (.inl rfl))
        (pss_cons (ps_set (i := 7) nd rfl (.inl rfl) (pe_ix ix_list (pv 3) (pe_ix ix_list (pe_lst (pa_cons (pe_op op_mod (pv 6) pe_int) (pa_cons (pe_call C_dr.ok hr (by rfl) C_dr.g C_dr.kp C_dr.b .nil pass0 (pa_cons (pv 1) (pa_cons pe_int pa_nil))) pa_nil))) (pe_callTy call_int1 (by rfl) m_int (by decide +kernel) (pa_cons (pe_cmpR op_gt (pv 6) pe_int (nomark _)) pa_nil)) (fun _ _ => rfl)) (fun _ _ => rfl)))
      (pss_cons (ps_set (i := 8) nd rfl (.inl rfl) (pe_callB (call_rpr rfl hu65) (by rfl) m_repr (by decide +kernel) (pa_cons (pv 7) pa_nil)))
      (pss_one (ps_if (PW.pt (pw_or (pt_not (pt_val (pe_call C_ri.ok hr (by rfl) C_ri.g C_ri.kp C_ri.b .nil pass0 (pa_cons (pv 7) (pa_cons (pv 4) (pa_cons (pv 5) pa_nil)))))) (pw_or1 (pt_cmpR op_ne (pe_callB (call_rpr rfl hu65) (by rfl) m_repr (by decide +kernel) (pa_cons (pv 7) pa_nil)) (pv 8) (nomark _))))) (pss_one (ps_ret pe_bl)) pss_nil)))))
      (pss_one (ps_ret pe_bl)))))), ?_⟩
  refine ⟨_, rfl, a, ns, _, rfl, hS, by decide, fun cv => ?_⟩
  refine ⟨cv, rfl, fun p H1 s1 np P1 => ?_⟩
  have T1 := hT.ext s1
  refine ⟨_, rfl, p, 11, rfl, P1, by decide, by decide, fun b fk t n age zs H2 k2 P2 hB2 h11 => ?_⟩
  have T2 := Tabs.kp T1 k2 P1
  refine ⟨_, rfl, _, rfl, _, rfl, p, b, fk, t, n, age, zs, rfl, P2, hB2, by omega, T2, fun b' fk' t' n' age' zs' H3 x3 P3 T3 hB3' h11' => ?_⟩
  have hB3 := hB2.kp (x3.tup P2)
  refine ⟨(by show 2 ≤ sizeLine; decide), fun lb nlb => ?_⟩
  have s4 := same_new nlb (.lst [.ref b, .ref b'])
  have e4 : (upd H3 lb (.lst [.ref b, .ref b'])) lb = some (.lst [.ref b, .ref b']) := upd_same
  have plb : lb ≠ p := P3.free nlb
  have P4 := P3.new nlb (.lst [.ref b, .ref b'])
  have T4 := T3.ext s4
  generalize (upd H3 lb (.lst [.ref b, .ref b'])) = H4 at s4 e4 P4 T4
  have hB4 := hB3.kp (Same.tup s4)
  have hB4' := hB3'.kp (Same.tup s4)
  refine ⟨_, rfl, _, rfl, p, b, fk, t, n, age, zs, rfl, P4, hB4, fun ta d kk H5 k5 P5 eta hd hk => ?_⟩
  refine ⟨ta, [.int d, .int kk], rfl, SqT.of eta, rfl, .int d, [.int kk], rfl, .int kk, [], rfl, rfl, ?_⟩
  have e5 := k5 _ _ plb e4
  have T5 := Tabs.kp T4 k5 P4
  have hB5 := hB4.kp (k5.tup P4)
  have hB5' := hB4'.kp (k5.tup P4)
  refine ⟨6, rfl, by decide, by decide, ?_⟩
  refine for_range (lo := 0) (n := (6 : Int).toNat) (fun i σ H' => ∃ y6 y7 y8, σ = [some (.ref a), some (.ref p), some (.ref b), some (.ref lb), some (.int d), some (.int kk), y6, y7, y8] ∧ XP p H5 H' ∧ PenAt H' p ∧ Tabs T H') ⟨_, _, _, rfl, XP.refl _ _, P5, T5⟩ ?_ ?_
  · rintro i σ H6 hi ⟨y6, y7, y8, rfl, x6, P6, T6⟩
    have e6 := x6 _ _ plb e5 (fun ps z => by cases z)
    refine ⟨_, rfl, _, rfl, _, _, rfl, rfl, (by show (0 : Int) < 2; decide), _, rfl, p, 2, rfl, P6, by decide, by decide, fun v H7 k7 P7 v0 v2 => ?_⟩
    refine ⟨(by show 2 ≤ sizeLine; decide), fun l8 nl8 => ?_⟩
    have x7 : XP p H5 H7 := x6.trans (XP.ofK k7)
    have e7 := k7 _ _ plb e6
    have T7 := Tabs.kp T6 k7 P6
    generalize hH8 : upd H7 l8 (.lst [(fun (i j : Int) => V.int (i % j)) (0 + (i : Int)) 2, V.int v]) = H8
    have s8 : Same H7 H8 := by
      rw [← hH8]
      exact same_new nl8 _
    have e8 : H8 l8 = some (.lst [V.int ((0 + (i : Int)) % 2), .int v]) := by
      rw [← hH8]
      exact upd_same
    generalize hm : V.int ((0 + (i : Int)) % 2) = vm at e8
    obtain ⟨iv, giv, i0, rfl, hi0, hi1⟩ : ∃ iv, atI [vm, V.int v] (if decide ((0 + (i : Int)) > 3) = true then 1 else 0) = some iv ∧ ∃ i0 : Int, iv = .int i0 ∧ 0 ≤ i0 ∧ i0 < 2 := by
      have all_ : ∀ x ∈ [vm, V.int v], ∃ i0 : Int, x = .int i0 ∧ 0 ≤ i0 ∧ i0 < 2 := fun x hx => by
        rcases List.mem_cons.mp hx with rfl | hx
        · exact ⟨_, hm.symm, by omega, by omega⟩
        · rw [List.mem_singleton.mp hx]
          exact ⟨v, rfl, v0, v2⟩
      obtain ⟨iv, g, h⟩ := pick (xs := [vm, V.int v]) (i := if decide ((0 + (i : Int)) > 3) = true then 1 else 0) (fun x => ∃ i0 : Int, x = .int i0 ∧ 0 ≤ i0 ∧ i0 < 2) (by split <;> decide) (by show _ < (2 : Int); split <;> decide) all_
      exact ⟨iv, g, h⟩
    obtain ⟨bv, gbv, hbv⟩ := pick (xs := [V.ref b, .ref b']) (i := i0) (fun x => x = .ref b ∨ x = .ref b') hi0 hi1 (fun x hx => by
      rcases List.mem_cons.mp hx with h | h
      · exact .inl h
      · exact .inr (List.mem_singleton.mp h))
    have x8 : XP p H5 H8 := x7.trans (XP.ofS s8)
    have P8 : PenAt H8 p := ExtN.pen (.of s8) P7
    have T8 := T7.ext s8
    obtain ⟨bk, fkk, tk, nk, agek, zsk, rfl, hBk, hlk⟩ : ∃ bk fkk tk nk agek zsk, bv = .ref bk ∧ BookAt H8 bk fkk tk nk agek zsk ∧ zsk.length ≤ 11 := by
      rcases hbv with h | h
      · exact ⟨b, fk, t, n, age, zs, h, hB5.kp (x8.tup P5), by omega⟩
      · exact ⟨b', fk', t', n', age', zs', h, hB5'.kp (x8.tup P5), h11'⟩
    refine ⟨_, rfl, _, _, rfl, rfl, .inr ⟨_, rfl, ?_⟩⟩
    refine ⟨l8, _, _, _, rfl, rfl, SqL.of e8, giv, lb, _, _, _, rfl, rfl, SqL.of (s8 _ _ e7), gbv, ?_⟩
    obtain ⟨d0, hd0, hs0⟩ := hBk.sh (K := K)
    refine ⟨_, rfl, bk, d0, rfl, hd0, hs0, ?_⟩
    refine ⟨_, rfl, _, rfl, _, rfl, bk, fkk, tk, nk, agek, zsk, d, kk, rfl, hBk, hlk, T8, hd, hk, fun H9 e9 T9 => ?_⟩
    refine ⟨_, rfl, ?_⟩
    refine iteF ?_
    refine ⟨_, rfl, bk, d0, rfl, Dp.extN e9 hd0, hs0, _, rfl, rfl, _, rfl, ?_⟩
    refine ite2 (fun z => absurd z (by simp)) (fun _ => ?_)
    exact ⟨_, _, _, rfl, x8.trans (XP.ofN e9), ExtN.pen e9 P8, T9⟩
  · rintro σ H6 _
    exact rfl
end
end Deed

namespace Deed
open PySem PySem.Spec PyProof.Rows L2 LamX
theorem funOf {K : PySem.W.Frag} {x : Str} {st : Stmt} {f : Addr} {fd : FuncData} (F : FunD K x x (defArgs st) (defBody st) (defScope st) [] [] f fd) : Fun K x x st f fd := by
  obtain ⟨oc, od, dV, kV, doc, pm, an, cdv, ct, osl, e, lk, hcd, hD, hK⟩ := F.ex
  rcases hD with ⟨_, hD⟩ | ⟨hD, _⟩
  · subst hD
    exact ⟨⟨oc, od, kV, doc, pm, an, cdv, ct, osl, e, lk, hcd⟩, F.kp⟩
  · exact absurd rfl hD
theorem codeAt {K : PySem.W.Frag} {x : Str} {st : Stmt} {p : He.Defn} {fd : FuncData} (F : Fun K x x st (He.fAd K p) fd) : fd.code = .ref (He.cT K p).1 := by
  obtain ⟨oc, od, kV, doc, pm, an, cdv, ct, osl, e, lk, hcd⟩ := F.ex
  obtain ⟨c, ec⟩ := He.codeIn_ref hcd
  have e2 : fd.code = .ref c := by rw [e, ← ec]
  rw [show (He.cT K p).1 = c from He.codeOf_eq lk e2]
  exact e2
theorem facts {l : PySem.W.OpenLaw} {w : World} {K : PySem.W.Frag} {h : Heap} {mg : Str → Option Value} {f : Addr} (X : K.In h) (G : h.Ns mainGlobals mg) (hfa : mg ("law" : Str) = some (.ref f)) (c : He.SaysX faAll fnAll tsAll tfAll exAll w h K) : LamX.LawG l w K 63 "_law_script" "law" "law" sLaw nLaw mg f h := by
  obtain ⟨d0, F0'⟩ := c.t.d.def_ 0 (d := mkD "_law_cell_at" sCell) rfl
  have g0 := He.glo_ok X G (c.t.d.fact 0 (f := .glo "_law_cell_at") rfl)
  have F0 : Fun K "_law_cell_at" "_law_cell_at" sCell (He.fAd K ("_law_cell_at", none)) d0 := funOf F0'
  have D0 : Df K mg "_law_cell_at" sCell ["_law_script", "_law_k"] _ d0 := ⟨F0, F0.binds (ps := ["_law_script", "_law_k"]) (fun _ _ _ _ _ _ us hl => match us, hl with | [_, _], _ => rfl), g0⟩
  obtain ⟨d1, F1'⟩ := c.t.d.def_ 1 (d := mkD "_law_pen" sPen) rfl
  have g1 := He.glo_ok X G (c.t.d.fact 1 (f := .glo "_law_pen") rfl)
  have F1 : Fun K "_law_pen" "_law_pen" sPen (He.fAd K ("_law_pen", none)) d1 := funOf F1'
  have D1 : Df K mg "_law_pen" sPen ["_law_cell"] _ d1 := ⟨F1, F1.binds (ps := ["_law_cell"]) (fun _ _ _ _ _ _ us hl => match us, hl with | [_], _ => rfl), g1⟩
  obtain ⟨d2, F2'⟩ := c.t.d.def_ 2 (d := mkD "_law_draw" sDraw) rfl
  have g2 := He.glo_ok X G (c.t.d.fact 2 (f := .glo "_law_draw") rfl)
  have F2 : Fun K "_law_draw" "_law_draw" sDraw (He.fAd K ("_law_draw", none)) d2 := funOf F2'
  have D2 : Df K mg "_law_draw" sDraw ["_law_pen_here", "_law_bound"] _ d2 := ⟨F2, F2.binds (ps := ["_law_pen_here", "_law_bound"]) (fun _ _ _ _ _ _ us hl => match us, hl with | [_, _], _ => rfl), g2⟩
  obtain ⟨d3, F3'⟩ := c.t.d.def_ 3 (d := mkD "_law_day" sDay) rfl
  have g3 := He.glo_ok X G (c.t.d.fact 3 (f := .glo "_law_day") rfl)
  have F3 : Fun K "_law_day" "_law_day" sDay (He.fAd K ("_law_day", none)) d3 := funOf F3'
  have D3 : Df K mg "_law_day" sDay ["_law_pen_here"] _ d3 := ⟨F3, F3.binds (ps := ["_law_pen_here"]) (fun _ _ _ _ _ _ us hl => match us, hl with | [_], _ => rfl), g3⟩
  obtain ⟨d4, F4'⟩ := c.t.d.def_ 4 (d := mkD "_law_folk" sFolk) rfl
  have g4 := He.glo_ok X G (c.t.d.fact 4 (f := .glo "_law_folk") rfl)
  have F4 : Fun K "_law_folk" "_law_folk" sFolk (He.fAd K ("_law_folk", none)) d4 := funOf F4'
  have D4 : Df K mg "_law_folk" sFolk ["_law_pen_here", "_law_least"] _ d4 := ⟨F4, F4.binds (ps := ["_law_pen_here", "_law_least"]) (fun _ _ _ _ _ _ us hl => match us, hl with | [_, _], _ => rfl), g4⟩
  obtain ⟨d5, F5'⟩ := c.t.d.def_ 5 (d := mkD "_law_few" sFew) rfl
  have g5 := He.glo_ok X G (c.t.d.fact 5 (f := .glo "_law_few") rfl)
  have F5 : Fun K "_law_few" "_law_few" sFew (He.fAd K ("_law_few", none)) d5 := funOf F5'
  have D5 : Df K mg "_law_few" sFew ["_law_pen_here", "_law_some", "_law_most"] _ d5 := ⟨F5, F5.binds (ps := ["_law_pen_here", "_law_some", "_law_most"]) (fun _ _ _ _ _ _ us hl => match us, hl with | [_, _, _], _ => rfl), g5⟩
  obtain ⟨d6, F6'⟩ := c.t.d.def_ 6 (d := mkD "_law_deed" sDeed) rfl
  have g6 := He.glo_ok X G (c.t.d.fact 6 (f := .glo "_law_deed") rfl)
  have F6 : Fun K "_law_deed" "_law_deed" sDeed (He.fAd K ("_law_deed", none)) d6 := funOf F6'
  have D6 : Df K mg "_law_deed" sDeed ["_law_pen_here", "_law_folk_here", "_law_deeds"] _ d6 := ⟨F6, F6.binds (ps := ["_law_pen_here", "_law_folk_here", "_law_deeds"]) (fun _ _ _ _ _ _ us hl => match us, hl with | [_, _, _], _ => rfl), g6⟩
  obtain ⟨d7, F7'⟩ := c.t.d.def_ 7 (d := mkD "_law_entry" sEntry) rfl
  have g7 := He.glo_ok X G (c.t.d.fact 7 (f := .glo "_law_entry") rfl)
  have F7 : Fun K "_law_entry" "_law_entry" sEntry (He.fAd K ("_law_entry", none)) d7 := funOf F7'
  have D7 : Df K mg "_law_entry" sEntry ["_law_pen_here", "_law_folk_here", "_law_number", "_law_deeds", "_law_acts"] _ d7 := ⟨F7, F7.binds (ps := ["_law_pen_here", "_law_folk_here", "_law_number", "_law_deeds", "_law_acts"]) (fun _ _ _ _ _ _ us hl => match us, hl with | [_, _, _, _, _], _ => rfl), g7⟩
  obtain ⟨d8, F8'⟩ := c.t.d.def_ 8 (d := mkD "_law_mixed" sMixed) rfl
  have g8 := He.glo_ok X G (c.t.d.fact 8 (f := .glo "_law_mixed") rfl)
  have F8 : Fun K "_law_mixed" "_law_mixed" sMixed (He.fAd K ("_law_mixed", none)) d8 := funOf F8'
  have D8 : Df K mg "_law_mixed" sMixed ["_law_pen_here", "_law_some"] _ d8 := ⟨F8, F8.binds (ps := ["_law_pen_here", "_law_some"]) (fun _ _ _ _ _ _ us hl => match us, hl with | [_, _], _ => rfl), g8⟩
  obtain ⟨d9, F9'⟩ := c.t.d.def_ 9 (d := mkD "_law_book" sBook) rfl
  have g9 := He.glo_ok X G (c.t.d.fact 9 (f := .glo "_law_book") rfl)
  have F9 : Fun K "_law_book" "_law_book" sBook (He.fAd K ("_law_book", none)) d9 := funOf F9'
  have D9 : Df K mg "_law_book" sBook ["_law_pen_here", "_law_most"] _ d9 := ⟨F9, F9.binds (ps := ["_law_pen_here", "_law_most"]) (fun _ _ _ _ _ _ us hl => match us, hl with | [_, _], _ => rfl), g9⟩
  obtain ⟨d10, F10'⟩ := c.t.d.def_ 10 (d := mkD "entries_rising" sRising) rfl
  have g10 := He.glo_ok X G (c.t.d.fact 10 (f := .glo "entries_rising") rfl)
  have F10 : Fun K "entries_rising" "entries_rising" sRising (He.fAd K ("entries_rising", none)) d10 := funOf F10'
  have D10 : Df K mg "entries_rising" sRising ["book"] _ d10 := ⟨F10, F10.binds (ps := ["book"]) (fun _ _ _ _ _ _ us hl => match us, hl with | [_], _ => rfl), g10⟩
  obtain ⟨d11, F11'⟩ := c.t.d.def_ 11 (d := mkD "deed_entries" sDeedE) rfl
  have g11 := He.glo_ok X G (c.t.d.fact 11 (f := .glo "deed_entries") rfl)
  have F11 : Fun K "deed_entries" "deed_entries" sDeedE (He.fAd K ("deed_entries", none)) d11 := funOf F11'
  have D11 : Df K mg "deed_entries" sDeedE ["book"] _ d11 := ⟨F11, F11.binds (ps := ["book"]) (fun _ _ _ _ _ _ us hl => match us, hl with | [_], _ => rfl), g11⟩
  obtain ⟨d12, F12'⟩ := c.t.d.def_ 12 (d := mkD "act_entries" sActE) rfl
  have g12 := He.glo_ok X G (c.t.d.fact 12 (f := .glo "act_entries") rfl)
  have F12 : Fun K "act_entries" "act_entries" sActE (He.fAd K ("act_entries", none)) d12 := funOf F12'
  have D12 : Df K mg "act_entries" sActE ["book"] _ d12 := ⟨F12, F12.binds (ps := ["book"]) (fun _ _ _ _ _ _ us hl => match us, hl with | [_], _ => rfl), g12⟩
  obtain ⟨d13, F13'⟩ := c.t.d.def_ 13 (d := mkD "deeds_of" sDeedsOf) rfl
  have g13 := He.glo_ok X G (c.t.d.fact 13 (f := .glo "deeds_of") rfl)
  have F13 : Fun K "deeds_of" "deeds_of" sDeedsOf (He.fAd K ("deeds_of", none)) d13 := funOf F13'
  have D13 : Df K mg "deeds_of" sDeedsOf ["book"] _ d13 := ⟨F13, F13.binds (ps := ["book"]) (fun _ _ _ _ _ _ us hl => match us, hl with | [_], _ => rfl), g13⟩
  obtain ⟨d14, F14'⟩ := c.t.d.def_ 14 (d := mkD "is_whole" sWhole) rfl
  have g14 := He.glo_ok X G (c.t.d.fact 14 (f := .glo "is_whole") rfl)
  have F14 : Fun K "is_whole" "is_whole" sWhole (He.fAd K ("is_whole", none)) d14 := funOf F14'
  have D14 : Df K mg "is_whole" sWhole ["thing"] _ d14 := ⟨F14, F14.binds (ps := ["thing"]) (fun _ _ _ _ _ _ us hl => match us, hl with | [_], _ => rfl), g14⟩
  obtain ⟨d15, F15'⟩ := c.t.d.def_ 15 (d := mkD "is_within" sWithin) rfl
  have g15 := He.glo_ok X G (c.t.d.fact 15 (f := .glo "is_within") rfl)
  have F15 : Fun K "is_within" "is_within" sWithin (He.fAd K ("is_within", none)) d15 := funOf F15'
  have D15 : Df K mg "is_within" sWithin ["thing", "low", "high"] _ d15 := ⟨F15, F15.binds (ps := ["thing", "low", "high"]) (fun _ _ _ _ _ _ us hl => match us, hl with | [_, _, _], _ => rfl), g15⟩
  obtain ⟨d16, F16'⟩ := c.t.d.def_ 16 (d := mkD "is_day" sIsDay) rfl
  have g16 := He.glo_ok X G (c.t.d.fact 16 (f := .glo "is_day") rfl)
  have F16 : Fun K "is_day" "is_day" sIsDay (He.fAd K ("is_day", none)) d16 := funOf F16'
  have D16 : Df K mg "is_day" sIsDay ["thing"] _ d16 := ⟨F16, F16.binds (ps := ["thing"]) (fun _ _ _ _ _ _ us hl => match us, hl with | [_], _ => rfl), g16⟩
  obtain ⟨d17, F17'⟩ := c.t.d.def_ 17 (d := mkD "check_day" sCheckDay) rfl
  have g17 := He.glo_ok X G (c.t.d.fact 17 (f := .glo "check_day") rfl)
  have F17 : Fun K "check_day" "check_day" sCheckDay (He.fAd K ("check_day", none)) d17 := funOf F17'
  have D17 : Df K mg "check_day" sCheckDay ["thing"] _ d17 := ⟨F17, F17.binds (ps := ["thing"]) (fun _ _ _ _ _ _ us hl => match us, hl with | [_], _ => rfl), g17⟩
  obtain ⟨d18, F18'⟩ := c.t.d.def_ 18 (d := mkD "check_deed" sCheckDeed) rfl
  have g18 := He.glo_ok X G (c.t.d.fact 18 (f := .glo "check_deed") rfl)
  have F18 : Fun K "check_deed" "check_deed" sCheckDeed (He.fAd K ("check_deed", none)) d18 := funOf F18'
  have D18 : Df K mg "check_deed" sCheckDeed ["book", "thing"] _ d18 := ⟨F18, F18.binds (ps := ["book", "thing"]) (fun _ _ _ _ _ _ us hl => match us, hl with | [_, _], _ => rfl), g18⟩
  obtain ⟨d19, F19'⟩ := c.t.d.def_ 19 (d := mkD "open_acts" sOpenA) rfl
  have g19 := He.glo_ok X G (c.t.d.fact 19 (f := .glo "open_acts") rfl)
  have F19 : Fun K "open_acts" "open_acts" sOpenA (He.fAd K ("open_acts", none)) d19 := funOf F19'
  have D19 : Df K mg "open_acts" sOpenA ["book", "d", "k"] _ d19 := ⟨F19, F19.binds (ps := ["book", "d", "k"]) (fun _ _ _ _ _ _ us hl => match us, hl with | [_, _, _], _ => rfl), g19⟩
  obtain ⟨d20, F20'⟩ := c.t.d.def_ 20 (d := mkD "acts_on" sActsOn) rfl
  have g20 := He.glo_ok X G (c.t.d.fact 20 (f := .glo "acts_on") rfl)
  have F20 : Fun K "acts_on" "acts_on" sActsOn (He.fAd K ("acts_on", none)) d20 := funOf F20'
  have D20 : Df K mg "acts_on" sActsOn ["acts", "word", "number"] _ d20 := ⟨F20, F20.binds (ps := ["acts", "word", "number"]) (fun _ _ _ _ _ _ us hl => match us, hl with | [_, _, _], _ => rfl), g20⟩
  obtain ⟨d21, F21'⟩ := c.t.d.def_ 21 (d := mkD "acts_in_force" sForced) rfl
  have g21 := He.glo_ok X G (c.t.d.fact 21 (f := .glo "acts_in_force") rfl)
  have F21 : Fun K "acts_in_force" "acts_in_force" sForced (He.fAd K ("acts_in_force", none)) d21 := funOf F21'
  have D21 : Df K mg "acts_in_force" sForced ["acts"] _ d21 := ⟨F21, F21.binds (ps := ["acts"]) (fun _ _ _ _ _ _ us hl => match us, hl with | [_], _ => rfl), g21⟩
  obtain ⟨d22, F22'⟩ := c.t.d.def_ 22 (d := mkD "word_of_deed" sWordOf) rfl
  have g22 := He.glo_ok X G (c.t.d.fact 22 (f := .glo "word_of_deed") rfl)
  have F22 : Fun K "word_of_deed" "word_of_deed" sWordOf (He.fAd K ("word_of_deed", none)) d22 := funOf F22'
  have D22 : Df K mg "word_of_deed" sWordOf ["deed", "forced", "words", "d", "k"] _ d22 := ⟨F22, F22.binds (ps := ["deed", "forced", "words", "d", "k"]) (fun _ _ _ _ _ _ us hl => match us, hl with | [_, _, _, _, _], _ => rfl), g22⟩
  obtain ⟨d23, F23'⟩ := c.t.d.def_ 23 (d := mkDd "all_standing" sAllSt [.int 9999]) rfl
  have g23 := He.glo_ok X G (c.t.d.fact 23 (f := .glo "all_standing") rfl)
  have F23 : FunD K "all_standing" "all_standing" (defArgs sAllSt) (defBody sAllSt) (defScope sAllSt) [V.int 9999] [] (He.fAd K ("all_standing", none)) d23 := F23'
  obtain ⟨ds23, hv23, b23⟩ := FunD.binds1 (ps := ["book", "d", "k"]) F23 3 1 (by decide) rfl (fun T kV doc pm an cdv ct us its h1 h2 => match us, its, h1, h2 with | [_, _, _], [_], _, _ => ⟨_, rfl, rfl⟩)
  cases hv23
  obtain ⟨d24, F24'⟩ := c.t.d.def_ 24 (d := mkD "days_at" sDaysAt) rfl
  have g24 := He.glo_ok X G (c.t.d.fact 24 (f := .glo "days_at") rfl)
  have F24 : Fun K "days_at" "days_at" sDaysAt (He.fAd K ("days_at", none)) d24 := funOf F24'
  have D24 : Df K mg "days_at" sDaysAt ["book", "place"] _ d24 := ⟨F24, F24.binds (ps := ["book", "place"]) (fun _ _ _ _ _ _ us hl => match us, hl with | [_, _], _ => rfl), g24⟩
  obtain ⟨d25, F25'⟩ := c.t.d.def_ 25 (d := mkD "turns_among" sTurnsA) rfl
  have g25 := He.glo_ok X G (c.t.d.fact 25 (f := .glo "turns_among") rfl)
  have F25 : Fun K "turns_among" "turns_among" sTurnsA (He.fAd K ("turns_among", none)) d25 := funOf F25'
  have D25 : Df K mg "turns_among" sTurnsA ["days", "words"] _ d25 := ⟨F25, F25.binds (ps := ["days", "words"]) (fun _ _ _ _ _ _ us hl => match us, hl with | [_, _], _ => rfl), g25⟩
  obtain ⟨d26, F26'⟩ := c.t.d.def_ 26 (d := mkDd "course_of" sCourse [.int 9999]) rfl
  have g26 := He.glo_ok X G (c.t.d.fact 26 (f := .glo "course_of") rfl)
  have F26 : FunD K "course_of" "course_of" (defArgs sCourse) (defBody sCourse) (defScope sCourse) [V.int 9999] [] (He.fAd K ("course_of", none)) d26 := F26'
  obtain ⟨ds26, hv26, b26⟩ := FunD.binds1 (ps := ["book", "deed", "k"]) F26 3 1 (by decide) rfl (fun T kV doc pm an cdv ct us its h1 h2 => match us, its, h1, h2 with | [_, _, _], [_], _, _ => ⟨_, rfl, rfl⟩)
  cases hv26
  obtain ⟨d27, F27'⟩ := c.t.d.def_ 27 (d := mkD "_law_open" sOpen) rfl
  have g27 := He.glo_ok X G (c.t.d.fact 27 (f := .glo "_law_open") rfl)
  have F27 : Fun K "_law_open" "_law_open" sOpen (He.fAd K ("_law_open", none)) d27 := funOf F27'
  have D27 : Df K mg "_law_open" sOpen ["_law_entry_here", "_law_d", "_law_k"] _ d27 := ⟨F27, F27.binds (ps := ["_law_entry_here", "_law_d", "_law_k"]) (fun _ _ _ _ _ _ us hl => match us, hl with | [_, _, _], _ => rfl), g27⟩
  obtain ⟨d28, F28'⟩ := c.t.d.def_ 28 (d := mkD "_law_of" sOf) rfl
  have g28 := He.glo_ok X G (c.t.d.fact 28 (f := .glo "_law_of") rfl)
  have F28 : Fun K "_law_of" "_law_of" sOf (He.fAd K ("_law_of", none)) d28 := funOf F28'
  have D28 : Df K mg "_law_of" sOf ["_law_entries_here", "_law_number", "_law_words_here"] _ d28 := ⟨F28, F28.binds (ps := ["_law_entries_here", "_law_number", "_law_words_here"]) (fun _ _ _ _ _ _ us hl => match us, hl with | [_, _, _], _ => rfl), g28⟩
  obtain ⟨d29, F29'⟩ := c.t.d.def_ 29 (d := mkD "_law_force" sForce) rfl
  have g29 := He.glo_ok X G (c.t.d.fact 29 (f := .glo "_law_force") rfl)
  have F29 : Fun K "_law_force" "_law_force" sForce (He.fAd K ("_law_force", none)) d29 := funOf F29'
  have D29 : Df K mg "_law_force" sForce ["_law_entries_here", "_law_act", "_law_d", "_law_k"] _ d29 := ⟨F29, F29.binds (ps := ["_law_entries_here", "_law_act", "_law_d", "_law_k"]) (fun _ _ _ _ _ _ us hl => match us, hl with | [_, _, _, _], _ => rfl), g29⟩
  obtain ⟨d30, F30'⟩ := c.t.d.def_ 30 (d := mkD "_law_any" sAny) rfl
  have g30 := He.glo_ok X G (c.t.d.fact 30 (f := .glo "_law_any") rfl)
  have F30 : Fun K "_law_any" "_law_any" sAny (He.fAd K ("_law_any", none)) d30 := funOf F30'
  have D30 : Df K mg "_law_any" sAny ["_law_entries_here", "_law_number", "_law_words_here", "_law_d", "_law_k"] _ d30 := ⟨F30, F30.binds (ps := ["_law_entries_here", "_law_number", "_law_words_here", "_law_d", "_law_k"]) (fun _ _ _ _ _ _ us hl => match us, hl with | [_, _, _, _, _], _ => rfl), g30⟩
  obtain ⟨d31, F31'⟩ := c.t.d.def_ 31 (d := mkD "_law_words" sWords) rfl
  have g31 := He.glo_ok X G (c.t.d.fact 31 (f := .glo "_law_words") rfl)
  have F31 : Fun K "_law_words" "_law_words" sWords (He.fAd K ("_law_words", none)) d31 := funOf F31'
  have D31 : Df K mg "_law_words" sWords ["_law_entries_here", "_law_d", "_law_k"] _ d31 := ⟨F31, F31.binds (ps := ["_law_entries_here", "_law_d", "_law_k"]) (fun _ _ _ _ _ _ us hl => match us, hl with | [_, _, _], _ => rfl), g31⟩
  obtain ⟨d32, F32'⟩ := c.t.d.def_ 32 (d := mkD "_law_entries" sEnts) rfl
  have g32 := He.glo_ok X G (c.t.d.fact 32 (f := .glo "_law_entries") rfl)
  have F32 : Fun K "_law_entries" "_law_entries" sEnts (He.fAd K ("_law_entries", none)) d32 := funOf F32'
  have D32 : Df K mg "_law_entries" sEnts ["_law_book_here"] _ d32 := ⟨F32, F32.binds (ps := ["_law_book_here"]) (fun _ _ _ _ _ _ us hl => match us, hl with | [_], _ => rfl), g32⟩
  obtain ⟨d33, F33'⟩ := c.t.d.def_ 33 (d := mkD "_law_days" sDays) rfl
  have g33 := He.glo_ok X G (c.t.d.fact 33 (f := .glo "_law_days") rfl)
  have F33 : Fun K "_law_days" "_law_days" sDays (He.fAd K ("_law_days", none)) d33 := funOf F33'
  have D33 : Df K mg "_law_days" sDays ["_law_pen_here", "_law_book_here"] _ d33 := ⟨F33, F33.binds (ps := ["_law_pen_here", "_law_book_here"]) (fun _ _ _ _ _ _ us hl => match us, hl with | [_, _], _ => rfl), g33⟩
  obtain ⟨d34, F34'⟩ := c.t.d.def_ 34 (d := mkD "_law_turns" sLTurns) rfl
  have g34 := He.glo_ok X G (c.t.d.fact 34 (f := .glo "_law_turns") rfl)
  have F34 : Fun K "_law_turns" "_law_turns" sLTurns (He.fAd K ("_law_turns", none)) d34 := funOf F34'
  have D34 : Df K mg "_law_turns" sLTurns ["_law_rows"] _ d34 := ⟨F34, F34.binds (ps := ["_law_rows"]) (fun _ _ _ _ _ _ us hl => match us, hl with | [_], _ => rfl), g34⟩
  obtain ⟨d35, F35'⟩ := c.t.d.def_ 35 (d := mkD "_law_marks" sMarks) rfl
  have g35 := He.glo_ok X G (c.t.d.fact 35 (f := .glo "_law_marks") rfl)
  have F35 : Fun K "_law_marks" "_law_marks" sMarks (He.fAd K ("_law_marks", none)) d35 := funOf F35'
  have D35 : Df K mg "_law_marks" sMarks ["_law_book_here", "_law_at"] _ d35 := ⟨F35, F35.binds (ps := ["_law_book_here", "_law_at"]) (fun _ _ _ _ _ _ us hl => match us, hl with | [_, _], _ => rfl), g35⟩
  obtain ⟨d36, F36'⟩ := c.t.d.def_ 36 (d := mkDd "why_of" sWhyOf [.int 9999]) rfl
  have g36 := He.glo_ok X G (c.t.d.fact 36 (f := .glo "why_of") rfl)
  have F36 : FunD K "why_of" "why_of" (defArgs sWhyOf) (defBody sWhyOf) (defScope sWhyOf) [V.int 9999] [] (He.fAd K ("why_of", none)) d36 := F36'
  obtain ⟨ds36, hv36, b36⟩ := FunD.binds1 (ps := ["book", "deed", "d", "k"]) F36 4 1 (by decide) rfl (fun T kV doc pm an cdv ct us its h1 h2 => match us, its, h1, h2 with | [_, _, _, _], [_], _, _ => ⟨_, rfl, rfl⟩)
  cases hv36
  obtain ⟨d37, F37'⟩ := c.t.d.def_ 37 (d := mkD "paper_over" sPapOver) rfl
  have g37 := He.glo_ok X G (c.t.d.fact 37 (f := .glo "paper_over") rfl)
  have F37 : Fun K "paper_over" "paper_over" sPapOver (He.fAd K ("paper_over", none)) d37 := funOf F37'
  have D37 : Df K mg "paper_over" sPapOver ["number", "undones"] _ d37 := ⟨F37, F37.binds (ps := ["number", "undones"]) (fun _ _ _ _ _ _ us hl => match us, hl with | [_, _], _ => rfl), g37⟩
  obtain ⟨d38, F38'⟩ := c.t.d.def_ 38 (d := mkD "papers_of" sPapersOf) rfl
  have g38 := He.glo_ok X G (c.t.d.fact 38 (f := .glo "papers_of") rfl)
  have F38 : Fun K "papers_of" "papers_of" sPapersOf (He.fAd K ("papers_of", none)) d38 := funOf F38'
  have D38 : Df K mg "papers_of" sPapersOf ["acts"] _ d38 := ⟨F38, F38.binds (ps := ["acts"]) (fun _ _ _ _ _ _ us hl => match us, hl with | [_], _ => rfl), g38⟩
  obtain ⟨d39, F39'⟩ := c.t.d.def_ 39 (d := mkD "first_yes" sFirstYes) rfl
  have g39 := He.glo_ok X G (c.t.d.fact 39 (f := .glo "first_yes") rfl)
  have F39 : Fun K "first_yes" "first_yes" sFirstYes (He.fAd K ("first_yes", none)) d39 := funOf F39'
  have D39 : Df K mg "first_yes" sFirstYes ["papers", "numbers"] _ d39 := ⟨F39, F39.binds (ps := ["papers", "numbers"]) (fun _ _ _ _ _ _ us hl => match us, hl with | [_, _], _ => rfl), g39⟩
  obtain ⟨d40, F40'⟩ := c.t.d.def_ 40 (d := mkD "why_over" sWhyOver) rfl
  have g40 := He.glo_ok X G (c.t.d.fact 40 (f := .glo "why_over") rfl)
  have F40 : Fun K "why_over" "why_over" sWhyOver (He.fAd K ("why_over", none)) d40 := funOf F40'
  have D40 : Df K mg "why_over" sWhyOver ["deed", "word", "acts", "papers", "whys"] _ d40 := ⟨F40, F40.binds (ps := ["deed", "word", "acts", "papers", "whys"]) (fun _ _ _ _ _ _ us hl => match us, hl with | [_, _, _, _, _], _ => rfl), g40⟩
  obtain ⟨d41, F41'⟩ := c.t.d.def_ 41 (d := mkD "_law_open_of" sLOpenOf) rfl
  have g41 := He.glo_ok X G (c.t.d.fact 41 (f := .glo "_law_open_of") rfl)
  have F41 : Fun K "_law_open_of" "_law_open_of" sLOpenOf (He.fAd K ("_law_open_of", none)) d41 := funOf F41'
  have D41 : Df K mg "_law_open_of" sLOpenOf ["_law_entries_here", "_law_number", "_law_words_here", "_law_d", "_law_k"] _ d41 := ⟨F41, F41.binds (ps := ["_law_entries_here", "_law_number", "_law_words_here", "_law_d", "_law_k"]) (fun _ _ _ _ _ _ us hl => match us, hl with | [_, _, _, _, _], _ => rfl), g41⟩
  obtain ⟨d42, F42'⟩ := c.t.d.def_ 42 (d := mkD "_law_forced" sLForced) rfl
  have g42 := He.glo_ok X G (c.t.d.fact 42 (f := .glo "_law_forced") rfl)
  have F42 : Fun K "_law_forced" "_law_forced" sLForced (He.fAd K ("_law_forced", none)) d42 := funOf F42'
  have D42 : Df K mg "_law_forced" sLForced ["_law_entries_here", "_law_number", "_law_words_here", "_law_d", "_law_k"] _ d42 := ⟨F42, F42.binds (ps := ["_law_entries_here", "_law_number", "_law_words_here", "_law_d", "_law_k"]) (fun _ _ _ _ _ _ us hl => match us, hl with | [_, _, _, _, _], _ => rfl), g42⟩
  obtain ⟨d43, F43'⟩ := c.t.d.def_ 43 (d := mkD "_law_yes" sLYes) rfl
  have g43 := He.glo_ok X G (c.t.d.fact 43 (f := .glo "_law_yes") rfl)
  have F43 : Fun K "_law_yes" "_law_yes" sLYes (He.fAd K ("_law_yes", none)) d43 := funOf F43'
  have D43 : Df K mg "_law_yes" sLYes ["_law_entries_here", "_law_act", "_law_d", "_law_k"] _ d43 := ⟨F43, F43.binds (ps := ["_law_entries_here", "_law_act", "_law_d", "_law_k"]) (fun _ _ _ _ _ _ us hl => match us, hl with | [_, _, _, _], _ => rfl), g43⟩
  obtain ⟨d44, F44'⟩ := c.t.d.def_ 44 (d := mkD "_law_no" sLNo) rfl
  have g44 := He.glo_ok X G (c.t.d.fact 44 (f := .glo "_law_no") rfl)
  have F44 : Fun K "_law_no" "_law_no" sLNo (He.fAd K ("_law_no", none)) d44 := funOf F44'
  have D44 : Df K mg "_law_no" sLNo ["_law_entries_here", "_law_act", "_law_d", "_law_k"] _ d44 := ⟨F44, F44.binds (ps := ["_law_entries_here", "_law_act", "_law_d", "_law_k"]) (fun _ _ _ _ _ _ us hl => match us, hl with | [_, _, _, _], _ => rfl), g44⟩
  obtain ⟨d45, F45'⟩ := c.t.d.def_ 45 (d := mkD "_law_why" sLWhy) rfl
  have g45 := He.glo_ok X G (c.t.d.fact 45 (f := .glo "_law_why") rfl)
  have F45 : Fun K "_law_why" "_law_why" sLWhy (He.fAd K ("_law_why", none)) d45 := funOf F45'
  have D45 : Df K mg "_law_why" sLWhy ["_law_entries_here", "_law_words_here", "_law_deed_here", "_law_d", "_law_k"] _ d45 := ⟨F45, F45.binds (ps := ["_law_entries_here", "_law_words_here", "_law_deed_here", "_law_d", "_law_k"]) (fun _ _ _ _ _ _ us hl => match us, hl with | [_, _, _, _, _], _ => rfl), g45⟩
  obtain ⟨d46, F46'⟩ := c.t.d.def_ 46 (d := mkD "_law_other" sLOther) rfl
  have g46 := He.glo_ok X G (c.t.d.fact 46 (f := .glo "_law_other") rfl)
  have F46 : Fun K "_law_other" "_law_other" sLOther (He.fAd K ("_law_other", none)) d46 := funOf F46'
  have D46 : Df K mg "_law_other" sLOther ["_law_pen_here", "_law_book_here"] _ d46 := ⟨F46, F46.binds (ps := ["_law_pen_here", "_law_book_here"]) (fun _ _ _ _ _ _ us hl => match us, hl with | [_, _], _ => rfl), g46⟩
  obtain ⟨d47, F47'⟩ := c.t.d.def_ 47 (d := mkD "_law_right" sLRight) rfl
  have g47 := He.glo_ok X G (c.t.d.fact 47 (f := .glo "_law_right") rfl)
  have F47 : Fun K "_law_right" "_law_right" sLRight (He.fAd K ("_law_right", none)) d47 := funOf F47'
  have D47 : Df K mg "_law_right" sLRight ["_law_book_here", "_law_d", "_law_known"] _ d47 := ⟨F47, F47.binds (ps := ["_law_book_here", "_law_d", "_law_known"]) (fun _ _ _ _ _ _ us hl => match us, hl with | [_, _, _], _ => rfl), g47⟩
  obtain ⟨d48, F48'⟩ := c.t.d.def_ 48 (d := mkD "law" sLaw) rfl
  have g48 := He.glo_ok X G (c.t.d.fact 48 (f := .glo "law") rfl)
  have F48 : Fun K "law" "law" sLaw (He.fAd K ("law", none)) d48 := funOf F48'
  have m_range := He.free_ok X G (c.t.d.fact 49 (f := .free "range") rfl)
  have m_min := He.free_ok X G (c.t.d.fact 50 (f := .free "min") rfl)
  have m_max := He.free_ok X G (c.t.d.fact 51 (f := .free "max") rfl)
  have m_tuple := He.free_ok X G (c.t.d.fact 52 (f := .free "tuple") rfl)
  have m_list := He.free_ok X G (c.t.d.fact 53 (f := .free "list") rfl)
  have m_len := He.free_ok X G (c.t.d.fact 54 (f := .free "len") rfl)
  have m_sorted := He.free_ok X G (c.t.d.fact 55 (f := .free "sorted") rfl)
  have m_int := He.free_ok X G (c.t.d.fact 56 (f := .free "int") rfl)
  have m_isinstance := He.free_ok X G (c.t.d.fact 57 (f := .free "isinstance") rfl)
  have m_bool := He.free_ok X G (c.t.d.fact 58 (f := .free "bool") rfl)
  have m_any := He.free_ok X G (c.t.d.fact 59 (f := .free "any") rfl)
  have m_all := He.free_ok X G (c.t.d.fact 60 (f := .free "all") rfl)
  have m_zip := He.free_ok X G (c.t.d.fact 61 (f := .free "zip") rfl)
  have m_dict := He.free_ok X G (c.t.d.fact 62 (f := .free "dict") rfl)
  have m_set := He.free_ok X G (c.t.d.fact 63 (f := .free "set") rfl)
  have m_repr := He.free_ok X G (c.t.d.fact 64 (f := .free "repr") rfl)
  have i_NUMBER : MgInt mg "NUMBER" 0 := He.int_ok X G (c.t.d.fact 65 (f := .int "NUMBER" 0) rfl)
  have i_WORD : MgInt mg "WORD" 4 := He.int_ok X G (c.t.d.fact 66 (f := .int "WORD" 4) rfl)
  have i_DAY : MgInt mg "DAY" 1 := He.int_ok X G (c.t.d.fact 67 (f := .int "DAY" 1) rfl)
  have i_WRITTEN : MgInt mg "WRITTEN" 2 := He.int_ok X G (c.t.d.fact 68 (f := .int "WRITTEN" 2) rfl)
  have i_OF : MgInt mg "OF" 5 := He.int_ok X G (c.t.d.fact 69 (f := .int "OF" 5) rfl)
  have i_RESTS : MgInt mg "RESTS" 7 := He.int_ok X G (c.t.d.fact 70 (f := .int "RESTS" 7) rfl)
  have i_LAST_DAY : MgInt mg "LAST_DAY" 9999 := He.int_ok X G (c.t.d.fact 71 (f := .int "LAST_DAY" 9999) rfl)
  have e := hfa.symm.trans g48
  cases e
  have b := FunD.bindsA (ps := ["_law_script"]) F48' fun _ _ _ _ _ _ us hl => match us, hl with | [_], _ => rfl
  have B : Bi mg := ⟨m_range, m_min, m_max, m_tuple, m_list, m_len, m_sorted, m_int⟩
  have t0 : (("entries_rising", none) : He.Defn) ∈ tfAll := List.mem_cons_self
  have t1 : (("_law_other", none) : He.Defn) ∈ tfAll := List.mem_cons_of_mem _ List.mem_cons_self
  have gCar := He.glo_ok X G (c.t.d.fact 72 (f := .glo "CARRYING") rfl)
  obtain ⟨hcar, hne⟩ := He.ba (show (He.tupB K "CARRYING" [.str "stands", .str "paid"] && decide ((He.cT K ("entries_rising", none)).2 ≠ (He.cT K ("_law_other", none)).2)) = true from c.more)
  have h01 := of_decide_eq_true hne
  have cCar : CarryAt K mg := ⟨_, gCar, fun H => He.tupB_ok hcar H⟩
  have mT : ∀ {p : Addr × Str}, p ∈ ([((He.cT K ("entries_rising", none)).2, qRis), ((He.cT K ("_law_other", none)).2, qOth)] : List (Addr × Str)) ↔ (p = ((He.cT K ("entries_rising", none)).2, qRis) ∨ p = ((He.cT K ("_law_other", none)).2, qOth)) := by
    intro p
    simp only [List.mem_cons, List.not_mem_nil, or_false]
  refine ⟨d48, _, tfAll.map (He.cT K), fun p hp => ?_, fun p hp => ?_, fun p hp => ?_, fun s v => b s [v] rfl, F48, codeAt F48, scLaw, fun a ns hl base hK hG hTB s H hH hS => ?_⟩
  · obtain ⟨q, hq, rfl⟩ := List.mem_map.mp hp
    exact c.empty q hq
  · obtain ⟨q, hq, rfl⟩ := List.mem_map.mp hp
    exact c.out q hq
  · obtain ⟨q, hq, rfl⟩ := List.mem_map.mp hp
    exact PySem.W.codeHd_of_K X (c.hd q hq)
  · have tb0 := hTB _ (List.mem_map.mpr ⟨_, t0, rfl⟩)
    have tb1 := hTB _ (List.mem_map.mpr ⟨_, t1, rfl⟩)
    have hTabs : Tabs [((He.cT K ("entries_rising", none)).2, qRis), ((He.cT K ("_law_other", none)).2, qOth)] H := fun p hp => by
      rcases mT.mp hp with rfl | rfl
      · exact TabS.nil (hH _ (List.mem_map.mpr ⟨_, t0, rfl⟩))
      · exact TabS.nil (hH _ (List.mem_map.mpr ⟨_, t1, rfl⟩))
    have u0 : ∀ p ∈ ([((He.cT K ("entries_rising", none)).2, qRis), ((He.cT K ("_law_other", none)).2, qOth)] : List (Addr × Str)), p.1 = (He.cT K ("entries_rising", none)).2 → p.2 = qRis := fun p hp e => by
      rcases mT.mp hp with rfl | rfl
      · rfl
      · exact absurd e.symm h01
    have u1 : ∀ p ∈ ([((He.cT K ("entries_rising", none)).2, qRis), ((He.cT K ("_law_other", none)).2, qOth)] : List (Addr × Str)), p.1 = (He.cT K ("_law_other", none)).2 → p.2 = qOth := fun p hp e => by
      rcases mT.mp hp with rfl | rfl
      · exact absurd e h01
      · rfl
    have R : RisD K mg base [((He.cT K ("entries_rising", none)).2, qRis), ((He.cT K ("_law_other", none)).2, qOth)] _ d10 := ⟨D10, ⟨_, _, codeAt F10, tb0, mT.mpr (.inl rfl), u0⟩, m_sorted, i_NUMBER⟩
    have GAE : ∀ k, FnOk l.prog w K mg base CX0 (k + 3) _ d12 ["book"] (spPick (fun e => !e.isDeed) _) := fun k => ok_actE (k := k) D12.F R i_WORD
    have GDE : ∀ k, FnOk l.prog w K mg base CX0 (k + 3) _ d11 ["book"] (spPick (·.isDeed) _) := fun k => ok_deedE (k := k) D11.F R i_WORD
    have GDO : FnOk l.prog w K mg base CX0 33 _ d13 ["book"] (spNums (·.isDeed) _) := ok_DeedsOf (k := 29) D13.F D11 (GDE 29) i_NUMBER
    have GCK : FnOk l.prog w K mg base CX0 34 _ d18 ["book", "thing"] (spCkDeed _) := ok_ckDeed (k := 32) D18.F D14 m_isinstance m_int m_bool D13 GDO
    have GCD : ∀ k, FnOk l.prog w K mg base CX0 (k + 4) _ d17 ["thing"] spCkDay := fun k => ok_ckDay (k := k) D17.F D16 D15 D14 m_isinstance m_int m_bool i_LAST_DAY
    have GOA : ∀ k, FnOk l.prog w K mg base CX0 (k + 4) _ d19 ["book", "d", "k"] (spOpenA _) := fun k => ok_openA (k := k) D19.F D12 (GAE k) i_WRITTEN i_DAY
    have GFO : ∀ k, FnOk l.prog w K mg base CX0 (k + 2) _ d21 ["acts"] spForced := fun k => ok_forced (k := k) D21.F D20 i_WORD i_OF i_NUMBER
    have GWO : ∀ k, FnOk l.prog w K mg base CX0 (k + 2) _ d22 ["deed", "forced", "words", "d", "k"] spWordOf := fun k => ok_wordOf (k := k) D22.F D20 i_WORD i_OF i_NUMBER i_WRITTEN i_DAY i_RESTS m_any cCar
    have GAL : ∀ k, FnOk l.prog w K mg base CX0 (k + 5) _ d23 ["book", "d", "k"] (spAllSt _) := fun k => ok_allSt (k := k + 4) F23 i_NUMBER D17 (GCD k) D19 (GOA k) D21 (GFO (k + 2)) D11 (GDE (k + 1)) D22 (GWO (k + 2))
    have GFC : FnOk l.prog w K mg base CX0 32 _ d29 pForce (spForce 31) := ok_force D29 D27 D28 m_sorted 31
    have GAN : FnOk l.prog w K mg base CX0 33 _ d30 pAny spAny := ok_any (k := 31) D30.F D28 m_sorted D29 GFC
    have GWD : FnOk l.prog w K mg base CX0 34 _ d31 pWords spWords := ok_words (k := 32) D31.F D30 GAN m_sorted m_int
    let CAL : CallOk l.prog w K mg base 34 "all_standing" _ _ := ⟨_, _, g23, F23.kp, b23, GAL 29⟩
    let COA := D19.call (GOA 30)
    let CDE := D11.call (GDE 31)
    let CCK := D18.call GCK
    let CCD := D17.call (GCD 30)
    let CON := D20.call (ok_actsOn (P := l.prog) (w := w) (base := base) (k := 1) D20.F i_WORD i_OF i_NUMBER)
    let CPO := D37.call (ok_papOver (P := l.prog) (w := w) (base := base) (k := 1) D37.F m_tuple)
    let CPS := D38.call (ok_papersOf D38.F CON CPO i_NUMBER)
    let CFY := D39.call (ok_firstYes (P := l.prog) (w := w) (base := base) (k := 1) D39.F)
    let CWV := D40.call (ok_whyOver D40.F CON CFY m_tuple m_sorted i_NUMBER i_RESTS cCar)
    let CWO : CallOk l.prog w K mg base 35 "why_of" _ _ := ⟨_, _, g36, F36.kp, b36, ok_whyOf (k := 34) F36 CCK CAL COA (CPS.mono (by decide)) CDE (CWV.mono (by decide)) i_NUMBER⟩
    let COf := D28.call (ok_of (P := l.prog) (w := w) (base := base) (k := 31) D28.F m_sorted)
    let COp := D27.call (ok_open (P := l.prog) (w := w) (base := base) (k := 31) D27.F)
    let CFc := D29.call GFC
    let COO := D41.call (ok_LOpenOf D41.F COf COp)
    let CFd := D42.call (ok_LForced D42.F COf CFc)
    have GLI := lis_all D43 D44 COO CFd m_tuple 31
    let CLY := D43.call GLI.1
    let CLN := D44.call GLI.2
    have GLW := lwhy_all (c := 65) D45 (CFd.mono (by decide)) (COO.mono (by decide)) CLY CLN m_int m_tuple 31
    have GDA : FnOk l.prog w K mg base CX0 34 _ d24 pDaysAt spDaysAt := ok_daysAt (k := 33) D24.F m_sorted m_set
    have GTA : FnOk l.prog w K mg base CX0 34 _ d25 pTurnsA spTurnsA := ok_turnsA (k := 33) D25.F m_zip
    let CCO : CallOk l.prog w K mg base 35 "course_of" pCourse (spCourse true _) := ⟨_, _, g26, F26.kp, b26, ok_course (k := 34) F26 i_DAY D18 GCK D17 (GCD 30) D24 GDA D25 GTA g23 F23.kp b23 (GAL 29)⟩
    let CLD := D2.call (ok_draw (P := l.prog) (w := w) (base := base) (k := 129) D2.F)
    let CLDy := D3.call (ok_day (P := l.prog) (w := w) (base := base) (k := 128) D3.F D2)
    let CLB := D9.call (ok_book (P := l.prog) (w := w) (base := base) (k := 125) D9.F D2 D5 D3 D6 D7 D4 D8 B)
    let COt : CallOk l.prog w K mg base 131 "_law_other" pLOther _ := D46.call (ok_LOther28 (k := 129) D46.F (codeAt F46) tb1 (mT.mpr (.inr rfl)) u1 CLD CLDy CLB m_len m_max m_tuple)
    let CRi : CallOk l.prog w K mg base 132 "_law_right" pLRight _ := D47.call (ok_LRight28 (k := 131) D47.F (D32.call (ok_ents D32.F m_dict)) (D31.call (GWD.mono (by decide))) (CAL.mono (by decide)) (CWO.mono (by decide)) ((D45.call GLW).mono (by decide)) (D35.call (ok_marks D35.F B m_set)) (CCO.mono (by decide)) (D34.call (ok_lTurns D34.F)))
    exact law_body (k := 132) ⟨rfl, by decide, by decide⟩ hS hTabs (D0.call (ok_cell D0.F m_len)) (D1.call (ok_pen D1.F m_int)) (CLB.mono (by decide)) (COt.mono (by decide)) (D33.call (ok_days (k := 130) D33.F D2 B)) (CLD.mono (by decide)) CRi m_range m_int m_repr
end Deed
open PySem PySem.W PySem.Calls PyProof.Rows
theorem PySem.Challenge.cw_deedsheaf_k28_books_asked_by_turns_holds : PySem.Challenge.rw_deedsheaf_k28_books_asked_by_turns.Holds := by
  w_on; o_law
  refine HandSHeadRun.head_any (r := OpenLaw.row PySem.Challenge.rw_deedsheaf_k28_books_asked_by_turns) (q := view (OpenLaw.row PySem.Challenge.rw_deedsheaf_k28_books_asked_by_turns).prog [66]) (H := Deed.hk) (ob := Deed.ob) (M := 12000) (loose := Deed.looseAll) (d := HandSHeadRun.topDef (OpenLaw.row PySem.Challenge.rw_deedsheaf_k28_books_asked_by_turns).prog 66) (kwd := []) Deed.ob_eq
    (by kernel_rfl) (fun s => by kernel_rfl) Deed.run (by kernel_rfl) (by kernel_rfl) (by kernel_rfl) (by rfl) (by first | assumption | decide +kernel) (by decide +kernel) ⟨rfl, rfl, rfl, rfl, rfl, by decide +kernel⟩ ?hw ?hc
  case hw => w_witness2
  case hc =>
    refine LamX.walk_G (l := PySem.Challenge.rw_deedsheaf_k28_books_asked_by_turns) (n := 63) (k := 132) (x := "_law_script") (nm := "law") (qual := "law") (st := Deed.sLaw) (N := Deed.nLaw) rfl (by decide) (by kernel_rfl) ⟨rfl, by decide, by decide⟩ ?F
    intro w mg fa h Y G hmg0
    obtain ⟨K, KX, c⟩ := Y
    have hmg : mg ("law" : PySem.Str) = some (.ref fa) := by
      have e : (HandSHeadRun.topDef (OpenLaw.row PySem.Challenge.rw_deedsheaf_k28_books_asked_by_turns).prog 66).name = ("law" : PySem.Str) := by kernel_rfl
      rw [← e]
      exact hmg0
    exact ⟨K, KX, Deed.facts KX G hmg c⟩
