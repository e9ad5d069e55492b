import PyProof.Rows.All
import Wide.All
import OpenK.AllK
import Wide.FinOn
import KE.SortKeyHeap
import KE.KLam
import HandS.ForMost
import HandS.Flow
import HandS.Style
import HandS.SortInts
import HandS.SortKw
import HandS.TupAny
import HandS.Lambda
import HandS.EndTab
import HandS.Head2
import HandS.HeadEnd
import HandS.HeadHook4
import HandS.HeadWalk
import HandS.Walk
import HandS.IsInst
import HandS.Defaults
import HandS.More
import HandS.DictComp
import HandS.ListItems
import HandS.SetFor
import HandS.Strs
import HandS.Zip
import HandS.TupSets
import KE.SortData
import HandS.Conv
import HandS.WordsDict
import PySem.Challenge.RW_deedsheaf_k08_rows_of_deeds_that_fall
set_option Elab.async false
set_option linter.all false
set_option maxRecDepth 100000
set_option maxHeartbeats 0

namespace Deed
open PySem PySem.Spec PyProof.Rows L2
def topS (i : Nat) : Stmt := PySem.Challenge.pw_deedsheaf_k08_rows_of_deeds_that_fall.main.body.getD i (.Pass ⟨0, 0, 0, 0⟩)
/-! ### heaps: all but the pen at p is as it was -/
def Kp (p : Addr) (H H' : Hp) : Prop := ∀ b o, b ≠ p → H b = some o → H' b = some o
theorem Kp.refl (p : Addr) (H : Hp) : Kp p H H := fun _ _ _ h => h
theorem Kp.trans {p : Addr} {H H1 H2 : Hp} (a : Kp p H H1) (b : Kp p H1 H2) : Kp p H H2 := fun c o n h => b c o n (a c o n h)
theorem Kp.new {p q : Addr} {H : Hp} (n : H q = none) (o : HO) : Kp p H (upd H q o) := fun b u _ e => by
  rw [upd_ne (ne_of_none e n)]
  exact e
theorem Kp.put {p : Addr} {H : Hp} (o : HO) : Kp p H (upd H p o) := fun b u n e => by
  rw [upd_ne n]
  exact e
theorem Kp.same {p : Addr} {H H' : Hp} (h : Same H H') : Kp p H H' := fun b o _ e => h b o e
/-- the pen: four whole numbers, the last one a rest -/
def PenAt (H : Hp) (p : Addr) : Prop := ∃ a f c e : Int, H p = some (.lst [.int a, .int f, .int c, .int e]) ∧ 0 ≤ e ∧ e < 1000000007
theorem PenAt.new {p q : Addr} {H : Hp} (h : PenAt H p) (n : H q = none) (o : HO) : PenAt (upd H q o) p := by
  obtain ⟨a, f, c, e, h1, h2⟩ := h
  refine ⟨a, f, c, e, ?_, h2⟩
  rw [upd_ne (ne_of_none h1 n)]
  exact h1
theorem PenAt.ne {p q : Addr} {H : Hp} {o : HO} (h : PenAt H p) (e : H q = some o) (no : ∀ xs, o ≠ .lst xs) : q ≠ p := fun z => by
  obtain ⟨a, f, c, e', h1, _⟩ := h
  rw [z, h1] at e
  exact no _ (Option.some.inj e).symm
theorem PenAt.free {p q : Addr} {H : Hp} (h : PenAt H p) (n : H q = none) : q ≠ p := fun z => by
  obtain ⟨a, f, c, e', h1, _⟩ := h
  rw [z, h1] at n
  cases n
section
variable {P : Program} {w : World} {K : PySem.W.Frag} {mg : Str → Option Value} {base : Heap}
/-! ### the script's cell -/
abbrev sCell : Stmt := topS 27
theorem scCell : FnScope ["_law_script", "_law_k"] ["_law_script", "_law_k"] (defScope sCell) := ⟨rfl, rfl, rfl, by decide +kernel, rfl, by decide +kernel, by decide +kernel⟩
def spCell (K : PySem.W.Frag) : Sp := fun vs H Q _ => ∃ (a : Addr) (ns : List Int) (k : Int), vs = [.ref a, .int k] ∧ SqL K H a (ns.map V.int) ∧ 0 ≤ k ∧ ∀ v : Int, Q (.int v) H
theorem ok_cell {f : Addr} {fd : FuncData} {k : Nat} (F : Fun K "_law_cell_at" "_law_cell_at" sCell f fd) (ml : mg "len" = none) : FnOk P w K mg base CX0 (k + 1) f fd ["_law_script", "_law_k"] (spCell K) := by
  refine F.ok scCell (fun vs H Q E h => ?_) (fun cdv A outer s H vs Q E hr h => ?_)
  · obtain ⟨a, ns, k, rfl, _⟩ := h
    rfl
  · obtain ⟨a, ns, k, rfl, hS, h0, q⟩ := h
    refine ⟨_, pss_cons (ps_if (pt_cmpR op_lt (pv 1) (pe_callB call_len_seq (by rfl) ml PySem.boot_len (pa_cons (pv 0) pa_nil)) (nomark _)) (pss_one (ps_ret (pe_ix ix_list (pv 0) (pv 1) (fun _ _ => rfl)))) pss_nil)
      (pss_one (ps_ret pe_int)), ?_⟩
    have hl : (ns.map V.int).length = ns.length := List.length_map _
    refine ⟨_, rfl, _, rfl, a, _, rfl, .inl hS, _, _, rfl, rfl, _, rfl, ?_⟩
    refine ite2 (fun c => ?_) (fun c => ?_)
    · have c' : k < (((ns.map V.int).length : Nat) : Int) := of_decide_eq_true c
      rw [hl] at c'
      have hk : k.toNat < ns.length := by omega
      have ek : k = ((k.toNat : Nat) : Int) := by omega
      refine ⟨_, rfl, _, rfl, a, _, _, .int ns[k.toNat], rfl, rfl, hS, ?_, q _⟩
      exact at_of ek (by rw [List.getElem?_map, List.getElem?_eq_getElem hk] <;> rfl)
    · exact q 0
/-! ### the pen -/
abbrev sPen : Stmt := topS 28
theorem scPen : FnScope ["_law_cell"] ["_law_cell"] (defScope sPen) := ⟨rfl, rfl, rfl, by decide +kernel, rfl, by decide +kernel, by decide +kernel⟩
def spPen : Sp := fun vs H Q _ => ∃ (c : Int), vs = [.int c] ∧ ∀ p H', Same H H' → H p = none → PenAt H' p → Q (.ref p) H'
theorem ok_pen {f : Addr} {fd : FuncData} {k : Nat} (F : Fun K "_law_pen" "_law_pen" sPen f fd) (mi : mg "int" = none) : FnOk P w K mg base CX0 (k + 1) f fd ["_law_cell"] spPen := by
  refine F.ok scPen (fun vs H Q E h => ?_) (fun cdv A outer s H vs Q E hr h => ?_)
  · obtain ⟨c, rfl, _⟩ := h
    rfl
  · obtain ⟨c, rfl, q⟩ := h
    refine ⟨_, pss_one (ps_ret (pe_lst (pa_cons (pv 0) (pa_cons (pe_callTy call_int1 (by rfl) mi (by decide +kernel) (pa_cons (pe_cmpR op_ge (pv 0) (pe_op op_pow pe_int pe_int) (nomark _)) pa_nil)) (pa_cons pe_int (pa_cons (pe_op op_mod (pv 0) pe_int) pa_nil)))))), ?_⟩
    refine ⟨_, rfl, _, rfl, _, _, rfl, rfl, ⟨by decide, by decide, by decide⟩, _, _, rfl, rfl, .inr ⟨_, rfl, ?_⟩⟩
    refine ⟨_, rfl, _, _, rfl, rfl, (by show (0 : Int) < 1000000007; decide), (by show 4 ≤ sizeLine; decide), fun p hp => ?_⟩
    refine q p _ (fun b o e => ?_) hp ⟨_, _, _, _, upd_same, Int.emod_nonneg _ (by decide), Int.emod_lt_of_pos _ (by decide)⟩
    rw [upd_ne (ne_of_none e hp)]
    exact e
/-! ### a draw -/
abbrev sDraw : Stmt := topS 29
theorem scDraw : FnScope ["_law_pen_here", "_law_bound", "_law_found", "_law_stir"] ["_law_pen_here", "_law_bound"] (defScope sDraw) := ⟨rfl, rfl, rfl, by decide +kernel, rfl, by decide +kernel, by decide +kernel⟩
def spDraw : Sp := fun vs H Q _ => ∃ (p : Addr) (b : Int), vs = [.ref p, .int b] ∧ PenAt H p ∧ 0 < b ∧ b < 1073741824 ∧ ∀ v H', Kp p H H' → PenAt H' p → 0 ≤ v → v < b → Q (.int v) H'
theorem ok_draw {f : Addr} {fd : FuncData} {k : Nat} (F : Fun K "_law_draw" "_law_draw" sDraw f fd) : FnOk P w K mg base CX0 (k + 1) f fd ["_law_pen_here", "_law_bound"] spDraw := by
  refine F.ok scDraw (fun vs H Q E h => ?_) (fun cdv A outer s H vs Q E hr h => ?_)
  · obtain ⟨p, b, rfl, _⟩ := h
    rfl
  · obtain ⟨p, b, rfl, ⟨x, y, c, e, hp, he0, he1⟩, hb0, hb1, q⟩ := h
    refine ⟨_, pss_cons (ps_if (PW.pt (pw_and (pt_cmpR op_eq (pe_ix ix_list (pv 0) pe_int (fun _ _ => rfl)) pe_int (nomark _)) (pw_and1 (pt_cmpR op_gt (pe_ix ix_list (pv 0) pe_int (fun _ _ => rfl)) pe_int (nomark _)))))
        (pss_cons (ps_set (i := 2) scDraw.nd rfl (.inl rfl) (pe_op op_mod (pe_ix ix_list (pv 0) pe_int (fun _ _ => rfl)) (pv 1)))
        (pss_cons (ps_asg (pe_op op_fdiv (pe_ix ix_list (pv 0) pe_int (fun _ _ => rfl)) (pv 1)) (pg_sub (pv 0) pe_int set_list))
        (pss_one (ps_ret (pv 2))))) pss_nil)
      (pss_cons (ps_asg (pe_op op_add (pe_ix ix_list (pv 0) pe_int (fun _ _ => rfl)) pe_int) (pg_sub (pv 0) pe_int set_list))
      (pss_cons (ps_set (i := 3) scDraw.nd rfl (.inl rfl) (pe_op op_mod (pe_op op_mul (pe_op op_add (pe_ix ix_list (pv 0) pe_int (fun _ _ => rfl)) pe_int) (pe_op op_add pe_int (pe_op op_mul pe_int (pe_ix ix_list (pv 0) pe_int (fun _ _ => rfl))))) pe_int))
      (pss_cons (ps_set (i := 3) scDraw.nd rfl (.inl rfl) (pe_op op_mod (pe_op op_add (pe_op op_add (pe_op op_mul (pv 3) (pv 3)) (pe_op op_mul pe_int (pe_ix ix_list (pv 0) pe_int (fun _ _ => rfl)))) pe_int) pe_int))
      (pss_one (ps_ret (pe_op op_mod (pe_op op_fdiv (pe_op op_mod (pe_op op_mul (pv 3) pe_int) pe_int) pe_int) (pv 1))))))), ?_⟩
    have i0 : ∀ u : V, ∀ r : List V, atI (u :: r) 0 = some u := fun u r => atI_nat (j := 0) rfl
    have i1 : ∀ u v : V, ∀ r : List V, atI (u :: v :: r) 1 = some v := fun u v r => atI_nat (j := 1) rfl
    have i2 : ∀ u v w : V, ∀ r : List V, atI (u :: v :: w :: r) 2 = some w := fun u v w r => atI_nat (j := 2) rfl
    have i3 : ∀ u v w z : V, ∀ r : List V, atI (u :: v :: w :: z :: r) 3 = some z := fun u v w z r => atI_nat (j := 3) rfl
    have hS : SqL K H p [.int x, .int y, .int c, .int e] := SqL.of hp
    refine ⟨_, rfl, p, _, _, _, rfl, rfl, hS, i1 _ _ _, rfl, _, rfl, ?_⟩
    refine ite2 (fun c1 => ?_) (fun c1 => ?slow1)
    refine ⟨_, rfl, p, _, _, _, rfl, rfl, hS, i0 _ _, _, _, rfl, rfl, _, rfl, ?_⟩
    refine ite2 (fun c2 => ?_) (fun c2 => ?slow2)
    · refine ⟨_, rfl, p, _, _, _, rfl, rfl, hS, i0 _ _, _, rfl, _, _, rfl, rfl, hb0, ?_⟩
      refine ⟨_, rfl, p, _, _, _, rfl, rfl, hS, i0 _ _, _, rfl, _, _, rfl, rfl, ⟨hb0, hb1⟩, _, rfl, p, _, 0, 0, rfl, rfl, hp, rfl, ?_⟩
      exact ⟨_, rfl, q _ _ (Kp.put _) ⟨_, _, _, _, upd_same, he0, he1⟩ (Int.emod_nonneg _ (by omega)) (Int.emod_lt_of_pos _ hb0)⟩
    all_goals
      refine ⟨_, rfl, p, _, _, _, rfl, rfl, hS, i2 _ _ _ _, _, _, rfl, rfl, _, rfl, p, _, 2, 2, rfl, rfl, hp, rfl, ?_⟩
      have hp1 : (upd H p (.lst [.int x, .int y, .int (c + 1), .int e])) p = some (.lst [.int x, .int y, .int (c + 1), .int e]) := upd_same
      have hS1 : SqL K (upd H p (.lst [.int x, .int y, .int (c + 1), .int e])) p [.int x, .int y, .int (c + 1), .int e] := SqL.of hp1
      refine ⟨_, rfl, p, _, _, _, rfl, rfl, hS1, i3 _ _ _ _ _, _, _, rfl, rfl, _, rfl, p, _, _, _, rfl, rfl, hS1, i2 _ _ _ _, _, _, rfl, rfl, .inl ⟨by decide, by decide⟩, _, _, rfl, rfl, _, _, rfl, rfl, .inl ⟨by omega, by omega⟩, _, _, rfl, rfl, (by show (0 : Int) < 2147483647; decide), ?_⟩
      have r1 := Int.emod_nonneg ((e + 17) * (69621 + 2 * (c + 1))) (b := 2147483647) (by decide)
      have r2 := Int.emod_lt_of_pos ((e + 17) * (69621 + 2 * (c + 1))) (b := 2147483647) (by decide)
      generalize (e + 17) * (69621 + 2 * (c + 1)) % 2147483647 = st at r1 r2
      refine ⟨_, rfl, _, rfl, _, _, rfl, rfl, .inl ⟨by omega, by omega⟩, _, rfl, p, _, _, _, rfl, rfl, hS1, i2 _ _ _ _, _, _, rfl, rfl, .inl ⟨by decide, by decide⟩, _, _, rfl, rfl, _, _, rfl, rfl, _, _, rfl, rfl, (by show (0 : Int) < 2147483629; decide), ?_⟩
      refine ⟨_, rfl, _, _, rfl, rfl, .inr ⟨by decide, by decide⟩, _, _, rfl, rfl, (by show (0 : Int) < 2147483647; decide), _, _, rfl, rfl, ⟨by decide, by decide⟩, _, rfl, _, _, rfl, rfl, hb0, ?_⟩
      exact q _ _ (Kp.put _) ⟨_, _, _, _, upd_same, he0, he1⟩ (Int.emod_nonneg _ (by omega)) (Int.emod_lt_of_pos _ hb0)
end
end Deed

namespace Deed
open PySem PySem.Spec PyProof.Rows L2
/-- a def of the top: where it stands, how its arguments come, its name -/
structure Df (K : PySem.W.Frag) (mg : Str → Option Value) (x : Str) (st : Stmt) (ps : List Str) (f : Addr) (fd : FuncData) : Prop where
  F : Fun K x x st f fd
  b : Binds K fd ps []
  g : mg x = some (.ref f)
theorem am0 {φ : V → Prop} : ∀ y ∈ ([] : List V), φ y := fun _ h => nomatch h
theorem am1 {φ : V → Prop} {x : V} {xs : List V} (h : φ x) (r : ∀ y ∈ xs, φ y) : ∀ y ∈ x :: xs, φ y := fun y hy => (List.mem_cons.mp hy).elim (fun e => e ▸ h) (r y)
/-- an item of a written list at an open place -/
theorem pick {xs : List V} {i : Int} (φ : V → Prop) (h0 : 0 ≤ i) (h1 : i < (xs.length : Int)) (hx : ∀ x ∈ xs, φ x) : ∃ v, atI xs i = some v ∧ φ v := by
  have hk : i.toNat < xs.length := by omega
  exact ⟨xs[i.toNat], at_of (j := i.toNat) (by omega) (List.getElem?_eq_getElem hk), hx _ (List.getElem_mem hk)⟩
/-- an int within bounds -/
def Within (lo hi : Int) (x : V) : Prop := ∃ n : Int, x = .int n ∧ lo ≤ n ∧ n ≤ hi
section
variable {P : Program} {w : World} {K : PySem.W.Frag} {mg : Str → Option Value} {base : Heap} {fDr : Addr} {dDr : FuncData}
abbrev DrawD (K : PySem.W.Frag) (mg : Str → Option Value) := Df K mg "_law_draw" sDraw ["_law_pen_here", "_law_bound"]
/-! ### a day -/
abbrev sDay : Stmt := topS 30
theorem scDay : FnScope ["_law_pen_here", "_law_far"] ["_law_pen_here"] (defScope sDay) := ⟨rfl, rfl, rfl, by decide +kernel, rfl, by decide +kernel, by decide +kernel⟩
def spDay : Sp := fun vs H Q _ => ∃ (p : Addr), vs = [.ref p] ∧ PenAt H p ∧ ∀ v H', Kp p H H' → PenAt H' p → 0 ≤ v → v ≤ 9999 → Q (.int v) H'
theorem ok_day {f : Addr} {fd : FuncData} {k : Nat} (F : Fun K "_law_day" "_law_day" sDay f fd) (D : DrawD K mg fDr dDr) : FnOk P w K mg base CX0 (k + 2) f fd ["_law_pen_here"] spDay := by
  have G : FnOk P w K mg base CX0 (k + 1) fDr dDr ["_law_pen_here", "_law_bound"] spDraw := ok_draw D.F
  refine F.ok scDay (fun vs H Q E h => ?_) (fun cdv A outer s H vs Q E hr h => ?_)
  · obtain ⟨p, rfl, _⟩ := h
    rfl
  · obtain ⟨p, rfl, hP, q⟩ := h
    refine ⟨_, pss_cons (ps_set (i := 1) scDay.nd rfl (.inl rfl) (pe_ix ix_list (pe_lst (pa_cons pe_int (pa_cons (pe_call G hr (by rfl) D.g D.F.kp D.b .nil pass0 (pa_cons (pv 0) (pa_cons pe_int pa_nil))) pa_nil))) (pe_call G hr (by rfl) D.g D.F.kp D.b .nil pass0 (pa_cons (pv 0) (pa_cons pe_int pa_nil))) (fun _ _ => rfl)))
      (pss_one (ps_ret (pe_ix ix_list (pe_lst (pa_cons (pe_call G hr (by rfl) D.g D.F.kp D.b .nil pass0 (pa_cons (pv 0) (pa_cons pe_int pa_nil))) (pa_cons (pe_call G hr (by rfl) D.g D.F.kp D.b .nil pass0 (pa_cons (pv 0) (pa_cons pe_int pa_nil))) (pa_cons (pe_call G hr (by rfl) D.g D.F.kp D.b .nil pass0 (pa_cons (pv 0) (pa_cons pe_int pa_nil))) (pa_cons (pv 1) pa_nil))))) (pe_call G hr (by rfl) D.g D.F.kp D.b .nil pass0 (pa_cons (pv 0) (pa_cons pe_int pa_nil))) (fun _ _ => rfl)))), ?_⟩
    refine ⟨_, rfl, p, 10000, rfl, hP, by decide, by decide, fun v1 H1 k1 P1 a1 b1 => ?_⟩
    refine ⟨(by show 2 ≤ sizeLine; decide), fun l hl => ?_⟩
    refine ⟨_, rfl, p, 2, rfl, P1.new hl _, by decide, by decide, fun v2 H2 k2 P2 a2 b2 => ?_⟩
    obtain ⟨v3, g3, n3, rfl, a3, b3⟩ := pick (xs := [.int 9999, .int v1]) (Within 0 9999) a2 b2 (am1 ⟨9999, rfl, by decide, by decide⟩ (am1 ⟨v1, rfl, a1, by omega⟩ am0))
    refine ⟨l, _, v2, _, rfl, rfl, SqL.of (k2 _ _ (P1.free hl) upd_same), g3, ?_⟩
    have kA : Kp p H H2 := (k1.trans (Kp.new hl _)).trans k2
    refine ⟨_, rfl, p, 6, rfl, P2, by decide, by decide, fun v4 H4 k4 P4 a4 b4 => ?_⟩
    refine ⟨_, rfl, p, 6, rfl, P4, by decide, by decide, fun v5 H5 k5 P5 a5 b5 => ?_⟩
    refine ⟨_, rfl, p, 40, rfl, P5, by decide, by decide, fun v6 H6 k6 P6 a6 b6 => ?_⟩
    refine ⟨_, rfl, (by show 4 ≤ sizeLine; decide), fun m hm => ?_⟩
    refine ⟨_, rfl, p, 4, rfl, P6.new hm _, by decide, by decide, fun v7 H7 k7 P7 a7 b7 => ?_⟩
    obtain ⟨v8, g8, n8, rfl, a8, b8⟩ := pick (xs := [.int v4, .int v5, .int v6, .int n3]) (Within 0 9999) a7 b7 (am1 ⟨_, rfl, by omega, by omega⟩ (am1 ⟨_, rfl, by omega, by omega⟩ (am1 ⟨_, rfl, by omega, by omega⟩ (am1 ⟨_, rfl, by omega, by omega⟩ am0))))
    refine ⟨m, _, v7, _, rfl, rfl, SqL.of (k7 _ _ (P6.free hm) upd_same), g8, ?_⟩
    exact q n8 _ (kA.trans (k4.trans (k5.trans (k6.trans ((Kp.new hm _).trans k7))))) P7 a8 b8
/-! ### folk -/
abbrev sFolk : Stmt := topS 31
theorem scFolk : FnScope ["_law_pen_here", "_law_least", "_law_found", "_law_k", "_law_born", "_law_died"] ["_law_pen_here", "_law_least"] (defScope sFolk) := ⟨rfl, rfl, rfl, by decide +kernel, rfl, by decide +kernel, by decide +kernel⟩
/-- a person at x -/
def PersonAt (H : Hp) (x : V) : Prop := ∃ (a : Addr) (b : Int) (d : V), x = .ref a ∧ H a = some (.tup [.int b, d]) ∧ -9999 ≤ b ∧ b ≤ 9998 ∧ (d = .non ∨ ∃ i : Int, d = .int i ∧ b < i ∧ i ≤ 9999)
theorem PersonAt.kp {p : Addr} {H H' : Hp} {x : V} (h : PersonAt H x) (k : Kp p H H') (P : PenAt H p) : PersonAt H' x := by
  obtain ⟨a, b, d, e, h1, r⟩ := h
  exact ⟨a, b, d, e, k _ _ (P.ne h1 fun _ z => by cases z) h1, r⟩
def FolkAt (H : Hp) (t : Addr) (n : Nat) : Prop := ∃ xs : List V, H t = some (.tup xs) ∧ xs.length = n ∧ ∀ x ∈ xs, PersonAt H x
theorem FolkAt.kp {p : Addr} {H H' : Hp} {t : Addr} {n : Nat} (h : FolkAt H t n) (k : Kp p H H') (P : PenAt H p) : FolkAt H' t n := by
  obtain ⟨xs, h1, h2, h3⟩ := h
  exact ⟨xs, k _ _ (P.ne h1 fun _ z => by cases z) h1, h2, fun x hx => (h3 x hx).kp k P⟩
def spFolk : Sp := fun vs H Q _ => ∃ (p : Addr) (least : Int), vs = [.ref p, .int least] ∧ PenAt H p ∧ 1 ≤ least ∧ least ≤ 6 ∧ ∀ t (n : Nat) H', Kp p H H' → PenAt H' p → FolkAt H' t n → least ≤ n → n ≤ 6 → Q (.ref t) H'
theorem ok_folk {f : Addr} {fd : FuncData} {k : Nat} (F : Fun K "_law_folk" "_law_folk" sFolk f fd) (D : DrawD K mg fDr dDr) (mr : mg "range" = none) (mm : mg "min" = none) (mt : mg "tuple" = none) : FnOk P w K mg base CX0 (k + 2) f fd ["_law_pen_here", "_law_least"] spFolk := by
  have G : FnOk P w K mg base CX0 (k + 1) fDr dDr ["_law_pen_here", "_law_bound"] spDraw := ok_draw D.F
  refine F.ok scFolk (fun vs H Q E h => ?_) (fun cdv A outer s H vs Q E hr h => ?_)
  · obtain ⟨p, l, rfl, _⟩ := h
    rfl
  · obtain ⟨p, least, rfl, hP, hl1, hl6, q⟩ := h
    refine ⟨_, pss_cons (ps_set (i := 2) scFolk.nd rfl (.inl rfl) (pe_lst pa_nil))
      (pss_cons (ps_for PassesOwn.never rfl (pi_range1 rfl mr (pa_cons (pe_op op_add (pv 1) (pe_call G hr (by rfl) D.g D.F.kp D.b .nil pass0 (pa_cons (pv 0) (pa_cons (pe_op op_sub pe_int (pv 1)) pa_nil)))) pa_nil)) (pg_name (i := 3) scFolk.nd rfl (.inl rfl))
        (pss_cons (ps_set (i := 4) scFolk.nd rfl (.inl rfl) (pe_ix ix_list (pe_lst (pa_cons (pe_op op_sub (pe_call G hr (by rfl) D.g D.F.kp D.b .nil pass0 (pa_cons (pv 0) (pa_cons pe_int pa_nil))) pe_int) (pa_cons (pe_op op_sub (pe_call G hr (by rfl) D.g D.F.kp D.b .nil pass0 (pa_cons (pv 0) (pa_cons pe_int pa_nil))) pe_int) (pa_cons (pe_un un_neg pe_int) pa_nil)))) (pe_call G hr (by rfl) D.g D.F.kp D.b .nil pass0 (pa_cons (pv 0) (pa_cons pe_int pa_nil))) (fun _ _ => rfl)))
        (pss_cons (ps_set (i := 5) scFolk.nd rfl (.inl rfl) (pe_callB (call_min2 rfl) (by rfl) mm (by decide +kernel) (pa_cons pe_int (pa_cons (pe_op op_add (pe_op op_add (pv 4) pe_int) (pe_ix ix_list (pe_lst (pa_cons (pe_call G hr (by rfl) D.g D.F.kp D.b .nil pass0 (pa_cons (pv 0) (pa_cons pe_int pa_nil))) (pa_cons (pe_call G hr (by rfl) D.g D.F.kp D.b .nil pass0 (pa_cons (pv 0) (pa_cons pe_int pa_nil))) pa_nil))) (pe_call G hr (by rfl) D.g D.F.kp D.b .nil pass0 (pa_cons (pv 0) (pa_cons pe_int pa_nil))) (fun _ _ => rfl))) pa_nil))))
        (pss_one (ps_expr (pe_bm PySem.F.plainAttrs_list PySem.F.slot_list_append PySem.F.type_list_append mt_append (pv 2) (pa_cons (pe_tup (pa_cons (pv 4) (pa_cons (pe_ix ix_list (pe_lst (pa_cons pe_non (pa_cons (pv 5) pa_nil))) (pe_call G hr (by rfl) D.g D.F.kp D.b .nil pass0 (pa_cons (pv 0) (pa_cons pe_int pa_nil))) (fun _ _ => rfl)) pa_nil))) pa_nil)))))))
      (pss_one (ps_ret (pe_callTy call_tuple_of (by rfl) mt (by decide +kernel) (pa_cons (pv 2) pa_nil))))), ?_⟩
    refine ⟨Nat.zero_le _, fun l hl => ?_⟩
    have Pl : PenAt (upd H l (.lst [])) p := hP.new hl _
    have nl : l ≠ p := hP.free hl
    refine ⟨_, rfl, _, rfl, _, rfl, _, _, rfl, rfl, p, 7 - least, rfl, Pl, by omega, by omega, fun v1 H1 k1 P1 a1 b1 => ?_⟩
    refine ⟨_, _, rfl, rfl, _, rfl, by omega, by omega, ?_⟩
    refine for_range (lo := 0) (n := (least + v1).toNat) (fun i σ H' => ∃ y3 y4 y5 xs, σ = [some (.ref p), some (.int least), some (.ref l), y3, y4, y5] ∧ Kp p H H' ∧ PenAt H' p ∧ H' l = some (.lst xs) ∧ xs.length = i ∧ ∀ x ∈ xs, PersonAt H' x)
      ⟨none, none, none, [], rfl, (Kp.new hl _).trans k1, P1, k1 _ _ nl upd_same, rfl, am0⟩ ?_ ?_
    · rintro i σ H' hi ⟨y3, y4, y5, xs, rfl, k', P', el, ln, ps⟩
      -- born
      refine ⟨_, rfl, p, 9, rfl, P', by decide, by decide, fun v2 H2 k2 P2 a2 b2 => ⟨_, _, rfl, rfl, ?_⟩⟩
      refine ⟨_, rfl, p, 19998, rfl, P2, by decide, by decide, fun v3 H3 k3 P3 a3 b3 => ⟨_, _, rfl, rfl, ?_⟩⟩
      refine ⟨_, rfl, (by show 3 ≤ sizeLine; decide), fun m hm => ?_⟩
      refine ⟨_, rfl, p, 3, rfl, P3.new hm _, by decide, by decide, fun v4 H4 k4 P4 a4 b4 => ?_⟩
      obtain ⟨_, g5, n5, rfl, a5, b5⟩ := pick (xs := [.int (v2 - 4), .int (v3 - 9999), .int (-9999)]) (Within (-9999) 9998) a4 b4 (am1 ⟨_, rfl, by omega, by omega⟩ (am1 ⟨_, rfl, by omega, by omega⟩ (am1 ⟨_, rfl, by omega, by omega⟩ am0)))
      refine ⟨m, _, v4, _, rfl, rfl, SqL.of (k4 _ _ (P3.free hm) upd_same), g5, ?_⟩
      have kA : Kp p H' H4 := k2.trans (k3.trans ((Kp.new hm _).trans k4))
      -- died
      refine ⟨_, rfl, _, _, rfl, rfl, ?_⟩
      refine ⟨_, rfl, p, 12, rfl, P4, by decide, by decide, fun v6 H6 k6 P6 a6 b6 => ?_⟩
      refine ⟨_, rfl, p, 9999, rfl, P6, by decide, by decide, fun v7 H7 k7 P7 a7 b7 => ?_⟩
      refine ⟨(by show 2 ≤ sizeLine; decide), fun m2 hm2 => ?_⟩
      refine ⟨_, rfl, p, 2, rfl, P7.new hm2 _, by decide, by decide, fun v8 H8 k8 P8 a8 b8 => ?_⟩
      obtain ⟨_, g9, n9, rfl, a9, b9⟩ := pick (xs := [.int v6, .int v7]) (Within 0 9998) a8 b8 (am1 ⟨_, rfl, by omega, by omega⟩ (am1 ⟨_, rfl, by omega, by omega⟩ am0))
      refine ⟨m2, _, v8, _, rfl, rfl, SqL.of (k8 _ _ (P7.free hm2) upd_same), g9, _, _, rfl, rfl, _, _, rfl, ?_⟩
      have kB : Kp p H4 H8 := k6.trans (k7.trans ((Kp.new hm2 _).trans k8))
      have hd : n5 < (if n5 + 1 + n9 < 9999 then n5 + 1 + n9 else 9999) ∧ (if n5 + 1 + n9 < 9999 then n5 + 1 + n9 else 9999) ≤ 9999 := by
        split <;> omega
      generalize (if n5 + 1 + n9 < 9999 then n5 + 1 + n9 else 9999) = dd at hd
      have kC := kA.trans kB
      have el8 := kC _ _ nl el
      -- found.append((born, ..))
      refine ⟨_, rfl, .inl ⟨rfl, _, SqL.of el8⟩, _, rfl, _, rfl, (by show 2 ≤ sizeLine; decide), fun m3 hm3 => ?_⟩
      refine ⟨_, rfl, p, 2, rfl, P8.new hm3 _, by decide, by decide, fun v10 H10 k10 P10 a10 b10 => ?_⟩
      obtain ⟨vd, g11, hvd⟩ := pick (xs := [.non, .int dd]) (fun d => d = .non ∨ ∃ i : Int, d = .int i ∧ n5 < i ∧ i ≤ 9999) a10 b10 (am1 (.inl rfl) (am1 (.inr ⟨_, rfl, hd⟩) am0))
      refine ⟨m3, _, v10, _, rfl, rfl, SqL.of (k10 _ _ (P8.free hm3) upd_same), g11, (by show 2 ≤ sizeLine; decide), fun t ht => ?_⟩
      have kD := (kC.trans ((Kp.new hm3 _).trans k10)).trans (Kp.new (p := p) ht (.tup [.int n5, vd]))
      have elD := kD _ _ nl el
      have PD : PenAt (upd H10 t (.tup [.int n5, vd])) p := P10.new ht _
      refine ⟨l, _, _, rfl, rfl, elD, small1000 (by omega), ?_⟩
      have kE : ∀ b o, b ≠ p → b ≠ l → H' b = some o → (upd (upd H10 t (.tup [.int n5, vd])) l (.lst (xs ++ [.ref t]))) b = some o := fun b o n1 n2 e => by
        rw [upd_ne n2]
        exact kD _ _ n1 e
      have ntl : t ≠ l := fun z => by
        have := (kC.trans ((Kp.new hm3 _).trans k10)) _ _ nl el
        rw [z, this] at ht
        cases ht
      refine ⟨_, _, _, xs ++ [.ref t], rfl, fun b o n1 e => ?_, ?_, upd_same, ?_, fun x hx => ?_⟩
      · by_cases hb : b = l
        · rw [hb, hl] at e
          cases e
        · exact kE b o n1 hb (k' _ _ n1 e)
      · obtain ⟨x1, x2, x3, x4, e1, e2⟩ := PD
        exact ⟨x1, x2, x3, x4, by rw [upd_ne nl.symm]; exact e1, e2⟩
      · rw [List.length_append, ln]
        rfl
      · rcases List.mem_append.mp hx with hx | hx
        · obtain ⟨a, b, d, e, h1, r⟩ := ps x hx
          exact ⟨a, b, d, e, kE _ _ (P'.ne h1 fun _ z => by cases z) (fun z => by rw [z, el] at h1; cases h1) h1, r⟩
        · rw [List.mem_singleton.mp hx]
          exact ⟨t, n5, vd, rfl, by rw [upd_ne ntl, upd_same], by omega, by omega, hvd⟩
    · rintro σ H' ⟨y3, y4, y5, xs, rfl, k', P', el, ln, ps⟩
      refine ⟨_, rfl, l, xs, rfl, .inl ⟨SqL.of el, fun t ht => ?_⟩⟩
      have kF : Kp p H' (upd H' t (.tup xs)) := Kp.new ht _
      exact q t (least + v1).toNat _ (k'.trans kF) (P'.new ht _) ⟨xs, upd_same, ln, fun x hx => (ps x hx).kp kF P'⟩ (by omega) (by omega)
end
end Deed

namespace Deed
open PySem PySem.Spec PyProof.Rows L2
theorem seqIx {i : Int} {n : Nat} (h0 : 0 ≤ i) (h1 : i < n) : seqIndex? i n = some i.toNat := seqIndex_of h0 h1
theorem rising_of {l : List Int} (hn : l.Nodup) (hp : l.Pairwise (· ≤ ·)) : l.Pairwise (· < ·) := by
  induction l with
  | nil => exact .nil
  | cons x r ih =>
    have h1 := List.nodup_cons.mp hn
    have h2 := List.pairwise_cons.mp hp
    refine List.pairwise_cons.mpr ⟨fun y hy => ?_, ih h1.2 h2.2⟩
    have h3 := h2.1 y hy
    have h4 : x ≠ y := fun e => h1.1 (e ▸ hy)
    omega
theorem perm_erase {α : Type} {l : List α} {k : Nat} {y : α} (h : l[k]? = some y) : (y :: l.eraseIdx k).Perm l := by
  induction l generalizing k with
  | nil => simp at h
  | cons a r ih =>
    cases k with
    | zero =>
      have e : a = y := by simpa using h
      subst e
      exact List.Perm.refl _
    | succ k =>
      have h' : r[k]? = some y := by simpa using h
      show (y :: a :: r.eraseIdx k).Perm (a :: r)
      exact (List.Perm.swap a y _).trans ((ih h').cons a)
theorem erase_map {α β : Type} (f : α → β) : ∀ (l : List α) (k : Nat), (l.map f).eraseIdx k = (l.eraseIdx k).map f
  | [], _ => rfl
  | _ :: _, 0 => rfl
  | a :: r, k + 1 => congrArg (List.cons (f a)) (erase_map f r k)
section
variable {P : Program} {w : World} {K : PySem.W.Frag} {mg : Str → Option Value} {base : Heap} {fDr : Addr} {dDr : FuncData}
/-! ### a few of some -/
abbrev sFew : Stmt := topS 32
theorem scFew : FnScope ["_law_pen_here", "_law_some", "_law_most", "_law_left", "_law_found", "_law_k"] ["_law_pen_here", "_law_some", "_law_most"] (defScope sFew) := ⟨rfl, rfl, rfl, by decide +kernel, rfl, by decide +kernel, by decide +kernel⟩
def spFew (K : PySem.W.Frag) : Sp := fun vs H Q _ => ∃ (p a : Addr) (most : Int) (ns : List Int), vs = [.ref p, .ref a, .int most] ∧ PenAt H p ∧ SqL K H a (ns.map V.int) ∧ 0 ≤ most ∧ most ≤ 1000 ∧ ns.length ≤ 1000 ∧
  ∀ t (rs ls : List Int) H', Kp p H H' → PenAt H' p → H' t = some (.tup (rs.map V.int)) → (rs ++ ls).Perm ns → rs.Pairwise (· ≤ ·) → rs.length ≤ most → Q (.ref t) H'
theorem ok_few {f : Addr} {fd : FuncData} {k : Nat} (F : Fun K "_law_few" "_law_few" sFew f fd) (D : DrawD K mg fDr dDr) (mr : mg "range" = none) (mm : mg "min" = none) (mt : mg "tuple" = none) (ml : mg "list" = none) (mn : mg "len" = none) (ms : mg "sorted" = none) :
    FnOk P w K mg base CX0 (k + 2) f fd ["_law_pen_here", "_law_some", "_law_most"] (spFew K) := by
  have G : FnOk P w K mg base CX0 (k + 1) fDr dDr ["_law_pen_here", "_law_bound"] spDraw := ok_draw D.F
  refine F.ok scFew (fun vs H Q E h => ?_) (fun cdv A outer s H vs Q E hr h => ?_)
  · obtain ⟨p, a, most, ns, rfl, _⟩ := h
    rfl
  · obtain ⟨p, a, most, ns, rfl, hP, hS, hm0, hm1, hn1, q⟩ := h
    refine ⟨_, pss_cons (ps_par (i := 3) (j := 4) (by rfl) scFew.nd rfl rfl (by decide) rfl rfl (pa_cons (pe_callTy call_list_of (by rfl) ml (by decide +kernel) (pa_cons (pv 1) pa_nil)) (pa_cons (pe_lst pa_nil) pa_nil)) (by rfl))
      (pss_cons (ps_for PassesOwn.never rfl (pi_range1 rfl mr (pa_cons (pe_callB (call_min2 rfl) (by rfl) mm (by decide +kernel) (pa_cons (pe_callB call_len_seq (by rfl) mn PySem.boot_len (pa_cons (pv 3) pa_nil)) (pa_cons (pe_call G hr (by rfl) D.g D.F.kp D.b .nil pass0 (pa_cons (pv 0) (pa_cons (pe_op op_add (pv 2) pe_int) pa_nil))) pa_nil))) pa_nil)) (pg_name (i := 5) scFew.nd rfl (.inl rfl))
        (pss_one (ps_expr (pe_bm PySem.F.plainAttrs_list PySem.F.slot_list_append PySem.F.type_list_append mt_append (pv 4) (pa_cons (pe_bm PySem.F.plainAttrs_list PySem.F.slot_list_pop PySem.F.type_list_pop mt_popAt (pv 3) (pa_cons (pe_call G hr (by rfl) D.g D.F.kp D.b .nil pass0 (pa_cons (pv 0) (pa_cons (pe_callB call_len_seq (by rfl) mn PySem.boot_len (pa_cons (pv 3) pa_nil)) pa_nil))) pa_nil)) pa_nil)))))
      (pss_one (ps_ret (pe_callTy call_tuple_of (by rfl) mt (by decide +kernel) (pa_cons (pe_callB cr_sortedI (by rfl) ms (by decide +kernel) (pa_cons (pv 4) pa_nil)) pa_nil))))), ?_⟩
    refine ⟨_, rfl, a, _, rfl, .inl hS, fun l hl => ?_⟩
    have Pl : PenAt (upd H l (.lst (ns.map V.int))) p := hP.new hl _
    have nl : l ≠ p := hP.free hl
    refine ⟨Nat.zero_le _, fun g hg => ⟨_, _, rfl, ?_⟩⟩
    have ng : g ≠ p := Pl.free hg
    have nlg : l ≠ g := fun z => by
      rw [← z, upd_same] at hg
      cases hg
    have Pg := Pl.new hg (.lst [])
    have el : (upd (upd H l (.lst (ns.map V.int))) g (.lst [])) l = some (.lst (ns.map V.int)) := by rw [upd_ne nlg, upd_same]
    refine ⟨_, rfl, l, _, rfl, .inl (SqL.of el), _, rfl, _, rfl, _, _, rfl, rfl, p, most + 1, rfl, Pg, by omega, by omega, fun v1 H1 k1 P1 a1 b1 => ?_⟩
    have hlen : (ns.map V.int).length = ns.length := List.length_map _
    refine ⟨_, _, rfl, ?_⟩
    rw [hlen]
    have hj : 0 ≤ (if v1 < (ns.length : Int) then v1 else (ns.length : Int)) ∧ (if v1 < (ns.length : Int) then v1 else (ns.length : Int)) ≤ ns.length ∧ (if v1 < (ns.length : Int) then v1 else (ns.length : Int)) ≤ most := by
      split <;> omega
    generalize (if v1 < (ns.length : Int) then v1 else (ns.length : Int)) = j at hj
    refine ⟨_, rfl, by omega, by omega, ?_⟩
    have k0 : Kp p H H1 := ((Kp.new hl _).trans (Kp.new hg _)).trans k1
    refine for_range (lo := 0) (n := j.toNat) (fun i σ H' => ∃ y5, ∃ rs ls : List Int, σ = [some (.ref p), some (.ref a), some (.int most), some (.ref l), some (.ref g), y5] ∧ Kp p H H' ∧ PenAt H' p ∧ H' l = some (.lst (ls.map V.int)) ∧ H' g = some (.lst (rs.map V.int)) ∧ rs.length = i ∧ (rs ++ ls).Perm ns)
      ⟨none, [], ns, rfl, k0, P1, k1 _ _ nl el, k1 _ _ ng upd_same, rfl, List.Perm.refl _⟩ ?_ ?_
    · rintro i σ H' hi ⟨y5, rs, ls, rfl, k', P', e1, e2, hrl, hpm⟩
      have hll : ls.length = ns.length - i := by
        have := hpm.length_eq
        rw [List.length_append] at this
        omega
      have hml : (ls.map V.int).length = ls.length := List.length_map _
      refine ⟨_, rfl, .inl ⟨rfl, _, SqL.of e2⟩, _, rfl, .inl ⟨rfl, _, SqL.of e1⟩, _, rfl, _, rfl, l, _, rfl, .inl (SqL.of e1), p, _, rfl, P', by omega, by omega, fun v2 H2 k2 P2 a2 b2 => ?_⟩
      rw [hml] at b2
      have e1' := k2 _ _ nl e1
      have e2' := k2 _ _ ng e2
      have hk : v2.toNat < ls.length := by omega
      refine ⟨l, _, v2, v2.toNat, .int ls[v2.toNat], rfl, rfl, e1', by omega, by omega, seqIx a2 (by rw [hml]; omega), by rw [List.getElem?_map, List.getElem?_eq_getElem hk] <;> rfl, ?_⟩
      have e2'' : (upd H2 l (.lst ((ls.map V.int).eraseIdx v2.toNat))) g = some (.lst (rs.map V.int)) := by rw [upd_ne nlg.symm]; exact e2'
      refine ⟨g, _, _, rfl, rfl, e2'', small1000 (by rw [List.length_map]; omega), ?_⟩
      refine ⟨_, rs ++ [ls[v2.toNat]], ls.eraseIdx v2.toNat, rfl, fun b o n1 e => ?_, ?_, ?_, ?_, ?_, ?_⟩
      · rw [upd_ne (ne_of_none e (show H g = none by rw [upd_ne nlg.symm] at hg; exact hg)), upd_ne (ne_of_none e hl)]
        exact (k'.trans k2) _ _ n1 e
      · obtain ⟨x1, x2, x3, x4, z1, z2⟩ := P2
        exact ⟨x1, x2, x3, x4, by rw [upd_ne ng.symm, upd_ne nl.symm]; exact z1, z2⟩
      · rw [upd_ne nlg, upd_same, erase_map]
      · rw [upd_same, List.map_append]
        rfl
      · rw [List.length_append, hrl]
        rfl
      · have h1 : (ls[v2.toNat] :: ls.eraseIdx v2.toNat).Perm ls := perm_erase (List.getElem?_eq_getElem hk)
        refine List.Perm.trans ?_ hpm
        rw [List.append_assoc]
        exact (List.Perm.append_left rs h1)
    · rintro σ H' ⟨y5, rs, ls, rfl, k', P', e1, e2, hrl, hpm⟩
      refine ⟨_, rfl, g, rs, rfl, SqL.of e2, fun rs' m pm up hm => ?_⟩
      have hm' : (upd H' m (.lst (rs'.map V.int))) m = some (.lst (rs'.map V.int)) := upd_same
      refine ⟨m, _, rfl, .inl ⟨SqL.of hm', fun t ht => ?_⟩⟩
      refine q t rs' ls _ (k'.trans ((Kp.new hm _).trans (Kp.new ht _))) ((P'.new hm _).new ht _) upd_same ((List.Perm.append_right ls pm).trans hpm) up ?_
      rw [pm.length_eq, hrl]
      omega
end
end Deed

namespace Deed
open PySem PySem.Spec PyProof.Rows L2
/-! ### lists of ints compared -/
theorem dp_ints {K : PySem.W.Frag} {H : Hp} : ∀ ns : List Int, DpAll K H (ns.map V.int) (ns.map PyData.int)
  | [] => .nil
  | n :: r => .cons (.int n) (dp_ints r)
theorem lay_ints : ∀ ns : List Int, PyData.canLayAll0 (ns.map PyData.int) = true
  | [] => by simp [PyData.canLayAll0]
  | n :: r => by simp [PyData.canLayAll0, PyData.canLay0, lay_ints r]
theorem depth_ints : ∀ ns : List Int, PyData.depthAll (ns.map PyData.int) ≤ 1
  | [] => by simp [PyData.depthAll]
  | n :: r => by
    have h := depth_ints r
    simp only [List.map_cons, PyData.depthAll, PyData.depth]
    omega
theorem shaped_ints (ns : List Int) : SeqAt.shaped (.list (ns.map PyData.int)) = true := by
  have h1 := depth_ints ns
  have h2 : PyData.depth (.list (ns.map PyData.int)) ≤ 64 := by
    simp only [PyData.depth]
    omega
  show (PyData.canLay0 (.list (ns.map PyData.int)) && decide (PyData.depth (.list (ns.map PyData.int)) ≤ 64)) = true
  rw [Bool.and_eq_true]
  exact ⟨by simp only [PyData.canLay0]; exact lay_ints ns, decide_eq_true h2⟩
theorem eqvAll_ints : ∀ ns ms : List Int, PyData.eqvAll (ns.map PyData.int) (ms.map PyData.int) = decide (ns = ms)
  | [], [] => by simp [PyData.eqvAll]
  | [], _ :: _ => by simp [PyData.eqvAll]
  | _ :: _, [] => by simp [PyData.eqvAll]
  | n :: r, m :: q => by
    simp only [List.map_cons, PyData.eqvAll, PyData.eqv, eqvAll_ints r q]
    by_cases h : n = m
    · subst h
      simp
    · simp [h]
theorem eqv_ints (ns ms : List Int) : PyData.eqv (.list (ns.map PyData.int)) (.list (ms.map PyData.int)) = decide (ns = ms) := by
  simp only [PyData.eqv]
  exact eqvAll_ints ns ms
theorem mem_inV {n : Int} {ns : List Int} : inV (.int n) (ns.map V.int) = decide (n ∈ ns) := by
  induction ns with
  | nil => simp [inV]
  | cons m r ih =>
    have e : inV (.int n) ((m :: r).map V.int) = (eqV (.int m) (.int n) || inV (.int n) (r.map V.int)) := by simp [inV]
    have e2 : eqV (.int m) (.int n) = decide (m = n) := by
      first | rfl | simp [eqV] | (unfold eqV; simp)
    rw [e, ih, e2]
    by_cases h : m = n
    · subst h
      simp
    · have h' : ¬ n = m := fun z => h z.symm
      simp [h, h']
theorem flat_ints (ns : List Int) : (ns.map V.int).all flatV = true := by
  induction ns with
  | nil => rfl
  | cons n r ih =>
    rw [List.map_cons, List.all_cons, ih]
    rfl
/-! ### entries -/
inductive Kd where
  | deed (g t : Int) (rs ws : List Int)
  | act (x : Str) (o : Int)
structure En where
  num : Int
  day : Int
  wri : Int
  hand : Int
  kd : Kd
def En.isDeed (e : En) : Bool := match e.kd with
  | .deed _ _ _ _ => true
  | .act _ _ => false
/-- the entry e at the address a -/
def EntAt (H : Hp) (a : Addr) (e : En) : Prop := match e.kd with
  | .deed g t rs ws => ∃ r w : Addr, H a = some (.tup [.int e.num, .int e.day, .int e.wri, .int e.hand, .str "deed", .int g, .int t, .ref r, .ref w]) ∧ H r = some (.tup (rs.map V.int)) ∧ H w = some (.tup (ws.map V.int))
  | .act x o => H a = some (.tup [.int e.num, .int e.day, .int e.wri, .int e.hand, .str x, .int o])
/-- all that isn't a list is kept -/
def KpT (H H' : Hp) : Prop := ∀ b xs, H b = some (.tup xs) → H' b = some (.tup xs)
theorem Kp.tup {p : Addr} {H H' : Hp} (k : Kp p H H') (P : PenAt H p) : KpT H H' := fun b xs e => k _ _ (P.ne e fun _ z => by cases z) e
theorem Same.tup {H H' : Hp} (k : Same H H') : KpT H H' := fun b xs e => k _ _ e
theorem KpT.trans {H H1 H2 : Hp} (a : KpT H H1) (b : KpT H1 H2) : KpT H H2 := fun c o h => b c o (a c o h)
theorem EntAt.kp {H H' : Hp} {a : Addr} {e : En} (h : EntAt H a e) (k : KpT H H') : EntAt H' a e := by
  unfold EntAt at h ⊢
  cases hk : e.kd with
  | deed g t rs ws =>
    rw [hk] at h
    obtain ⟨r, w, h1, h2, h3⟩ := h
    exact ⟨r, w, k _ _ h1, k _ _ h2, k _ _ h3⟩
  | act x o =>
    rw [hk] at h
    exact k _ _ h
def EnOk (n : Nat) (ds as : List Int) (e : En) : Prop := (0 ≤ e.day ∧ e.day ≤ 9999) ∧ (0 ≤ e.wri ∧ e.wri ≤ 9999) ∧ (0 ≤ e.hand ∧ e.hand ≤ 3) ∧ match e.kd with
  | .deed g t rs ws => (0 ≤ g ∧ g < n) ∧ (0 ≤ t ∧ t < n) ∧ g ≠ t ∧ rs.length ≤ 2 ∧ rs.Pairwise (· < ·) ∧ (∀ r ∈ rs, r ∈ ds ∧ r < e.num) ∧ ws.length ≤ 3 ∧ ws.Pairwise (· < ·) ∧ ∀ x ∈ ws, 0 ≤ x ∧ x < n ∧ x ≠ g ∧ x ≠ t
  | .act x o => ((x = "undone" ∧ o ∈ as) ∨ ((x = "paid" ∨ x = "void") ∧ o ∈ ds)) ∧ o < e.num
theorem EnOk.mono {n : Nat} {ds as ds' as' : List Int} {e : En} (h : EnOk n ds as e) (h1 : ∀ x ∈ ds, x ∈ ds') (h2 : ∀ x ∈ as, x ∈ as') : EnOk n ds' as' e := by
  unfold EnOk at h ⊢
  obtain ⟨a, b, c, d⟩ := h
  refine ⟨a, b, c, ?_⟩
  cases hk : e.kd with
  | deed g t rs ws =>
    rw [hk] at d
    obtain ⟨d1, d2, d3, d4, d5, d6, d7⟩ := d
    exact ⟨d1, d2, d3, d4, d5, fun r hr => ⟨h1 _ (d6 r hr).1, (d6 r hr).2⟩, d7⟩
  | act x o =>
    rw [hk] at d
    obtain ⟨d1, d2⟩ := d
    refine ⟨?_, d2⟩
    rcases d1 with ⟨z, m⟩ | ⟨z, m⟩
    · exact .inl ⟨z, h2 _ m⟩
    · exact .inr ⟨z, h1 _ m⟩
section
variable {P : Program} {w : World} {K : PySem.W.Frag} {mg : Str → Option Value} {base : Heap} {fDr fFe fDy fDe : Addr} {dDr dFe dDy dDe : FuncData}
abbrev FewD (K : PySem.W.Frag) (mg : Str → Option Value) := Df K mg "_law_few" sFew ["_law_pen_here", "_law_some", "_law_most"]
abbrev DayD (K : PySem.W.Frag) (mg : Str → Option Value) := Df K mg "_law_day" sDay ["_law_pen_here"]
/-- the built-ins' names are the built-ins' -/
structure Bi (mg : Str → Option Value) : Prop where
  range : mg "range" = none
  min : mg "min" = none
  max : mg "max" = none
  tuple : mg "tuple" = none
  list : mg "list" = none
  len : mg "len" = none
  sorted : mg "sorted" = none
  int : mg "int" = none
/-! ### what stands behind a deed's word -/
abbrev sDeed : Stmt := topS 33
abbrev nDeed : List Str := ["_law_pen_here", "_law_folk_here", "_law_deeds", "_law_giver", "_law_taker", "_law_others", "_law_one"]
theorem scDeed : FnScope nDeed ["_law_pen_here", "_law_folk_here", "_law_deeds"] (defScope sDeed) := ⟨rfl, rfl, rfl, by decide +kernel, rfl, by decide +kernel, by decide +kernel⟩
def spDeed (K : PySem.W.Frag) : Sp := fun vs H Q _ => ∃ (p fk ld : Addr) (n : Nat) (ds : List Int), vs = [.ref p, .ref fk, .ref ld] ∧ PenAt H p ∧ FolkAt H fk n ∧ 2 ≤ n ∧ n ≤ 6 ∧ H ld = some (.lst (ds.map V.int)) ∧ ld ≠ p ∧ ds.Nodup ∧ ds.length ≤ 1000 ∧
  ∀ a r x (g t : Int) (rs ws : List Int) H', Kp p H H' → PenAt H' p → H' a = some (.tup [.int g, .int t, .ref r, .ref x]) → H' r = some (.tup (rs.map V.int)) → H' x = some (.tup (ws.map V.int)) →
    (0 ≤ g ∧ g < n) → (0 ≤ t ∧ t < n) → g ≠ t → rs.length ≤ 2 → rs.Pairwise (· < ·) → (∀ r ∈ rs, r ∈ ds) → ws.length ≤ 3 → ws.Pairwise (· < ·) → (∀ y ∈ ws, 0 ≤ y ∧ y < n ∧ y ≠ g ∧ y ≠ t) → Q (.ref a) H'
theorem taker_ne {g v : Int} {n : Nat} (h2 : 2 ≤ n) (h6 : n ≤ 6) (hg : 0 ≤ g) (hg' : g < n) (hv : 0 ≤ v) (hv' : v < (n : Int) - 1) : 0 ≤ (g + 1 + v) % (n : Int) ∧ (g + 1 + v) % (n : Int) < n ∧ g ≠ (g + 1 + v) % (n : Int) := by
  have hn : n = 2 ∨ n = 3 ∨ n = 4 ∨ n = 5 ∨ n = 6 := by omega
  rcases hn with rfl | rfl | rfl | rfl | rfl <;> omega
theorem ok_deed {f : Addr} {fd : FuncData} {k : Nat} (F : Fun K "_law_deed" "_law_deed" sDeed f fd) (D : DrawD K mg fDr dDr) (DF : FewD K mg fFe dFe) (B : Bi mg) : FnOk P w K mg base CX0 (k + 3) f fd ["_law_pen_here", "_law_folk_here", "_law_deeds"] (spDeed K) := by
  have G : FnOk P w K mg base CX0 (k + 1) fDr dDr ["_law_pen_here", "_law_bound"] spDraw := ok_draw D.F
  have GF : FnOk P w K mg base CX0 (k + 2) fFe dFe ["_law_pen_here", "_law_some", "_law_most"] (spFew K) := ok_few DF.F D B.range B.min B.tuple B.list B.len B.sorted
  refine F.ok scDeed (fun vs H Q E h => ?_) (fun cdv A outer s H vs Q E hr h => ?_)
  · obtain ⟨p, fk, ld, n, ds, rfl, _⟩ := h
    rfl
  · obtain ⟨p, fk, ld, n, ds, rfl, hP, hF, hn2, hn6, hld, nld, hnd, hdl, q⟩ := h
    have hr1 : Room (k + 1) _ := hr.mono (Nat.le_succ _)
    obtain ⟨xs, hfk, hxl, hps⟩ := id hF
    refine ⟨_, pss_cons (ps_set (i := 3) scDeed.nd rfl (.inr rfl) (pe_call G hr1 (by rfl) D.g D.F.kp D.b .nil pass0 (pa_cons (pv 0) (pa_cons (pe_callB call_len_seq (by rfl) B.len PySem.boot_len (pa_cons (pv 1) pa_nil)) pa_nil))))
      (pss_cons (ps_set (i := 4) scDeed.nd rfl (.inr rfl) (pe_op op_mod (pe_op op_add (pe_op op_add (pv 3) pe_int) (pe_call G hr1 (by rfl) D.g D.F.kp D.b .nil pass0 (pa_cons (pv 0) (pa_cons (pe_op op_sub (pe_callB call_len_seq (by rfl) B.len PySem.boot_len (pa_cons (pv 1) pa_nil)) pe_int) pa_nil)))) (pe_callB call_len_seq (by rfl) B.len PySem.boot_len (pa_cons (pv 1) pa_nil))))
      (pss_cons (ps_setLc (i := 5) (own := [("_law_one", 6)]) (g := gName 6) (by rfl) scDeed.nd rfl rfl (sw_true rfl rfl rfl (by decide +kernel)) (pi_range1 (by rfl) B.range (pa_cons (pe_callB call_len_seq (by rfl) B.len PySem.boot_len (pa_cons (pv 1) pa_nil)) pa_nil)) (blkOk_by (own := [("_law_one", 6)]) (N := nDeed) (sc := defScope sDeed) (by decide +kernel)) (fun _ _ _ _ _ => pg_name (i := 6) scDeed.nd rfl (Or.inl rfl))
          (fun _ _ _ _ _ => pts_one (pt_cmpR (show OpR _ (compareOp .NotIn) (rIn K true) from op_notIn_seq) (pv 6) (pe_tup (pa_cons (pv 3) (pa_cons (pv 4) pa_nil))) (by rfl))) (fun _ _ _ _ _ => pv 6))
      (pss_one (ps_ret (pe_tup (pa_cons (pv 3) (pa_cons (pv 4) (pa_cons (pe_call GF hr (by rfl) DF.g DF.F.kp DF.b .nil pass0 (pa_cons (pv 0) (pa_cons (pv 2) (pa_cons pe_int pa_nil)))) (pa_cons (pe_call GF hr (by rfl) DF.g DF.F.kp DF.b .nil pass0 (pa_cons (pv 0) (pa_cons (pv 5) (pa_cons pe_int pa_nil)))) pa_nil))))))))), ?_⟩
    refine ⟨_, rfl, _, rfl, fk, xs, rfl, .inr (SqT.of hfk), p, _, rfl, hP, by omega, by omega, fun g H1 k1 P1 a1 b1 => ?_⟩
    have hfk1 := k1.tup hP _ _ hfk
    refine ⟨_, rfl, _, _, rfl, rfl, _, rfl, _, rfl, fk, xs, rfl, .inr (SqT.of hfk1), _, _, rfl, rfl, p, _, rfl, P1, by omega, by omega, fun v H2 k2 P2 a2 b2 => ?_⟩
    have hfk2 := k2.tup P1 _ _ hfk1
    refine ⟨_, _, rfl, rfl, _, rfl, fk, xs, rfl, .inr (SqT.of hfk2), _, _, rfl, rfl, by omega, ?_⟩
    rw [hxl] at b1 b2
    obtain ⟨t1, t2, t3⟩ := taker_ne hn2 hn6 a1 b1 a2 b2
    rw [hxl]
    dsimp only
    generalize (g + 1 + v) % (n : Int) = t at t1 t2 t3
    have k12 := k1.trans k2
    refine ⟨_, rfl, fk, xs, rfl, .inr (SqT.of hfk2), _, rfl, by omega, by omega, ?_⟩
    rw [hxl]
    refine fun o no => ?_
    have npo : o ≠ p := P2.free no
    refine lc_range (lo := 0) (n := ((n : Nat) : Int).toNat) (fun i H' => ∃ os : List Int, H' o = some (.lst (os.map V.int)) ∧ Kp p H H' ∧ PenAt H' p ∧ os.length ≤ i ∧ os.Pairwise (· < ·) ∧ ∀ y ∈ os, 0 ≤ y ∧ y < (i : Int) ∧ y ≠ g ∧ y ≠ t)
      ⟨[], upd_same, k12.trans (Kp.new no _), P2.new no _, Nat.le_refl _, .nil, fun _ h => nomatch h⟩ ?_ ?_
    · rintro i H' hi ⟨os, ho, k', P', hol, hup, hall⟩
      refine ⟨rfl, _, rfl, _, rfl, _, rfl, (by show 2 ≤ sizeLine; decide), fun u hu => ?_⟩
      have hu' : (upd H' u (.tup [.int g, .int t])) u = some (.tup [.int g, .int t]) := upd_same
      refine ⟨u, _, rfl, .inr (SqT.of hu'), rfl, rfl, _, rfl, ?_⟩
      have kU : Kp p H' (upd H' u (.tup [.int g, .int t])) := Kp.new hu _
      have hmem : inV (.int (0 + (i : Int))) [.int g, .int t] = decide ((0 + (i : Int)) ∈ [g, t]) := mem_inV (ns := [g, t])
      have ho' := kU _ _ npo ho
      refine ite2 (fun c => ?_) (fun c => ?_)
      · have c' : ¬ ((0 + (i : Int)) ∈ [g, t]) := by
          have c1 : (!inV (.int (0 + (i : Int))) [.int g, .int t]) = true := c
          rw [hmem] at c1
          simpa using c1
        refine ⟨_, rfl, _, ho', small1000 (by rw [List.length_map]; omega), os ++ [0 + (i : Int)], ?_, fun b z n1 e => ?_, ?_, ?_, ?_, ?_⟩
        · rw [upd_same, List.map_append]
          rfl
        · have nb : b ≠ o := fun z' => by
            have e' := k12 _ _ n1 e
            rw [z', no] at e'
            cases e'
          rw [upd_ne nb]
          exact (k'.trans kU) _ _ n1 e
        · obtain ⟨x1, x2, x3, x4, z1, z2⟩ := P'.new hu (.tup [.int g, .int t])
          exact ⟨x1, x2, x3, x4, by rw [upd_ne npo.symm]; exact z1, z2⟩
        · rw [List.length_append]
          show os.length + 1 ≤ i + 1
          omega
        · refine List.pairwise_append.mpr ⟨hup, List.pairwise_singleton _ _, fun x hx y hy => ?_⟩
          rw [List.mem_singleton.mp hy]
          have := hall x hx
          omega
        · intro y hy
          rcases List.mem_append.mp hy with hy | hy
          · have := hall y hy
            refine ⟨this.1, by omega, this.2.2⟩
          · rw [List.mem_singleton.mp hy]
            simp only [List.mem_cons, List.not_mem_nil, or_false, not_or] at c'
            refine ⟨by omega, by omega, c'.1, c'.2⟩
      · exact ⟨os, ho', k'.trans kU, P'.new hu _, by omega, hup, fun y hy => by
          have := hall y hy
          exact ⟨this.1, by omega, this.2.2⟩⟩
    · rintro H' ⟨os, ho, k', P', hol, hup, hall⟩
      refine ⟨_, rfl, _, rfl, ?_⟩
      refine ⟨_, rfl, _, rfl, p, ld, 2, ds, rfl, P', SqL.of (k' _ _ nld hld), by decide, by decide, hdl, fun r rs ls H3 k3 P3 hr3 pm3 up3 ln3 => ?_⟩
      refine ⟨_, rfl, _, rfl, p, o, 3, os, rfl, P3, SqL.of (k3 _ _ npo ho), by decide, by decide, by omega, fun x ws ms H4 k4 P4 hr4 pm4 up4 ln4 => ?_⟩
      refine ⟨(by show 4 ≤ sizeLine; decide), fun a ha => ?_⟩
      have k5 : Kp p H4 (upd H4 a (.tup [.int g, .int t, .ref r, .ref x])) := Kp.new ha _
      have nd3 : rs.Nodup := (List.nodup_append.mp (pm3.nodup_iff.mpr hnd)).1
      have ndo : os.Nodup := hup.imp fun h => by omega
      have nd4 : ws.Nodup := (List.nodup_append.mp (pm4.nodup_iff.mpr ndo)).1
      refine q a r x g t rs ws _ (k'.trans (k3.trans (k4.trans k5))) (P4.new ha _) upd_same (k5.tup P4 _ _ (k4.tup P3 _ _ hr3)) (k5.tup P4 _ _ hr4) ⟨a1, b1⟩ ⟨t1, t2⟩ t3 (by omega) (rising_of nd3 up3) (fun y hy => pm3.mem_iff.mp (List.mem_append_left _ hy)) (by omega) (rising_of nd4 up4) fun y hy => ?_
      have hm := hall y (pm4.mem_iff.mp (List.mem_append_left _ hy))
      exact ⟨hm.1, by omega, hm.2.2⟩
end
end Deed

namespace Deed
open PySem PySem.Spec PyProof.Rows L2
def rLenS (K : PySem.W.Frag) : List V → Hp → VK → Prop := fun xs H Q => ∃ p ys, xs = [.ref p] ∧ (SqL K H p ys ∨ SqT K H p ys) ∧ Q (.int ys.length) H
section
variable {P : Program} {w : World} {K : PySem.W.Frag} {mg : Str → Option Value} {base : Heap} {fDr fFe fDy fDe : Addr} {dDr dFe dDy dDe : FuncData}
abbrev DeedD (K : PySem.W.Frag) (mg : Str → Option Value) := Df K mg "_law_deed" sDeed ["_law_pen_here", "_law_folk_here", "_law_deeds"]
/-! ### an entry -/
abbrev sEntry : Stmt := topS 34
abbrev nEntry : List Str := ["_law_pen_here", "_law_folk_here", "_law_number", "_law_deeds", "_law_acts", "_law_head", "_law_way", "_law_word"]
abbrev pEntry : List Str := ["_law_pen_here", "_law_folk_here", "_law_number", "_law_deeds", "_law_acts"]
theorem scEntry : FnScope nEntry pEntry (defScope sEntry) := ⟨rfl, rfl, rfl, by decide +kernel, rfl, by decide +kernel, by decide +kernel⟩
def spEntry (K : PySem.W.Frag) : Sp := fun vs H Q _ => ∃ (p fk ld la : Addr) (num : Int) (n : Nat) (ds as : List Int), vs = [.ref p, .ref fk, .int num, .ref ld, .ref la] ∧ PenAt H p ∧ FolkAt H fk n ∧ 2 ≤ n ∧ n ≤ 6 ∧ H ld = some (.lst (ds.map V.int)) ∧ ld ≠ p ∧ H la = some (.lst (as.map V.int)) ∧ la ≠ p ∧ ds.Nodup ∧ ds.length ≤ 1000 ∧ as.length ≤ 1000 ∧
  (∀ d ∈ ds, d < num) ∧ (∀ d ∈ as, d < num) ∧ ∀ a (e : En) H', Kp p H H' → PenAt H' p → EntAt H' a e → e.num = num → EnOk n ds as e → Q (.ref a) H'
theorem ok_entry {f : Addr} {fd : FuncData} {k : Nat} (F : Fun K "_law_entry" "_law_entry" sEntry f fd) (D : DrawD K mg fDr dDr) (DF : FewD K mg fFe dFe) (DY : DayD K mg fDy dDy) (DD : DeedD K mg fDe dDe) (B : Bi mg) : FnOk P w K mg base CX0 (k + 4) f fd pEntry (spEntry K) := by
  have G : FnOk P w K mg base CX0 (k + 1) fDr dDr ["_law_pen_here", "_law_bound"] spDraw := ok_draw D.F
  have GY : FnOk P w K mg base CX0 (k + 2) fDy dDy ["_law_pen_here"] spDay := ok_day DY.F D
  have GD : FnOk P w K mg base CX0 (k + 3) fDe dDe ["_law_pen_here", "_law_folk_here", "_law_deeds"] (spDeed K) := ok_deed DD.F D DF B
  refine F.ok scEntry (fun vs H Q E h => ?_) (fun cdv A outer s H vs Q E hr h => ?_)
  · obtain ⟨p, fk, ld, la, num, n, ds, as, rfl, _⟩ := h
    rfl
  · obtain ⟨p, fk, ld, la, num, n, ds, as, rfl, hP, hF, hn2, hn6, hld, nld, hla, nla, hnd, hdl, hal, hdn, han, q⟩ := h
    have hr1 : Room (k + 1) _ := hr.mono (by omega)
    have hr2 : Room (k + 2) _ := hr.mono (by omega)
    refine ⟨_, pss_cons (ps_set (i := 5) scEntry.nd rfl (.inl rfl) (pe_tup (pa_cons (pv 2) (pa_cons (pe_call GY hr2 (by rfl) DY.g DY.F.kp DY.b .nil pass0 (pa_cons (pv 0) pa_nil)) (pa_cons (pe_call GY hr2 (by rfl) DY.g DY.F.kp DY.b .nil pass0 (pa_cons (pv 0) pa_nil)) (pa_cons (pe_call G hr1 (by rfl) D.g D.F.kp D.b .nil pass0 (pa_cons (pv 0) (pa_cons pe_int pa_nil))) pa_nil))))))
      (pss_cons (ps_set (i := 6) scEntry.nd rfl (.inl rfl) (pe_call G hr1 (by rfl) D.g D.F.kp D.b .nil pass0 (pa_cons (pv 0) (pa_cons pe_int pa_nil))))
      (pss_cons (ps_if (PW.pt (pw_or (pt_cmpR (op_eqD hr.units) (pv 3) (pe_lst pa_nil) (nomark _)) (pw_or1 (pt_cmpR op_lt (pv 6) pe_int (nomark _)))))
        (pss_one (ps_ret (pe_op op_catT (pe_op op_catT (pv 5) (pe_tup (pa_cons pe_str pa_nil))) (pe_call GD hr (by rfl) DD.g DD.F.kp DD.b .nil pass0 (pa_cons (pv 0) (pa_cons (pv 1) (pa_cons (pv 3) pa_nil))))))) pss_nil)
      (pss_cons (ps_if (PW.pt (pw_or (pt_cmpR (op_eqD hr.units) (pv 4) (pe_lst pa_nil) (nomark _)) (pw_or1 (pt_cmpR op_lt (pv 6) pe_int (nomark _)))))
        (pss_cons (ps_set (i := 7) scEntry.nd rfl (.inl rfl) (pe_ix ix_list (pe_lst (pa_cons pe_str (pa_cons pe_str pa_nil))) (pe_call G hr1 (by rfl) D.g D.F.kp D.b .nil pass0 (pa_cons (pv 0) (pa_cons pe_int pa_nil))) (fun _ _ => rfl)))
        (pss_one (ps_ret (pe_op op_catT (pv 5) (pe_tup (pa_cons (pv 7) (pa_cons (pe_ix ix_list (pv 3) (pe_call G hr1 (by rfl) D.g D.F.kp D.b .nil pass0 (pa_cons (pv 0) (pa_cons (pe_callB call_len_seq (by rfl) B.len PySem.boot_len (pa_cons (pv 3) pa_nil)) pa_nil))) (fun _ _ => rfl)) pa_nil))))))) pss_nil)
      (pss_one (ps_ret (pe_op op_catT (pv 5) (pe_tup (pa_cons pe_str (pa_cons (pe_ix ix_list (pv 4) (pe_call G hr1 (by rfl) D.g D.F.kp D.b .nil pass0 (pa_cons (pv 0) (pa_cons (pe_callB call_len_seq (by rfl) B.len PySem.boot_len (pa_cons (pv 4) pa_nil)) pa_nil))) (fun _ _ => rfl)) pa_nil))))))))), ?_⟩
    -- head
    refine ⟨_, rfl, _, rfl, p, rfl, hP, fun v1 H1 k1 P1 a1 b1 => ?_⟩
    refine ⟨_, rfl, p, rfl, P1, fun v2 H2 k2 P2 a2 b2 => ?_⟩
    refine ⟨_, rfl, p, 4, rfl, P2, by decide, by decide, fun v3 H3 k3 P3 a3 b3 => ?_⟩
    refine ⟨(by show 4 ≤ sizeLine; decide), fun h hh => ?_⟩
    have kh : Kp p H3 (upd H3 h (.tup [.int num, .int v1, .int v2, .int v3])) := Kp.new hh _
    have Ph := P3.new hh (.tup [.int num, .int v1, .int v2, .int v3])
    have eh : (upd H3 h (.tup [.int num, .int v1, .int v2, .int v3])) h = some (.tup [.int num, .int v1, .int v2, .int v3]) := upd_same
    have kA : Kp p H (upd H3 h (.tup [.int num, .int v1, .int v2, .int v3])) := k1.trans (k2.trans (k3.trans kh))
    generalize (upd H3 h (.tup [.int num, .int v1, .int v2, .int v3])) = Hh at kh Ph eh kA
    -- way
    refine ⟨_, rfl, p, 12, rfl, Ph, by decide, by decide, fun way H4 k4 P4 a4 b4 => ?_⟩
    have kB := kA.trans k4
    have e4 := k4.tup Ph _ _ eh
    -- deeds == []
    refine ⟨_, rfl, Nat.zero_le _, fun z hz => ?_⟩
    have kz : Kp p H4 (upd H4 z (.lst [])) := Kp.new hz _
    have Pz := P4.new hz (.lst [])
    have ez : (upd H4 z (.lst [])) z = some (.lst []) := upd_same
    have ehz := kz.tup P4 _ _ e4
    have kC := kB.trans kz
    generalize (upd H4 z (.lst [])) = Hz at kz Pz ez ehz kC
    refine ⟨.list (ds.map .int), .list (([] : List Int).map .int), .lst (SqL.of (kC _ _ nld hld)) (dp_ints ds), .lst (SqL.of ez) (dp_ints []), shaped_ints ds, shaped_ints [], _, rfl, ?_⟩
    rw [eqv_ints]
    refine ite2 (fun c => ?dw1) (fun c => (⟨_, rfl, _, _, rfl, rfl, _, rfl, ite2 (fun c2 => ?dw2) (fun c2 => ?nx)⟩))
    case nx =>
      have hdne : ds ≠ [] := fun e0 => c (decide_eq_true e0)
      have hdpos : 0 < ds.length := List.length_pos_iff.mpr hdne
      refine ⟨_, rfl, Nat.zero_le _, fun y hy => ?_⟩
      have ky : Kp p Hz (upd Hz y (.lst [])) := Kp.new hy _
      have Py := Pz.new hy (.lst [])
      have ey : (upd Hz y (.lst [])) y = some (.lst []) := upd_same
      have ehy := ky.tup Pz _ _ ehz
      have kD := kC.trans ky
      generalize (upd Hz y (.lst [])) = Hy at ky Py ey ehy kD
      refine ⟨.list (as.map .int), .list (([] : List Int).map .int), .lst (SqL.of (kD _ _ nla hla)) (dp_ints as), .lst (SqL.of ey) (dp_ints []), shaped_ints as, shaped_ints [], _, rfl, ?_⟩
      rw [eqv_ints]
      refine ite2 (fun c3 => ?pv1) (fun c3 => (⟨_, rfl, _, _, rfl, rfl, _, rfl, ite2 (fun c4 => ?pv2) (fun c4 => ?un)⟩))
      case un =>
        have hane : as ≠ [] := fun e0 => c3 (decide_eq_true e0)
        have hapos : 0 < as.length := List.length_pos_iff.mpr hane
        have hml : (as.map V.int).length = as.length := List.length_map _
        refine ⟨_, rfl, _, rfl, _, rfl, _, rfl, la, _, rfl, .inl (SqL.of (kD _ _ nla hla)), p, _, rfl, Py, by omega, by omega, fun i H5 k5 P5 a5 b5 => ?_⟩
        rw [hml] at b5
        have hk : i.toNat < as.length := by omega
        refine ⟨la, _, i, .int as[i.toNat], rfl, rfl, SqL.of ((kD.trans k5) _ _ nla hla), at_of (j := i.toNat) (by omega) (by rw [List.getElem?_map, List.getElem?_eq_getElem hk] <;> rfl), (by show 2 ≤ sizeLine; decide), fun u hu => ?_⟩
        have ku : Kp p H5 (upd H5 u (.tup [.str "undone", .int as[i.toNat]])) := Kp.new hu _
        refine ⟨h, u, _, _, rfl, rfl, SqT.of (ku.tup P5 _ _ (k5.tup Py _ _ ehy)), SqT.of upd_same, List.cons_ne_nil _ _, (by show 6 ≤ sizeLine; decide), fun z0 => absurd z0 (List.cons_ne_nil _ _), fun _ t ht => ?_⟩
        refine q t ⟨num, v1, v2, v3, .act "undone" as[i.toNat]⟩ _ (kD.trans (k5.trans (ku.trans (Kp.new ht _)))) ((P5.new hu _).new ht _) upd_same rfl ?_
        exact ⟨⟨a1, b1⟩, ⟨a2, b2⟩, ⟨a3, by show v3 ≤ 3; omega⟩, .inl ⟨rfl, List.getElem_mem hk⟩, han _ (List.getElem_mem hk)⟩
      all_goals
        refine ⟨(by show 2 ≤ sizeLine; decide), fun m hm => ?_⟩
        refine ⟨_, rfl, p, 2, rfl, Py.new hm _, by decide, by decide, fun v5 H5 k5 P5 a5 b5 => ?_⟩
        obtain ⟨_, g5, x, rfl, hx⟩ := pick (xs := [.str "paid", .str "void"]) (fun y => ∃ x : Str, y = .str x ∧ (x = "paid" ∨ x = "void")) a5 b5 (am1 ⟨_, rfl, .inl rfl⟩ (am1 ⟨_, rfl, .inr rfl⟩ am0))
        refine ⟨m, _, v5, _, rfl, rfl, SqL.of (k5 _ _ (Py.free hm) upd_same), g5, ?_⟩
        have kE := kD.trans ((Kp.new hm _).trans k5)
        have eh5 := k5.tup (Py.new hm _) _ _ ((Kp.new (p := p) hm _).tup Py _ _ ehy)
        have hml : (ds.map V.int).length = ds.length := List.length_map _
        refine ⟨_, rfl, _, rfl, _, rfl, _, rfl, _, rfl, ld, _, rfl, .inl (SqL.of (kE _ _ nld hld)), p, _, rfl, P5, by omega, by omega, fun i H6 k6 P6 a6 b6 => ?_⟩
        rw [hml] at b6
        have hk : i.toNat < ds.length := by omega
        refine ⟨ld, _, i, .int ds[i.toNat], rfl, rfl, SqL.of ((kE.trans k6) _ _ nld hld), at_of (j := i.toNat) (by omega) (by rw [List.getElem?_map, List.getElem?_eq_getElem hk] <;> rfl), (by show 2 ≤ sizeLine; decide), fun u hu => ?_⟩
        have ku : Kp p H6 (upd H6 u (.tup [.str x, .int ds[i.toNat]])) := Kp.new hu _
        refine ⟨h, u, _, _, rfl, rfl, SqT.of (ku.tup P6 _ _ (k6.tup P5 _ _ eh5)), SqT.of upd_same, List.cons_ne_nil _ _, (by show 6 ≤ sizeLine; decide), fun z0 => absurd z0 (List.cons_ne_nil _ _), fun _ t ht => ?_⟩
        refine q t ⟨num, v1, v2, v3, .act x ds[i.toNat]⟩ _ (kE.trans (k6.trans (ku.trans (Kp.new ht _)))) ((P6.new hu _).new ht _) upd_same rfl ?_
        exact ⟨⟨a1, b1⟩, ⟨a2, b2⟩, ⟨a3, by show v3 ≤ 3; omega⟩, .inr ⟨hx, List.getElem_mem hk⟩, hdn _ (List.getElem_mem hk)⟩
    all_goals
      refine ⟨_, rfl, (by show 1 ≤ sizeLine; decide), fun u hu => ?_⟩
      have ku : Kp p Hz (upd Hz u (.tup [.str "deed"])) := Kp.new hu _
      refine ⟨h, u, _, _, rfl, rfl, SqT.of (ku.tup Pz _ _ ehz), SqT.of upd_same, List.cons_ne_nil _ _, (by show 5 ≤ sizeLine; decide), fun z0 => absurd z0 (List.cons_ne_nil _ _), fun _ t ht => ?_⟩
      have Pu := Pz.new hu (.tup [.str "deed"])
      have kt : Kp p (upd Hz u (.tup [.str "deed"])) (upd (upd Hz u (.tup [.str "deed"])) t (.tup ([.int num, .int v1, .int v2, .int v3] ++ [.str "deed"]))) := Kp.new ht _
      have Pt := Pu.new ht (.tup ([.int num, .int v1, .int v2, .int v3] ++ [.str "deed"]))
      have kE := kC.trans (ku.trans kt)
      refine ⟨_, rfl, _, rfl, _, rfl, p, fk, ld, n, ds, rfl, Pt, hF.kp kE hP, hn2, hn6, kE _ _ nld hld, nld, hnd, hdl, fun a r x g tk rs ws H6 k6 P6 ea er ex hg htk hgt hrl hrp hrd hwl hwp hw => ?_⟩
      have et6 := k6.tup Pt _ _ (upd_same (H := upd Hz u (.tup [.str "deed"])) (a := t))
      refine ⟨t, a, _, _, rfl, rfl, SqT.of et6, SqT.of ea, List.cons_ne_nil _ _, (by show 9 ≤ sizeLine; decide), fun z0 => absurd z0 (List.cons_ne_nil _ _), fun _ b hb => ?_⟩
      have kb : Kp p H6 (upd H6 b (.tup (([.int num, .int v1, .int v2, .int v3] ++ [.str "deed"]) ++ [.int g, .int tk, .ref r, .ref x]))) := Kp.new hb _
      refine q b ⟨num, v1, v2, v3, .deed g tk rs ws⟩ _ (kE.trans (k6.trans kb)) (P6.new hb _) ⟨r, x, upd_same, kb.tup P6 _ _ er, kb.tup P6 _ _ ex⟩ rfl ?_
      exact ⟨⟨a1, b1⟩, ⟨a2, b2⟩, ⟨a3, by show v3 ≤ 3; omega⟩, hg, htk, hgt, hrl, hrp, fun y hy => ⟨hrd y hy, hdn _ (hrd y hy)⟩, hwl, hwp, hw⟩
/-! ### in another order -/
abbrev sMixed : Stmt := topS 35
abbrev nMixed : List Str := ["_law_pen_here", "_law_some", "_law_left", "_law_k"]
theorem scMixed : FnScope nMixed ["_law_pen_here", "_law_some"] (defScope sMixed) := ⟨rfl, rfl, rfl, by decide +kernel, rfl, by decide +kernel, by decide +kernel⟩
def spMixed (K : PySem.W.Frag) : Sp := fun vs H Q _ => ∃ (p a : Addr) (xs : List V), vs = [.ref p, .ref a] ∧ PenAt H p ∧ (SqL K H a xs ∨ SqT K H a xs) ∧ xs.length ≤ 1000 ∧
  ∀ l (ys : List V) H', Kp p H H' → PenAt H' p → H l = none → H' l = some (.lst ys) → ys.Perm xs → Q (.ref l) H'
theorem ok_mixed {f : Addr} {fd : FuncData} {k : Nat} (F : Fun K "_law_mixed" "_law_mixed" sMixed f fd) (D : DrawD K mg fDr dDr) (B : Bi mg) : FnOk P w K mg base CX0 (k + 2) f fd ["_law_pen_here", "_law_some"] (spMixed K) := by
  have G : FnOk P w K mg base CX0 (k + 1) fDr dDr ["_law_pen_here", "_law_bound"] spDraw := ok_draw D.F
  refine F.ok scMixed (fun vs H Q E h => ?_) (fun cdv A outer s H vs Q E hr h => ?_)
  · obtain ⟨p, a, xs, rfl, _⟩ := h
    rfl
  · obtain ⟨p, a, xs, rfl, hP, hS, hxl, q⟩ := h
    refine ⟨_, pss_cons (ps_set (i := 2) scMixed.nd rfl (.inr rfl) (pe_callTy call_list_of (by rfl) B.list (by decide +kernel) (pa_cons (pv 1) pa_nil)))
      (pss_one (ps_ret (pe_lc (own := [("_law_k", 3)]) (g := gName 3) (by rfl) scMixed.nd (pi_range1 (by rfl) B.range (pa_cons (pe_callB call_len_seq (by rfl) B.len PySem.boot_len (pa_cons (pv 2) pa_nil)) pa_nil)) (blkOk_by (own := [("_law_k", 3)]) (N := nMixed) (sc := defScope sMixed) (by decide +kernel)) (fun _ _ _ _ _ => pg_name (i := 3) scMixed.nd rfl (Or.inl rfl)) (fun _ _ _ _ _ => pts_nil)
        (fun _ _ _ _ _ => show PE _ _ (tBM K "list" rPopAt (tVar 2) (tCons (tCall spDraw [] E0 (tCons (tVar 0) (tCons (tCB (rLenS K) (tCons (tVar 2) tNil)) tNil))) tNil)) from pe_bm PySem.F.plainAttrs_list PySem.F.slot_list_pop PySem.F.type_list_pop mt_popAt (pv 2) (pa_cons (pe_call G hr (by rfl) D.g D.F.kp D.b .nil pass0 (pa_cons (pv 0) (pa_cons (pe_callB call_len_seq (by rfl) B.len PySem.boot_len (pa_cons (pv 2) pa_nil)) pa_nil))) pa_nil))))), ?_⟩
    refine ⟨_, rfl, a, _, rfl, hS, fun l hl => ?_⟩
    have nl : l ≠ p := hP.free hl
    have el : (upd H l (.lst xs)) l = some (.lst xs) := upd_same
    refine ⟨_, rfl, l, xs, rfl, .inl (SqL.of el), _, rfl, by omega, by omega, fun o no => ?_⟩
    have no' : o ≠ p := (hP.new hl _).free no
    have nlo : l ≠ o := fun z => by
      rw [← z, el] at no
      cases no
    have hno : H o = none := by
      rw [upd_ne nlo.symm] at no
      exact no
    refine lc_range (lo := 0) (n := ((xs.length : Nat) : Int).toNat) (fun i H' => ∃ ys ls : List V, H' o = some (.lst ys) ∧ H' l = some (.lst ls) ∧ Kp p H H' ∧ PenAt H' p ∧ ys.length = i ∧ (ys ++ ls).Perm xs)
      ⟨[], xs, upd_same, by rw [upd_ne nlo]; exact el, (Kp.new hl _).trans (Kp.new no _), (hP.new hl _).new no _, rfl, List.Perm.refl _⟩ ?_ ?_
    · rintro i H' hi ⟨ys, ls, e1, e2, k', P', hyl, hpm⟩
      have hll : ls.length = xs.length - i := by
        have := hpm.length_eq
        rw [List.length_append] at this
        omega
      refine ⟨rfl, ?_⟩
      unfold tYes
      dsimp only
      rw [if_pos rfl]
      refine ⟨_, rfl, .inl ⟨rfl, _, SqL.of e2⟩, _, rfl, _, rfl, l, ls, rfl, .inl (SqL.of e2), p, _, rfl, P', by omega, by omega, fun v2 H2 k2 P2 a2 b2 => ?_⟩
      have e1' := k2 _ _ no' e1
      have e2' := k2 _ _ nl e2
      have hk : v2.toNat < ls.length := by omega
      refine ⟨l, _, v2, v2.toNat, ls[v2.toNat], rfl, rfl, e2', by omega, by omega, seqIx a2 (by omega), List.getElem?_eq_getElem hk, ?_⟩
      refine ⟨ys, by rw [upd_ne nlo.symm]; exact e1', small1000 (by omega), ys ++ [ls[v2.toNat]], ls.eraseIdx v2.toNat, upd_same, by rw [upd_ne nlo, upd_same], fun b z n1 e => ?_, ?_, ?_, ?_⟩
      · rw [upd_ne (ne_of_none e hno), upd_ne (ne_of_none e hl)]
        exact (k'.trans k2) _ _ n1 e
      · obtain ⟨x1, x2, x3, x4, z1, z2⟩ := P2
        exact ⟨x1, x2, x3, x4, by rw [upd_ne no'.symm, upd_ne nl.symm]; exact z1, z2⟩
      · rw [List.length_append, hyl]
        rfl
      · have h1 : (ls[v2.toNat] :: ls.eraseIdx v2.toNat).Perm ls := perm_erase (List.getElem?_eq_getElem hk)
        refine List.Perm.trans ?_ hpm
        rw [List.append_assoc]
        exact List.Perm.append_left ys h1
    · rintro H' ⟨ys, ls, e1, e2, k', P', hyl, hpm⟩
      refine q o ys H' k' P' hno e1 ?_
      have h0 : ls = [] := by
        have := hpm.length_eq
        rw [List.length_append] at this
        exact List.length_eq_zero_iff.mp (by omega)
      rw [h0, List.append_nil] at hpm
      exact hpm
end
end Deed

namespace Deed
open PySem PySem.Spec PyProof.Rows L2
theorem perm_pairs {α β : Type} (f : α → β) {ys xs : List β} (h : ys.Perm xs) : ∀ zs : List α, xs = zs.map f → ∃ zs' : List α, ys = zs'.map f ∧ zs'.Perm zs := by
  induction h with
  | nil =>
    intro zs e
    cases zs with
    | nil => exact ⟨[], rfl, List.Perm.refl _⟩
    | cons z r => cases e
  | cons x _ ih =>
    intro zs e
    cases zs with
    | nil => cases e
    | cons z r =>
      rw [List.map_cons] at e
      injection e with e1 e2
      obtain ⟨zs', h1, h2⟩ := ih r e2
      exact ⟨z :: zs', by rw [List.map_cons, ← h1, e1], h2.cons z⟩
  | swap x y l =>
    intro zs e
    match zs, e with
    | [], e => cases e
    | [_], e => cases e
    | a :: b :: r, e =>
      rw [List.map_cons, List.map_cons] at e
      injection e with e1 e2
      injection e2 with e2 e3
      exact ⟨b :: a :: r, by rw [List.map_cons, List.map_cons, ← e1, ← e2, ← e3], List.Perm.swap _ _ _⟩
  | trans _ _ ih1 ih2 =>
    intro zs e
    obtain ⟨z1, h1, h2⟩ := ih2 zs e
    obtain ⟨z2, h3, h4⟩ := ih1 z1 h1
    exact ⟨z2, h3, h4.trans h2⟩
def dn (es : List En) : List Int := (es.filter (·.isDeed)).map (·.num)
def an (es : List En) : List Int := (es.filter (fun e => !e.isDeed)).map (·.num)
theorem dn_snoc (es : List En) (e : En) : dn (es ++ [e]) = dn es ++ (if e.isDeed then [e.num] else []) := by
  unfold dn
  rw [List.filter_append, List.map_append]
  cases h : e.isDeed <;> simp [List.filter, h]
theorem an_snoc (es : List En) (e : En) : an (es ++ [e]) = an es ++ (if e.isDeed then [] else [e.num]) := by
  unfold an
  rw [List.filter_append, List.map_append]
  cases h : e.isDeed <;> simp [List.filter, h]
theorem dn_sub (es : List En) : ∀ x ∈ dn es, x ∈ es.map (·.num) := fun x hx => by
  obtain ⟨e, he, rfl⟩ := List.mem_map.mp hx
  exact List.mem_map.mpr ⟨e, (List.mem_filter.mp he).1, rfl⟩
theorem an_sub (es : List En) : ∀ x ∈ an es, x ∈ es.map (·.num) := fun x hx => by
  obtain ⟨e, he, rfl⟩ := List.mem_map.mp hx
  exact List.mem_map.mpr ⟨e, (List.mem_filter.mp he).1, rfl⟩
theorem dn_nodup {es : List En} (h : (es.map (fun e => e.num)).Nodup) : (dn es).Nodup := by
  have h1 : (es.filter (fun e => e.isDeed)).Sublist es := List.filter_sublist
  exact (h1.map (fun e => e.num)).nodup h
theorem dn_len (es : List En) : (dn es).length ≤ es.length := by
  unfold dn
  rw [List.length_map]
  exact List.length_filter_le _ _
theorem an_len (es : List En) : (an es).length ≤ es.length := by
  unfold an
  rw [List.length_map]
  exact List.length_filter_le _ _
theorem mem_dn {es : List En} {x : Int} : x ∈ dn es ↔ ∃ e ∈ es, e.isDeed = true ∧ e.num = x := by
  unfold dn
  simp only [List.mem_map, List.mem_filter]
  constructor
  · rintro ⟨e, ⟨h1, h2⟩, h3⟩
    exact ⟨e, h1, h2, h3⟩
  · rintro ⟨e, h1, h2, h3⟩
    exact ⟨e, ⟨h1, h2⟩, h3⟩
theorem mem_an {es : List En} {x : Int} : x ∈ an es ↔ ∃ e ∈ es, e.isDeed = false ∧ e.num = x := by
  unfold an
  simp only [List.mem_map, List.mem_filter, Bool.not_eq_true']
  constructor
  · rintro ⟨e, ⟨h1, h2⟩, h3⟩
    exact ⟨e, h1, h2, h3⟩
  · rintro ⟨e, h1, h2, h3⟩
    exact ⟨e, ⟨h1, h2⟩, h3⟩
/-- entries of a book of n folk -/
structure BkOk (n : Nat) (es : List En) : Prop where
  nd : (es.map (·.num)).Nodup
  rng : ∀ e ∈ es, 0 ≤ e.num ∧ e.num ≤ 30
  ok : ∀ e ∈ es, EnOk n (dn es) (an es) e
theorem BkOk.perm {n : Nat} {es es' : List En} (h : BkOk n es) (p : es'.Perm es) : BkOk n es' := by
  refine ⟨(p.map _).nodup_iff.mpr h.nd, fun e he => h.rng e (p.mem_iff.mp he), fun e he => (h.ok e (p.mem_iff.mp he)).mono (fun x hx => ?_) fun x hx => ?_⟩
  · obtain ⟨e', h1, h2⟩ := mem_dn.mp hx
    exact mem_dn.mpr ⟨e', p.mem_iff.mpr h1, h2⟩
  · obtain ⟨e', h1, h2⟩ := mem_an.mp hx
    exact mem_an.mpr ⟨e', p.mem_iff.mpr h1, h2⟩
def En.word (e : En) : Str := match e.kd with
  | .deed _ _ _ _ => "deed"
  | .act x _ => x
theorem EnOk.word {n : Nat} {ds as : List Int} {e : En} (h : EnOk n ds as e) : e.word = "deed" ↔ e.isDeed = true := by
  unfold En.word En.isDeed
  cases hk : e.kd with
  | deed g t rs ws => simp
  | act x o =>
    have h4 := h.2.2.2
    rw [hk] at h4
    simp only [Bool.false_eq_true, iff_false]
    rcases h4.1 with ⟨z, _⟩ | ⟨z | z, _⟩ <;> rw [z] <;> decide
/-- the first places of an entry -/
theorem EntAt.tup {H : Hp} {a : Addr} {e : En} (h : EntAt H a e) : ∃ xs, H a = some (.tup xs) ∧ atI xs 0 = some (.int e.num) ∧ atI xs 1 = some (.int e.day) ∧ atI xs 2 = some (.int e.wri) ∧ atI xs 3 = some (.int e.hand) ∧ atI xs 4 = some (.str e.word) := by
  unfold EntAt at h
  unfold En.word
  cases hk : e.kd with
  | deed g t rs ws =>
    rw [hk] at h
    obtain ⟨r, w, h1, _⟩ := h
    exact ⟨_, h1, atI_nat (j := 0) rfl, atI_nat (j := 1) rfl, atI_nat (j := 2) rfl, atI_nat (j := 3) rfl, atI_nat (j := 4) rfl⟩
  | act x o =>
    rw [hk] at h
    exact ⟨_, h, atI_nat (j := 0) rfl, atI_nat (j := 1) rfl, atI_nat (j := 2) rfl, atI_nat (j := 3) rfl, atI_nat (j := 4) rfl⟩
theorem FolkAt.kpT {H H' : Hp} {t : Addr} {n : Nat} (h : FolkAt H t n) (k : KpT H H') : FolkAt H' t n := by
  obtain ⟨xs, h1, h2, h3⟩ := h
  refine ⟨xs, k _ _ h1, h2, fun x hx => ?_⟩
  obtain ⟨a, b, d, e, h4, r⟩ := h3 x hx
  exact ⟨a, b, d, e, k _ _ h4, r⟩
theorem KpT.lst {H : Hp} {l : Addr} {xs : List V} (e : H l = some (.lst xs)) (o : HO) : KpT H (upd H l o) := fun b ys h => by
  have nb : b ≠ l := fun z => by
    rw [z, e] at h
    cases h
  rw [upd_ne nb]
  exact h
theorem KpT.refl (H : Hp) : KpT H H := fun _ _ h => h
theorem Kp.over {p l : Addr} {H H' : Hp} (k : Kp p H H') (n : H l = none) (o : HO) : Kp p H (upd H' l o) := fun b u n1 e => by
  rw [upd_ne (ne_of_none e n)]
  exact k _ _ n1 e
theorem PenAt.put {p l : Addr} {H : Hp} (h : PenAt H p) (n : l ≠ p) (o : HO) : PenAt (upd H l o) p := by
  obtain ⟨x1, x2, x3, x4, z1, z2⟩ := h
  exact ⟨x1, x2, x3, x4, by rw [upd_ne n.symm]; exact z1, z2⟩
abbrev refs (zs : List (Addr × En)) : List V := zs.map fun z => .ref z.1
abbrev ens (zs : List (Addr × En)) : List En := zs.map (·.2)
/-- a book at b -/
structure BookAt (H : Hp) (b fk t : Addr) (n : Nat) (age : Int) (zs : List (Addr × En)) : Prop where
  at_ : H b = some (.tup [.ref fk, .int age, .ref t])
  folk : FolkAt H fk n
  n2 : 2 ≤ n
  n6 : n ≤ 6
  age0 : 0 ≤ age
  age1 : age ≤ 9999
  ents : H t = some (.tup (refs zs))
  ent : ∀ z ∈ zs, EntAt H z.1 z.2
  ok : BkOk n (ens zs)
  len : zs.length ≤ 16
theorem BookAt.kp {H H' : Hp} {b fk t : Addr} {n : Nat} {age : Int} {zs : List (Addr × En)} (h : BookAt H b fk t n age zs) (k : KpT H H') : BookAt H' b fk t n age zs :=
  ⟨k _ _ h.at_, h.folk.kpT k, h.n2, h.n6, h.age0, h.age1, k _ _ h.ents, fun z hz => (h.ent z hz).kp k, h.ok, h.len⟩
section
variable {P : Program} {w : World} {K : PySem.W.Frag} {mg : Str → Option Value} {base : Heap} {fDr fFe fDy fDe fEn fFo fMi : Addr} {dDr dFe dDy dDe dEn dFo dMi : FuncData}
abbrev EntryD (K : PySem.W.Frag) (mg : Str → Option Value) := Df K mg "_law_entry" sEntry pEntry
abbrev FolkD (K : PySem.W.Frag) (mg : Str → Option Value) := Df K mg "_law_folk" sFolk ["_law_pen_here", "_law_least"]
abbrev MixedD (K : PySem.W.Frag) (mg : Str → Option Value) := Df K mg "_law_mixed" sMixed ["_law_pen_here", "_law_some"]
/-! ### a book -/
abbrev sBook : Stmt := topS 36
abbrev nBook : List Str := ["_law_pen_here", "_law_most", "_law_folk_here", "_law_number", "_law_deeds", "_law_acts", "_law_found", "_law_k", "_law_entry_here"]
theorem scBook : FnScope nBook ["_law_pen_here", "_law_most"] (defScope sBook) := ⟨rfl, rfl, rfl, by decide +kernel, rfl, by decide +kernel, by decide +kernel⟩
def spBook : Sp := fun vs H Q _ => ∃ (p : Addr) (most : Int), vs = [.ref p, .int most] ∧ PenAt H p ∧ 0 ≤ most ∧ most ≤ 16 ∧
  ∀ b fk t n age zs H', Kp p H H' → PenAt H' p → BookAt H' b fk t n age zs → (zs.length : Int) ≤ most → Q (.ref b) H'
theorem ok_book {f : Addr} {fd : FuncData} {k : Nat} (F : Fun K "_law_book" "_law_book" sBook f fd) (D : DrawD K mg fDr dDr) (DF : FewD K mg fFe dFe) (DY : DayD K mg fDy dDy) (DD : DeedD K mg fDe dDe) (DE : EntryD K mg fEn dEn) (DO : FolkD K mg fFo dFo) (DM : MixedD K mg fMi dMi) (B : Bi mg) :
    FnOk P w K mg base CX0 (k + 5) f fd ["_law_pen_here", "_law_most"] spBook := by
  have G : FnOk P w K mg base CX0 (k + 1) fDr dDr ["_law_pen_here", "_law_bound"] spDraw := ok_draw D.F
  have GE : FnOk P w K mg base CX0 (k + 4) fEn dEn pEntry (spEntry K) := ok_entry DE.F D DF DY DD B
  have GO : FnOk P w K mg base CX0 (k + 2) fFo dFo ["_law_pen_here", "_law_least"] spFolk := ok_folk DO.F D B.range B.min B.tuple
  have GM : FnOk P w K mg base CX0 (k + 2) fMi dMi ["_law_pen_here", "_law_some"] (spMixed K) := ok_mixed DM.F D B
  refine F.ok scBook (fun vs H Q E h => ?_) (fun cdv A outer s H vs Q E hr h => ?_)
  · obtain ⟨p, m, rfl, _⟩ := h
    rfl
  · obtain ⟨p, most, rfl, hP, hm0, hm1, q⟩ := h
    have hr1 : Room (k + 1) _ := hr.mono (by omega)
    have hr2 : Room (k + 2) _ := hr.mono (by omega)
    refine ⟨_, pss_cons (ps_par (i := 2) (j := 3) (by rfl) scBook.nd rfl rfl (by decide) rfl rfl (pa_cons (pe_call GO hr2 (by rfl) DO.g DO.F.kp DO.b .nil pass0 (pa_cons (pv 0) (pa_cons pe_int pa_nil))) (pa_cons (pe_call G hr1 (by rfl) D.g D.F.kp D.b .nil pass0 (pa_cons (pv 0) (pa_cons pe_int pa_nil))) pa_nil)) (by rfl))
      (pss_cons (ps_par3 (i := 4) (j := 5) (l := 6) (by rfl) scBook.nd rfl rfl rfl (by decide) (by decide) (by decide) rfl rfl rfl (pa_cons (pe_lst pa_nil) (pa_cons (pe_lst pa_nil) (pa_cons (pe_lst pa_nil) pa_nil))) (by rfl))
      (pss_cons (ps_for PassesOwn.never rfl (pi_range1 rfl B.range (pa_cons (pe_call G hr1 (by rfl) D.g D.F.kp D.b .nil pass0 (pa_cons (pv 0) (pa_cons (pe_op op_add (pv 1) pe_int) pa_nil))) pa_nil)) (pg_name (i := 7) scBook.nd rfl (.inl rfl))
        (pss_cons (ps_set (i := 8) scBook.nd rfl (.inl rfl) (pe_call GE hr (by rfl) DE.g DE.F.kp DE.b .nil pass0 (pa_cons (pv 0) (pa_cons (pv 2) (pa_cons (pv 3) (pa_cons (pv 4) (pa_cons (pv 5) pa_nil)))))))
        (pss_cons (ps_expr (pe_bm PySem.F.plainAttrs_list PySem.F.slot_list_append PySem.F.type_list_append mt_append (pv 6) (pa_cons (pv 8) pa_nil)))
        (pss_cons (ps_if (pt_cmpR op_eq (pe_ix ix_tup (pv 8) pe_int (fun _ _ => rfl)) pe_str (nomark _))
            (pss_one (ps_expr (pe_bm PySem.F.plainAttrs_list PySem.F.slot_list_append PySem.F.type_list_append mt_append (pv 4) (pa_cons (pv 3) pa_nil))))
            (pss_one (ps_expr (pe_bm PySem.F.plainAttrs_list PySem.F.slot_list_append PySem.F.type_list_append mt_append (pv 5) (pa_cons (pv 3) pa_nil)))))
        (pss_one (ps_set (i := 3) scBook.nd rfl (.inl rfl) (pe_op op_add (pe_op op_add (pv 3) pe_int) (pe_ix ix_list (pe_lst (pa_cons pe_int (pa_cons (pe_call G hr1 (by rfl) D.g D.F.kp D.b .nil pass0 (pa_cons (pv 0) (pa_cons pe_int pa_nil))) pa_nil))) (pe_callTy call_int1 (by rfl) B.int (by decide +kernel) (pa_cons (pe_cmpR op_lt (pv 3) (pe_op op_add pe_int (pv 7)) (nomark _)) pa_nil)) (fun _ _ => rfl)))))))))
      (pss_one (ps_ret (pe_tup (pa_cons (pv 2) (pa_cons (pe_call G hr1 (by rfl) D.g D.F.kp D.b .nil pass0 (pa_cons (pv 0) (pa_cons pe_int pa_nil))) (pa_cons (pe_callTy call_tuple_of (by rfl) B.tuple (by decide +kernel) (pa_cons (pe_call GM hr2 (by rfl) DM.g DM.F.kp DM.b .nil pass0 (pa_cons (pv 0) (pa_cons (pv 6) pa_nil))) pa_nil)) pa_nil)))))))), ?_⟩
    refine ⟨_, rfl, p, 2, rfl, hP, by decide, by decide, fun fk n H1 k1 P1 F1 hn2 hn6 => ?_⟩
    have hn2' : 2 ≤ n := by omega
    refine ⟨_, rfl, p, 3, rfl, P1, by decide, by decide, fun num0 H2 k2 P2 a2 b2 => ⟨_, _, rfl, ?_⟩⟩
    have F2 := F1.kp k2 P1
    have k12 := k1.trans k2
    refine ⟨Nat.zero_le _, fun ld hld => ?_⟩
    have nld : ld ≠ p := P2.free hld
    have hldH : H ld = none := by
      cases z : H ld with
      | none => rfl
      | some o => rw [k12 _ _ nld z] at hld; cases hld
    refine ⟨Nat.zero_le _, fun la hla => ?_⟩
    have Pd := P2.new hld (.lst [])
    have nla : la ≠ p := Pd.free hla
    have nda : ld ≠ la := fun z => by
      rw [← z, upd_same] at hla
      cases hla
    have hlaH : H la = none := by
      cases z : H la with
      | none => rfl
      | some o =>
        rw [upd_ne nda.symm, k12 _ _ nla z] at hla
        cases hla
    refine ⟨Nat.zero_le _, fun lf hlf => ⟨_, _, _, rfl, ?_⟩⟩
    have Pa := Pd.new hla (.lst [])
    have nlf : lf ≠ p := Pa.free hlf
    have naf : la ≠ lf := fun z => by
      rw [← z, upd_same] at hlf
      cases hlf
    have ndf : ld ≠ lf := fun z => by
      rw [← z, upd_ne nda, upd_same] at hlf
      cases hlf
    have hlfH : H lf = none := by
      cases z : H lf with
      | none => rfl
      | some o =>
        rw [upd_ne naf.symm, upd_ne ndf.symm, k12 _ _ nlf z] at hlf
        cases hlf
    have k3 : Kp p H2 (upd (upd (upd H2 ld (.lst [])) la (.lst [])) lf (.lst [])) := ((Kp.new hld _).trans (Kp.new hla _)).trans (Kp.new hlf _)
    have P3 := Pa.new hlf (.lst [])
    have e3d : (upd (upd (upd H2 ld (.lst [])) la (.lst [])) lf (.lst [])) ld = some (.lst []) := by rw [upd_ne ndf, upd_ne nda, upd_same]
    have e3a : (upd (upd (upd H2 ld (.lst [])) la (.lst [])) lf (.lst [])) la = some (.lst []) := by rw [upd_ne naf, upd_same]
    have e3f : (upd (upd (upd H2 ld (.lst [])) la (.lst [])) lf (.lst [])) lf = some (.lst []) := upd_same
    generalize (upd (upd (upd H2 ld (.lst [])) la (.lst [])) lf (.lst [])) = H3 at k3 P3 e3d e3a e3f
    refine ⟨_, rfl, _, rfl, _, _, rfl, rfl, p, most + 1, rfl, P3, by omega, by omega, fun many H4 k4 P4 a4 b4 => ?_⟩
    refine ⟨_, rfl, by omega, by omega, ?_⟩
    refine for_range (lo := 0) (n := many.toNat) (fun i σ H' => ∃ y7 y8, ∃ (num : Int) (zs : List (Addr × En)), σ = [some (.ref p), some (.int most), some (.ref fk), some (.int num), some (.ref ld), some (.ref la), some (.ref lf), y7, y8] ∧ Kp p H H' ∧ PenAt H' p ∧ FolkAt H' fk n ∧
        H' ld = some (.lst ((dn (ens zs)).map V.int)) ∧ H' la = some (.lst ((an (ens zs)).map V.int)) ∧ H' lf = some (.lst (refs zs)) ∧ (∀ z ∈ zs, EntAt H' z.1 z.2) ∧ zs.length = i ∧ BkOk n (ens zs) ∧ (∀ e ∈ ens zs, e.num < num) ∧ 0 ≤ num ∧ num ≤ 15 + (i : Int))
      ⟨none, none, num0, [], rfl, k12.trans (k3.trans k4), P4, (F2.kp k3 P2).kp k4 P3, k4 _ _ nld e3d, k4 _ _ nla e3a, k4 _ _ nlf e3f, (fun _ h => nomatch h), rfl, ⟨List.nodup_nil, (fun _ h => nomatch h), (fun _ h => nomatch h)⟩, (fun _ h => nomatch h), a2, by omega⟩ ?_ ?_
    · rintro i σ H' hi ⟨y7, y8, num, zs, rfl, k', P', F', ed, ea, ef, hent, hlen, hok, hlt, hn0, hn1⟩
      have hel : (ens zs).length = i := by rw [List.length_map, hlen]
      have hdl := dn_len (ens zs)
      have hal := an_len (ens zs)
      -- entry_here
      refine ⟨_, rfl, _, rfl, _, rfl, _, rfl, _, rfl, p, fk, ld, la, num, n, dn (ens zs), an (ens zs), rfl, P', F', hn2', hn6, ed, nld, ea, nla, dn_nodup hok.nd, by omega, by omega, fun d hd => ?_, fun d hd => ?_, fun a e H5 k5 P5 E5 hnum hEn => ?_⟩
      · obtain ⟨e, he, rfl⟩ := List.mem_map.mp (dn_sub _ _ hd)
        exact hlt e he
      · obtain ⟨e, he, rfl⟩ := List.mem_map.mp (an_sub _ _ hd)
        exact hlt e he
      have kT5 := k5.tup P'
      have ed5 := k5 _ _ nld ed
      have ea5 := k5 _ _ nla ea
      have ef5 := k5 _ _ nlf ef
      -- found.append
      refine ⟨_, rfl, .inl ⟨rfl, _, SqL.of ef5⟩, _, rfl, lf, _, _, rfl, rfl, ef5, small1000 (by rw [List.length_map]; omega), ?_⟩
      have kT6 := KpT.lst ef5 (.lst (refs zs ++ [.ref a]))
      have P6 := P5.put nlf (.lst (refs zs ++ [.ref a]))
      have k6 := (k'.trans k5).over hlfH (.lst (refs zs ++ [.ref a]))
      have ed6 := (show (upd H5 lf (.lst (refs zs ++ [.ref a]))) ld = H5 ld from upd_ne ndf).trans ed5
      have ea6 := (show (upd H5 lf (.lst (refs zs ++ [.ref a]))) la = H5 la from upd_ne naf).trans ea5
      have ef6 := (show (upd H5 lf (.lst (refs zs ++ [.ref a]))) lf = some (.lst (refs zs ++ [.ref a])) from upd_same)
      have E6 := E5.kp kT6
      have hent6 : ∀ z ∈ zs, EntAt (upd H5 lf (.lst (refs zs ++ [.ref a]))) z.1 z.2 := fun z hz => ((hent z hz).kp kT5).kp kT6
      have F6 := (F'.kpT kT5).kpT kT6
      generalize (upd H5 lf (.lst (refs zs ++ [.ref a]))) = H6 at kT6 P6 k6 ed6 ea6 ef6 E6 hent6 F6
      obtain ⟨xs6, ex6, _, _, _, _, g4⟩ := E6.tup
      refine ⟨_, rfl, a, xs6, 4, _, rfl, rfl, SqT.of ex6, g4, rfl, _, rfl, ?_⟩
      have okE : BkOk n (ens zs ++ [e]) := by
        have hd : ∀ x ∈ dn (ens zs), x ∈ dn (ens zs ++ [e]) := fun x hx => by rw [dn_snoc]; exact List.mem_append_left _ hx
        have ha : ∀ x ∈ an (ens zs), x ∈ an (ens zs ++ [e]) := fun x hx => by rw [an_snoc]; exact List.mem_append_left _ hx
        refine ⟨?_, fun e' he' => ?_, fun e' he' => ?_⟩
        · rw [List.map_append]
          refine List.nodup_append.mpr ⟨hok.nd, List.pairwise_singleton _ _, fun x hx y hy => ?_⟩
          obtain ⟨e', he', rfl⟩ := List.mem_map.mp hx
          have hy' : y = e.num := by simpa using hy
          rw [hy', hnum]
          exact Int.ne_of_lt (hlt e' he')
        · rcases List.mem_append.mp he' with he' | he'
          · exact hok.rng e' he'
          · rw [List.mem_singleton.mp he', hnum]
            omega
        · rcases List.mem_append.mp he' with he' | he'
          · exact (hok.ok e' he').mono hd ha
          · rw [List.mem_singleton.mp he']
            exact hEn.mono hd ha
      have wd := hEn.word
      -- the last row of a turn
      refine ite2 (fun c => ?deed) (fun c => ?act)
      case deed =>
        have hd : e.isDeed = true := wd.mp (by
          have := of_decide_eq_true c
          injection this)
        refine ⟨_, rfl, .inl ⟨rfl, _, SqL.of ed6⟩, _, rfl, ld, _, _, rfl, rfl, ed6, small1000 (by rw [List.length_map]; omega), ?_⟩
        have kT7 := KpT.lst ed6 (.lst ((dn (ens zs)).map V.int ++ [.int num]))
        have P7 := P6.put nld (.lst ((dn (ens zs)).map V.int ++ [.int num]))
        have k7 := k6.over hldH (.lst ((dn (ens zs)).map V.int ++ [.int num]))
        have ea7 := (show (upd H6 ld (.lst ((dn (ens zs)).map V.int ++ [.int num]))) la = H6 la from upd_ne nda.symm).trans ea6
        have ef7 := (show (upd H6 ld (.lst ((dn (ens zs)).map V.int ++ [.int num]))) lf = H6 lf from upd_ne ndf.symm).trans ef6
        have ed7 := (show (upd H6 ld (.lst ((dn (ens zs)).map V.int ++ [.int num]))) ld = some (.lst ((dn (ens zs)).map V.int ++ [.int num])) from upd_same)
        have E7 := E6.kp kT7
        have F7 := F6.kpT kT7
        have hent7 : ∀ z ∈ zs, EntAt (upd H6 ld (.lst ((dn (ens zs)).map V.int ++ [.int num]))) z.1 z.2 := fun z hz => (hent6 z hz).kp kT7
        generalize (upd H6 ld (.lst ((dn (ens zs)).map V.int ++ [.int num]))) = H7 at kT7 P7 k7 ea7 ef7 ed7 E7 F7 hent7
        have dn7 : dn (ens zs) ++ [num] = dn (ens (zs ++ [(a, e)])) := by
          rw [show ens (zs ++ [(a, e)]) = ens zs ++ [e] by simp [ens], dn_snoc, if_pos hd, hnum]
        have an7 : an (ens zs) = an (ens (zs ++ [(a, e)])) := by
          rw [show ens (zs ++ [(a, e)]) = ens zs ++ [e] by simp [ens], an_snoc, if_pos hd, List.append_nil]
        refine ⟨_, rfl, _, _, rfl, rfl, ?_⟩
        refine ⟨_, rfl, p, 2, rfl, P7, by decide, by decide, fun v8 H8 k8 P8 a8 b8 => ?_⟩
        refine ⟨(by show 2 ≤ sizeLine; decide), fun m hm => ?_⟩
        refine ⟨_, rfl, _, rfl, _, _, rfl, rfl, _, _, rfl, rfl, .inr ⟨_, rfl, ?_⟩⟩
        have kM : Kp p H8 (upd H8 m (.lst [.int 0, .int v8])) := Kp.new hm _
        have eM : (upd H8 m (.lst [.int 0, .int v8])) m = some (.lst [.int 0, .int v8]) := upd_same
        have PM := P8.new hm (.lst [.int 0, .int v8])
        generalize (upd H8 m (.lst [.int 0, .int v8])) = H9 at kM eM PM
        have k9 := k8.trans kM
        have kT9 : KpT H7 H9 := k9.tup P7
        obtain ⟨dv, gv, hv⟩ : ∃ dv : Int, atI [V.int 0, V.int v8] (if decide (num < 14 + (0 + (i : Int))) then 1 else 0) = some (.int dv) ∧ 0 ≤ dv ∧ num + 1 + dv ≤ 15 + ((i : Int) + 1) := by
          by_cases hc : num < 14 + (0 + (i : Int))
          · rw [decide_eq_true hc]
            exact ⟨v8, atI_nat (j := 1) rfl, a8, by omega⟩
          · rw [decide_eq_false hc]
            exact ⟨0, atI_nat (j := 0) rfl, by omega, by omega⟩
        refine ⟨m, _, _, _, rfl, rfl, SqL.of eM, gv, _, _, rfl, rfl, ?_⟩
        refine ⟨_, _, num + 1 + dv, zs ++ [(a, e)], rfl, k7.trans k9, PM, F7.kpT kT9, ?_, ?_, ?_, fun z hz => ?_, ?_, ?_, fun e' he' => ?_, ?_, ?_⟩
        · rw [← dn7]
          refine (k9 _ _ nld ed7).trans ?_
          simp
        · rw [← an7]
          refine (k9 _ _ nla ea7).trans ?_
          simp
        · refine (k9 _ _ nlf ef7).trans ?_
          simp [refs]
        · rcases List.mem_append.mp hz with hz | hz
          · exact (hent7 z hz).kp kT9
          · rw [List.mem_singleton.mp hz]
            exact E7.kp kT9
        · rw [List.length_append, hlen]
          rfl
        · rw [show ens (zs ++ [(a, e)]) = ens zs ++ [e] by simp [ens]]
          exact okE
        · rw [show ens (zs ++ [(a, e)]) = ens zs ++ [e] by simp [ens]] at he'
          rcases List.mem_append.mp he' with he' | he'
          · have := hlt e' he'
            omega
          · rw [List.mem_singleton.mp he', hnum]
            omega
        · omega
        · omega
      case act =>
        have hd : e.isDeed = false := by
          cases hh : e.isDeed with
          | false => rfl
          | true =>
            refine absurd (decide_eq_true ?_) c
            rw [wd.mpr hh]
        refine ⟨_, rfl, .inl ⟨rfl, _, SqL.of ea6⟩, _, rfl, la, _, _, rfl, rfl, ea6, small1000 (by rw [List.length_map]; omega), ?_⟩
        have kT7 := KpT.lst ea6 (.lst ((an (ens zs)).map V.int ++ [.int num]))
        have P7 := P6.put nla (.lst ((an (ens zs)).map V.int ++ [.int num]))
        have k7 := k6.over hlaH (.lst ((an (ens zs)).map V.int ++ [.int num]))
        have ed7 := (show (upd H6 la (.lst ((an (ens zs)).map V.int ++ [.int num]))) ld = H6 ld from upd_ne nda).trans ed6
        have ef7 := (show (upd H6 la (.lst ((an (ens zs)).map V.int ++ [.int num]))) lf = H6 lf from upd_ne naf.symm).trans ef6
        have ea7 := (show (upd H6 la (.lst ((an (ens zs)).map V.int ++ [.int num]))) la = some (.lst ((an (ens zs)).map V.int ++ [.int num])) from upd_same)
        have E7 := E6.kp kT7
        have F7 := F6.kpT kT7
        have hent7 : ∀ z ∈ zs, EntAt (upd H6 la (.lst ((an (ens zs)).map V.int ++ [.int num]))) z.1 z.2 := fun z hz => (hent6 z hz).kp kT7
        generalize (upd H6 la (.lst ((an (ens zs)).map V.int ++ [.int num]))) = H7 at kT7 P7 k7 ea7 ef7 ed7 E7 F7 hent7
        have dn7 : dn (ens zs) = dn (ens (zs ++ [(a, e)])) := by
          rw [show ens (zs ++ [(a, e)]) = ens zs ++ [e] by simp [ens], dn_snoc, hd]
          simp
        have an7 : an (ens zs) ++ [num] = an (ens (zs ++ [(a, e)])) := by
          rw [show ens (zs ++ [(a, e)]) = ens zs ++ [e] by simp [ens], an_snoc, hd, hnum]
          simp
        refine ⟨_, rfl, _, _, rfl, rfl, ?_⟩
        refine ⟨_, rfl, p, 2, rfl, P7, by decide, by decide, fun v8 H8 k8 P8 a8 b8 => ?_⟩
        refine ⟨(by show 2 ≤ sizeLine; decide), fun m hm => ?_⟩
        refine ⟨_, rfl, _, rfl, _, _, rfl, rfl, _, _, rfl, rfl, .inr ⟨_, rfl, ?_⟩⟩
        have kM : Kp p H8 (upd H8 m (.lst [.int 0, .int v8])) := Kp.new hm _
        have eM : (upd H8 m (.lst [.int 0, .int v8])) m = some (.lst [.int 0, .int v8]) := upd_same
        have PM := P8.new hm (.lst [.int 0, .int v8])
        generalize (upd H8 m (.lst [.int 0, .int v8])) = H9 at kM eM PM
        have k9 := k8.trans kM
        have kT9 : KpT H7 H9 := k9.tup P7
        obtain ⟨dv, gv, hv⟩ : ∃ dv : Int, atI [V.int 0, V.int v8] (if decide (num < 14 + (0 + (i : Int))) then 1 else 0) = some (.int dv) ∧ 0 ≤ dv ∧ num + 1 + dv ≤ 15 + ((i : Int) + 1) := by
          by_cases hc : num < 14 + (0 + (i : Int))
          · rw [decide_eq_true hc]
            exact ⟨v8, atI_nat (j := 1) rfl, a8, by omega⟩
          · rw [decide_eq_false hc]
            exact ⟨0, atI_nat (j := 0) rfl, by omega, by omega⟩
        refine ⟨m, _, _, _, rfl, rfl, SqL.of eM, gv, _, _, rfl, rfl, ?_⟩
        refine ⟨_, _, num + 1 + dv, zs ++ [(a, e)], rfl, k7.trans k9, PM, F7.kpT kT9, ?_, ?_, ?_, fun z hz => ?_, ?_, ?_, fun e' he' => ?_, ?_, ?_⟩
        · rw [← dn7]
          refine (k9 _ _ nld ed7).trans ?_
          simp
        · rw [← an7]
          refine (k9 _ _ nla ea7).trans ?_
          simp
        · refine (k9 _ _ nlf ef7).trans ?_
          simp [refs]
        · rcases List.mem_append.mp hz with hz | hz
          · exact (hent7 z hz).kp kT9
          · rw [List.mem_singleton.mp hz]
            exact E7.kp kT9
        · rw [List.length_append, hlen]
          rfl
        · rw [show ens (zs ++ [(a, e)]) = ens zs ++ [e] by simp [ens]]
          exact okE
        · rw [show ens (zs ++ [(a, e)]) = ens zs ++ [e] by simp [ens]] at he'
          rcases List.mem_append.mp he' with he' | he'
          · have := hlt e' he'
            omega
          · rw [List.mem_singleton.mp he', hnum]
            omega
        · omega
        · omega
    · rintro σ H' ⟨y7, y8, num, zs, rfl, k', P', F', ed, ea, ef, hent, hlen, hok, hlt, hn0, hn1⟩
      refine ⟨_, rfl, _, rfl, p, 30, rfl, P', by decide, by decide, fun age H5 k5 P5 a5 b5 => ?_⟩
      refine ⟨_, rfl, _, rfl, p, lf, refs zs, rfl, P5, .inl (SqL.of (k5 _ _ nlf ef)), by rw [List.length_map]; omega, fun l ys H6 k6 P6 nl el hpm => ?_⟩
      refine ⟨l, ys, rfl, .inl ⟨SqL.of el, fun t ht => ?_⟩⟩
      have k7 : Kp p H6 (upd H6 t (.tup ys)) := Kp.new ht _
      have P7 := P6.new ht (.tup ys)
      refine ⟨(by show 3 ≤ sizeLine; decide), fun b hb => ?_⟩
      have k8 : Kp p (upd H6 t (.tup ys)) (upd (upd H6 t (.tup ys)) b (.tup [.ref fk, .int age, .ref t])) := Kp.new hb _
      obtain ⟨zs', hy, hz⟩ := perm_pairs (fun z : Addr × En => V.ref z.1) hpm zs rfl
      have kT : KpT H' (upd (upd H6 t (.tup ys)) b (.tup [.ref fk, .int age, .ref t])) := (k5.tup P').trans ((k6.tup P5).trans ((k7.tup P6).trans (k8.tup P7)))
      have hlen' : zs'.length = zs.length := hz.length_eq
      refine q b fk t n age zs' _ (k'.trans (k5.trans (k6.trans (k7.trans k8)))) (P7.new hb _) ⟨upd_same, F'.kpT kT, hn2', hn6, a5, by omega, ?_, fun z hz' => (hent z (hz.mem_iff.mp hz')).kp kT, hok.perm (hz.map _), by omega⟩ (by omega)
      refine k8.tup P7 _ _ ?_
      rw [upd_same, hy]
end
end Deed

namespace Deed
open PySem PySem.Spec PySem.W PyProof.Rows L2 LamX
/-! ### sorted(e, key=lambda x: x[0]) of a list or tuple of tuples -/
section
variable {prog : Program} {w : World} {A : Around} {E : Value → Shared → Prop} {s : Shared}
theorem collectT {l : Addr} {vs : List Value} {Q : List Value → Shared → Prop} (ht : s.heap.IsTuple l vs.toArray) (hsz : vs.length ≤ sizeLine)
    (h : Q vs { s with heap := (s.heap.push (seqObj "list" #[] 0)).update s.heap.objs.size (Obj.mapSeq (· ++ vs.toArray)) }) : wpAny (model prog w) A (collect (.ref l)) Q E s := by
  obtain ⟨ob, g0, gc, ep, gd⟩ := id ht
  have g1 : (s.heap.push (seqObj "list" #[] 0)).get? l = some ob := Heap.get?_push_of_some _ g0
  unfold collect
  refine wpAny_bind (m := _) (wpAny_runValue (codeAny_builtin entry_proto_collect' ?_))
  show wpAny _ _ (do again (.builtin "list.__iadd__" ⟨[← newList [], Value.ref l], []⟩)) _ _ s
  refine wpAny_bind (wpAny_newList (wpAny_pure ⟨Code.quiet_builtin _ (by decide +kernel), (codeAny_builtin entry_list_iadd' ?_)⟩))
  show wpAny _ _ (Builtin.List.listExtendWith (.ref s.heap.objs.size) (Value.ref l) (.ref s.heap.objs.size)) _ _ { s with heap := s.heap.push (seqObj "list" #[] 0) }
  unfold Builtin.List.listExtendWith
  refine wpAny_bind (wpAny_typeOf (T := "tuple") ⟨ob, g1, gc⟩ ?_)
  have tt : (Value.type "tuple" == Value.type "tuple") = true := by rfl
  rw [if_pos (by simp [tt])]
  refine wpAny_bind (listItems_at g1 gd ?_)
  refine wpAny_bind (listItems_at (n := 0) (xs := #[]) (Heap.get?_push_size _ rfl) rfl ?_)
  rw [if_neg (fun z => by simp at z)]
  refine wpAny_bind (listUpdate_at (n := 0) (xs := #[]) (Heap.get?_push_size _ rfl) rfl ?_ (Nat.zero_le _) (by show (#[] ++ vs.toArray).size ≤ sizeLine + 1; simp only [Array.size_append, List.size_toArray, List.length_nil]; omega))
  refine wpAny_pure (?_)
  show wpAny (model prog w) A (do let o ← load s.heap.objs.size; match o.data with | .seq xs _ => pure xs.toList | _ => unsupported "internal:collect") Q E { s with heap := (s.heap.push (seqObj "list" #[] 0)).update s.heap.objs.size (Obj.mapSeq (· ++ vs.toArray)) }
  refine wpAny_bind (wpAny_load (get?_update_seq (Heap.get?_push_size _ rfl) _) (?_))
  show wpAny _ _ (pure (((#[] : Array Value) ++ vs.toArray).toList)) Q E _
  rw [show (((#[] : Array Value) ++ vs.toArray).toList) = vs by simp]
  exact wpAny_pure h
theorem collectS {l : Addr} {vs : List Value} {Q : List Value → Shared → Prop} (hl : s.heap.IsList l vs.toArray ∨ s.heap.IsTuple l vs.toArray) (hsz : vs.length ≤ sizeLine)
    (h : Q vs { s with heap := (s.heap.push (seqObj "list" #[] 0)).update s.heap.objs.size (Obj.mapSeq (· ++ vs.toArray)) }) : wpAny (model prog w) A (collect (.ref l)) Q E s := by
  rcases hl with hl | hl
  · exact collect_list hl h hsz
  · exact collectT hl hsz h
/-- sorted(e, key=f), e a list or a tuple, the keys ints -/
theorem sortedK {β : Type} {l f : Addr} {vs : List Value} {bs : List β} {R : Value → β → Prop} {Q : Value → Shared → Prop} (k : β → Int) (hl : s.heap.IsList l vs.toArray ∨ s.heap.IsTuple l vs.toArray) (e : EachIs R vs bs) (hL : bs.length ≤ sizeLine) (hu : A.units + 66 < cLine)
    (turn : ∀ (v : Value) (x : β), R v x → x ∈ bs → ∀ (h : Heap) (tk : Nat), (∀ b o, s.heap.get? b = some o → h.get? b = some o) →
      wpAny (model prog w) A.in1.in1 (call (.ref f) [v]) (KeyPure (.int (k x)) { s with heap := h, toks := tk }) (fun _ _ => False) { s with heap := h, toks := tk })
    (h : ∀ out c h' tk, (∀ b o, s.heap.get? b = some o → h'.get? b = some o) → h'.get? (s.heap.objs.size + 1) = some (seqObj "list" (List.toArray out) c) → out.length = bs.length → EachIs R out (bs.mergeSort (dataLe false fun x => .int (k x))) →
      Q (.ref (s.heap.objs.size + 1)) { s with heap := h', toks := tk }) :
    wpAny (model prog w) A (call (.builtin "sorted") [.ref l] [(Str.ofString "key", .ref f)]) Q E s := by
  have hv : vs.length ≤ sizeLine := by rw [e.length]; exact hL
  have up : ∀ {g : Heap}, KeepsBut (s.heap.objs.size + 1) (copyHeap s.heap vs) g → ∀ b o, s.heap.get? b = some o → g.get? b = some o := fun kp b o z =>
    kp b o (Nat.ne_of_lt (Nat.lt_succ_of_lt (Heap.lt_size z))) (copyHeap_old z)
  have ez : ((s.heap.push (seqObj "list" #[] 0)).update s.heap.objs.size (Obj.mapSeq (· ++ vs.toArray))).objs.size = s.heap.objs.size + 1 := by rw [Heap.size_update, size_push']
  refine call_function_entry_kw kind_sorted plain_sorted entry_sorted (ksk_s1 _ _) ?_
  unfold Builtin.«sorted»
  refine wpAny_bind (m := checkCount "sorted" 1 1 _) (wpAny_pure (?_))
  refine wpAny_bind (collectS hl hv ?_)
  refine wpAny_bind (wpAny_newList (?_) hv)
  show wpAny _ _ _ _ _ { s with heap := copyHeap s.heap vs }
  rw [ez]
  refine wpAny_bind (wpAny_holding (wpAny_call_entry_kw slot_list_sort ⟨_, copyHeap_at s.heap vs, rfl⟩ entry_list_sort (?body) (ksk_l1 _ _)))
  case body =>
    show wpAny (model prog w) A.in1.in1 (Builtin.«list.sort» ⟨[.ref (s.heap.objs.size + 1)], [(Str.ofString "key", .ref f)]⟩) _ _ _
    rw [ksk_t1]
    refine keyH_tree (kz := bs.map fun x => PyData.int (k x)) (s := { s with heap := copyHeap s.heap vs }) (copyHeap_at s.heap vs) (by rw [List.length_map]; exact e.length.symm) hv (AllAlike.of fun _ _ => by simp [alike]) ?srt (fun d hd => ?dep)
      (keyH_turns (k := fun x => PyData.int (k x)) (s := { s with heap := copyHeap s.heap vs }) e fun v x hR hx h tk kp => turn v x hR hx h tk (up kp)) fun h' tk out c kp hD ko => ?fin
    case srt => exact Sortable.others fun _ => ⟨(fun z => nomatch z), (fun _ z => nomatch z)⟩
    case dep =>
      obtain ⟨x, _, rfl⟩ := List.mem_map.mp hd
      show A.units + 1 + 1 + PyData.depth (.int (k x)) < cLine
      simp only [PyData.depth]
      omega
    case fin =>
      exact ⟨_, rfl, wpAny_pure ⟨_, rfl, h out c h' tk (up kp) hD ((ko.length (by rw [List.length_map]; exact e.length.symm)).trans e.length) (keyedOut_each (fun x => PyData.int (k x)) ko e)⟩⟩
/-- the call of the lambda -/
theorem lam_key {f c' t : Addr} {x q : Str} {params : Arguments} {ix : Expr} {scope : Scope} {cl : List (Str × Addr)} {pm ctv : Value} {p1 p3 : Pos} {items : Array Value} {kk : Int} {u : Tok} {mg : Str → Option Value}
    (of : s.heap.get? f = some (kla_obj "<lambda>" q params (.Subscript (.Name x p1) ix p3) scope cl pm c' ctv)) (hcd : s.heap.CodeRec (.ref c') q) (hroom : A.depth < recursionLimit) (lim : s.heap.NoLimit) (ns : s.heap.Ns mainGlobals mg)
    (hk : scope.kind = .function) (hco : scope.isCoroutine = false) (hgen : scope.isGenerator = false) (hcell : ∀ y ∈ scope.names, y.2 ≠ .cell) (hloc : scope.names.lookup x = some .local)
    (hbind : ∀ v : Value, bindArgs (kla_fn "<lambda>" q params (.Subscript (.Name x p1) ix p3) scope cl pm (.ref c') ctv) ⟨[v], []⟩ = pure [(x, v)])
    (hix : ∀ (env : Env) (A : Around) (E : Value → Shared → Prop) (s' : Shared) (Q : Value → Shared → Prop), env.scope = scope → env.globals = mainGlobals → s'.heap.Ns mainGlobals mg → (∀ u tk, Q (.int 0 u) { s' with toks := tk }) → wpAny (model prog w) A (eval ix env) Q E s')
    (hpl : PlainIx ix) (hd : (x == ("__debug__" : Str)) = false) (ht : s.heap.IsTuple t items) (hx : items[0]? = some (.int kk u)) :
    wpAny (model prog w) A (call (.ref f) [.ref t]) (KeyPure (.int kk) s) (fun _ _ => False) s := by
  refine wpAny_call (kla_callFunE hroom of rfl hco hgen rfl hcd ?_)
  rw [hbind]
  refine wpAny_pure (wpAny_newFunctionEnv hcell (fun y hy => ?_) (fun h₁ hns hsb => ⟨lim.fresh _ hsb, ?_⟩) hk)
  · rw [List.mem_singleton.mp hy]
    exact hloc
  have kp : ∀ b o, s.heap.get? b = some o → h₁.get? b = some o := fun b o z => hsb.extBut b o (Nat.ne_of_lt (Heap.lt_size z)) (Heap.get?_push_of_some _ z)
  refine kla_codeExpr (Subscript_ (wpAny_Name (wpAny_loadName_local hk hloc hns (v := .ref t) (by simp) ?_) hd))
  refine hix _ _ _ _ _ rfl rfl (ns.keeps kp) fun u' tk' => ?_
  have ht1 : h₁.IsTuple t items := by
    obtain ⟨o, z1, z2, z3⟩ := ht
    exact ⟨o, kp _ _ z1, z2, z3⟩
  have hsz : 0 < items.size := by
    rcases Nat.eq_zero_or_pos items.size with z | z
    · rw [Array.getElem?_eq_none (by omega)] at hx
      cases hx
    · exact z
  refine subscriptTail_builtinR (x := .int kk u) (ht1.typeIs) slot_tuple_getitem.lookup (getItem_tuple (j := 0) (Q := fun r s' => r = .int kk u ∧ KeyPure (.int kk) s r s') ht1 (by decide) (by decide) (seqIndex_of (by decide) (by omega)) hx ⟨rfl, ?_⟩) (hpl _ _)
  exact ⟨h₁, _, rfl, kp, .int _ _⟩
end
end Deed

namespace Deed
open PySem PySem.Spec PySem.W PyProof.Rows L2 LamX
theorem each_vals {xs : List V} {us : List Value} (r : Vals xs us) : EachIs (fun u y => RelV y u) us xs := by
  induction r with
  | nil => exact .nil
  | cons h _ ih => exact .cons h ih
theorem vals_each {xs : List V} {us : List Value} (r : EachIs (fun u y => RelV y u) us xs) : Vals xs us := by
  induction r with
  | nil => exact .nil
  | cons h _ ih => exact .cons h ih
/-- sorted(e, key=lambda x: x[0]): some arrangement by the keys, at a new address; a table may have grown -/
def tSortK (K : PySem.W.Frag) (T : List (Addr × Str)) (te : TA) : TE := fun σ H Q => te σ H fun vs H1 => ∃ (a : Addr) (xs : List V) (ks : V → Int), vs = [.ref a] ∧ (SqL K H1 a xs ∨ SqT K H1 a xs) ∧ (∀ y ∈ xs, ∃ t r, y = .ref t ∧ H1 t = some (.tup (.int (ks y) :: r))) ∧ Tabs T H1 ∧
  ∀ p ys H2, ExtN H1 H2 → Tabs T H2 → H2 p = none → ys.Perm xs → ys.Pairwise (fun u v => ks u ≤ ks v) → Q (.ref p) (upd H2 p (.lst ys))
section
variable {X : Cx}
theorem pe_sortK {T : List (Addr × Str)} {c P : Addr} {k : Nat} {e ix : Expr} {te : TA} {x : Str} {params : Arguments} {scope : Scope} {p p1 p3 lpos kpos pos : Pos}
    (hg : Gl X "sorted") (hm : X.mg "sorted" = none) (ha : PA X [e] te) (hr : Room (k + 1) X.A) (TB : TabB X.base X.mg c P) (hcode : X.env.code = .ref c) (hmT : (P, X.env.qual ++ "<lambda>") ∈ T) (hu : ∀ p ∈ T, p.1 = P → p.2 = X.env.qual ++ "<lambda>")
    (hdef : defaultsOf params X.env = ([], [])) (hfree : ∀ y ∈ scope.names, y.2 ≠ .free)
    (hk : scope.kind = .function) (hco : scope.isCoroutine = false) (hgen : scope.isGenerator = false) (hcell : ∀ y ∈ scope.names, y.2 ≠ .cell) (hloc : scope.names.lookup x = some .local)
    (hbind : ∀ (q : Str) (cl : List (Str × Addr)) (pm cv ctv v : Value), bindArgs (kla_fn "<lambda>" q params (.Subscript (.Name x p1) ix p3) scope cl pm cv ctv) ⟨[v], []⟩ = pure [(x, v)])
    (hix : ∀ (env : Env) (A : Around) (E : Value → Shared → Prop) (s' : Shared) (Q : Value → Shared → Prop), env.scope = scope → env.globals = mainGlobals → s'.heap.Ns mainGlobals X.mg → (∀ u tk, Q (.int 0 u) { s' with toks := tk }) → wpAny (model X.prog X.w) A (eval ix env) Q E s')
    (hpl : PlainIx ix) (hd : (x == ("__debug__" : Str)) = false)
    (h1 : backTo pos (starEach [e] X.env) = (false, eval e X.env) :: backTo pos (starEach [] X.env) := by rfl) (h2 : (backTo pos (starEach [e] X.env)).any (·.1) = false := by rfl) :
    PE X (.Call (.Name "sorted" p) [e] [⟨some "key", .Lambda params (.Subscript (.Name x p1) ix p3) scope lpos, kpos⟩] pos) (tSortK X.K T te) := by
  refine ⟨fun pins s σ H Q I h => ?_⟩
  refine wpAny_Call_Name_kw (ld_blt I hg hm (show bootBuiltins "sorted" = some (.builtin "sorted") by decide +kernel) ?_)
  refine callWith_kw (thn (ha.run pos pins s σ H _ I h) fun us s1 ⟨vs, H1, I1, r1, q1⟩ => ?_) h1 h2 rfl rfl
  obtain ⟨a, xs, ks, rfl, hS, hxs, hT, q⟩ := q1
  obtain rfl := Vals.ref1 r1
  show wpAny _ _ (evalAll [(do let v ← eval (.Lambda params (.Subscript (.Name x p1) ix p3) scope lpos) X.env; standAt pos; pure v)]) _ _ s1
  refine wpAny_evalAll_cons (wpAny_bind (lam_make2 I1 TB hcode hmT hu hT hdef (fun y hy e => absurd e (hfree y hy)) fun f c' pm ctv H2 s2 I2 eN T2 hf hfn hfr hco' => wpAny_bind (wpAny_standAt (wpAny_pure (wpAny_evalAll_nil ?_)))))
  have seqs : ∃ its, Vals xs its ∧ xs.length ≤ sizeLine ∧ (s2.heap.IsList a its.toArray ∨ s2.heap.IsTuple a its.toArray) := by
    rcases hS with hS | hS
    · have hS2 : SqL X.K H2 a xs := by
        rcases hS with (z | ⟨o, z⟩) | z
        · exact .inl (.inl (eN _ _ z fun ps z' => by cases z'))
        · exact .inl (.inr ⟨o, eN _ _ z fun ps z' => by cases z'⟩)
        · exact .inr z
      obtain ⟨its, rv, hl, hz⟩ := I2.list hS2
      exact ⟨its, rv, hz, .inl hl.isList⟩
    · have hS2 : SqT X.K H2 a xs := by
        rcases hS with (z | ⟨o, z⟩) | z
        · exact .inl (.inl (eN _ _ z fun ps z' => by cases z'))
        · exact .inl (.inr ⟨o, eN _ _ z fun ps z' => by cases z'⟩)
        · exact .inr z
      obtain ⟨its, rv, hl, hz⟩ := I2.tuple hS2
      exact ⟨its, rv, hz, .inr hl⟩
  obtain ⟨its, rv, hz, hl⟩ := seqs
  have hun := hr.un
  have hdp := hr.dp
  show wpAny (model X.prog X.w) X.A (call (.builtin "sorted") [.ref a] [(Str.ofString "key", .ref f)]) _ _ s2
  refine sortedK (R := fun u y => RelV y u) ks hl (each_vals rv) hz (by omega) (fun u y hR hy h tk kp => ?_) fun out ep h' tk kp hD hlen eo => ?_
  · obtain ⟨t, r, rfl, ht⟩ := hxs y hy
    obtain rfl : u = Value.ref t := hR
    have ht2 := eN _ _ ht fun ps z' => by cases z'
    obtain ⟨_, its2, r2, o, ho, hc, n, hd2⟩ := I2.hok _ _ ht2
    obtain ⟨oc, vs, tt, c1, c2, c3⟩ := (I2.hok c' _ hco').1
    cases r2 with
    | cons ru r3 =>
      obtain ⟨tu, rfl⟩ := ru
      refine lam_key (u := tu) (s := { s2 with heap := h, toks := tk }) (kp _ _ hf) ⟨c', oc, vs, tt, rfl, kp _ _ c1, c2, c3⟩ ?_ (I2.nolimit.keeps kp) ((I2.mod.glob.keeps I2.bk).keeps kp) hk hco hgen hcell hloc (fun v => hbind _ _ _ _ _ v) hix hpl hd ⟨o, kp _ _ ho, hc, n, hd2⟩ (by simp)
      show X.A.depth < recursionLimit
      omega
  · rw [dataLe_int] at eo
    have hp : (xs.mergeSort fun a b => decide (ks a ≤ ks b)).Perm xs := List.mergeSort_perm _ _
    have hs : (xs.mergeSort fun a b => decide (ks a ≤ ks b)).Pairwise (fun u v => ks u ≤ ks v) := by
      have := List.pairwise_mergeSort (le := fun a b => decide (ks a ≤ ks b)) (fun a b c h1 h2 => by simp only [decide_eq_true_eq] at *; omega) (fun a b => by simp only [Bool.or_eq_true, decide_eq_true_eq]; omega) xs
      exact this.imp fun h => of_decide_eq_true h
    refine ⟨.ref _, _, I2.laid (t' := tk) kp (Nat.le_succ _) (show ObjOk X.prog X.w _ h' _ (.lst (xs.mergeSort fun a b => decide (ks a ≤ ks b))) from ⟨by rw [hp.length_eq]; exact hz, out, ep, vals_each eo, hD⟩), rfl, q _ _ H2 eN T2 (I2.hok.fresh (Nat.le_succ _)) hp hs⟩
end
end Deed

namespace Deed
open PySem PySem.Spec PyProof.Rows L2 LamX
/-! ### a def whose code object's table is told -/
theorem okC {P : Program} {w : World} {K : PySem.W.Frag} {mg : Str → Option Value} {base : Heap} {x qual : Str} {st : Stmt} {f c : Addr} {fd : FuncData} {N ps : List Str} {k : Nat} {sp : Sp} (F : Fun K x qual st f fd) (hc : fd.code = .ref c) (S : FnScope N ps (defScope st)) (len : ∀ vs H Q E, sp vs H Q E → vs.length = ps.length)
    (hbody : ∀ (A : Around) (outer : List Env) (s : Shared) (H : Hp) (vs : List V) (Q : VK) (E : XK), Room k (A.deeper (envOfC qual (defScope st) s.heap.objs.size f (.ref c))) → sp vs H Q E →
      ∃ t, PSs (cxOf CX0 P w K mg base N qual (defScope st) f (.ref c) A outer s H E).nox (defBody st) t ∧ t { nx := fun _ H' => Q .non H', rt := Q } (start N vs) H) : FnOk P w K mg base CX0 (k + 1) f fd ps sp := by
  obtain ⟨oc, od, kV, doc, pm, an, cdv, ct, osl, rfl, lk, hcd⟩ := F.ex
  have e : cdv = .ref c := hc
  subst e
  refine fn_of lk hcd S len fun A outer s H vs Q E hr hsp => ?_
  obtain ⟨t, h, q⟩ := hbody A outer s H vs Q E hr hsp
  exact ⟨t, h.nox, q⟩
/-- the number that stands ahead in the tuple at v -/
def keyAt (H : Hp) (v : V) : Int := match v with
  | .ref t => (match H t with
    | some (.tup (.int n :: _)) => n
    | _ => 0)
  | _ => 0
theorem EntAt.key {H : Hp} {a : Addr} {e : En} (h : EntAt H a e) : ∃ r, H a = some (.tup (.int e.num :: r)) ∧ keyAt H (.ref a) = e.num := by
  have fin : ∀ r, H a = some (.tup (.int e.num :: r)) → keyAt H (.ref a) = e.num := fun r z => by
    show (match H a with | some (.tup (.int n :: _)) => n | _ => 0) = e.num
    rw [z]
  unfold EntAt at h
  cases hk : e.kd with
  | deed g t rs ws =>
    rw [hk] at h
    obtain ⟨r, w, h1, _⟩ := h
    exact ⟨_, h1, fin _ h1⟩
  | act x o =>
    rw [hk] at h
    exact ⟨_, h, fin _ h⟩
/-- what isn't tracked, or a table -/
def Fresh (H : Hp) (p : Addr) : Prop := ∀ o, H p = some o → ∃ ps, o = .tbl ps
theorem Fresh.of {H H' : Hp} {p : Addr} (e : ExtN H H') (n : H' p = none) : Fresh H p := fun o z => by
  by_cases h : ∃ ps, o = .tbl ps
  · exact h
  · rw [e p o z fun ps q => h ⟨ps, q⟩] at n
    cases n
theorem Fresh.ne {H : Hp} {p b : Addr} {o : HO} (f : Fresh H p) (e : H b = some o) (h : ∀ ps, o ≠ .tbl ps) : b ≠ p := fun z => by
  rw [z] at e
  obtain ⟨ps, q⟩ := f o e
  exact h ps q
theorem Fresh.up {H H' : Hp} {p : Addr} (e : ExtN H H') (f : Fresh H' p) : Fresh H p := fun o z => by
  by_cases h : ∃ ps, o = .tbl ps
  · exact h
  · exact f o (e p o z fun ps q => h ⟨ps, q⟩)
theorem ExtN.tup {H H' : Hp} (e : ExtN H H') : KpT H H' := fun b xs z => e _ _ z fun ps q => by cases q
theorem ExtN.new {H : Hp} {p : Addr} (n : H p = none) (o : HO) : ExtN H (upd H p o) := .of fun b u e => by
  rw [upd_ne (ne_of_none e n)]
  exact e
theorem Tabs.new {T : List (Addr × Str)} {H : Hp} (t : Tabs T H) {p : Addr} (n : H p = none) (o : HO) : Tabs T (upd H p o) := t.ext fun b u e => by
  rw [upd_ne (ne_of_none e n)]
  exact e
/-- a tracked list is written: the tables stay -/
theorem Tabs.put {T : List (Addr × Str)} {H : Hp} (t : Tabs T H) {p : Addr} {xs : List V} (e : H p = some (.lst xs)) (o : HO) : Tabs T (upd H p o) := fun q hq => by
  obtain ⟨ps, h1, h2, h3⟩ := t q hq
  have n1 : q.1 ≠ p := fun z => by
    rw [z, e] at h1
    cases h1
  refine ⟨ps, by rw [upd_ne n1]; exact h1, h2, fun pos cv hc => ?_⟩
  obtain ⟨c, e1, e2⟩ := h3 pos cv hc
  refine ⟨c, e1, ?_⟩
  have n2 : c ≠ p := fun z => by
    rw [z, e] at e2
    unfold CodeO at e2
    cases e2
  rw [upd_ne n2]
  exact e2
theorem srt_num {H : Hp} {zs : List (Addr × En)} (he : ∀ z ∈ zs, EntAt H z.1 z.2) (nd : ((ens zs).map (·.num)).Nodup) (h : (refs zs).Pairwise (fun u v => keyAt H u ≤ keyAt H v)) : zs.Pairwise (fun a b => a.2.num < b.2.num) := by
  induction zs with
  | nil => exact .nil
  | cons z r ih =>
    have h1 := List.pairwise_cons.mp h
    have nd' : (z.2.num :: (ens r).map (·.num)).Nodup := nd
    have h2 := List.nodup_cons.mp nd'
    refine List.pairwise_cons.mpr ⟨fun y hy => ?_, ih (fun y hy => he y (List.mem_cons_of_mem _ hy)) h2.2 h1.2⟩
    have h3 := h1.1 (.ref y.1) (List.mem_map.mpr ⟨y, hy, rfl⟩)
    obtain ⟨_, _, k1⟩ := (he z List.mem_cons_self).key
    obtain ⟨_, _, k2⟩ := (he y (List.mem_cons_of_mem _ hy)).key
    rw [k1, k2] at h3
    have h4 : z.2.num ≠ y.2.num := fun q => h2.1 (List.mem_map.mpr ⟨y.2, List.mem_map.mpr ⟨y, hy, rfl⟩, q.symm⟩)
    omega
section
variable {P : Program} {w : World} {K : PySem.W.Frag} {mg : Str → Option Value} {base : Heap} {fRi : Addr} {dRi : FuncData} {T : List (Addr × Str)}
/-- an int of the module's top -/
def MgInt (mg : Str → Option Value) (x : Str) (i : Int) : Prop := ∃ t, mg x = some (.int i t)
theorem pe_num {X : Cx} {x : Str} {i : Int} {pos : Pos} (hg : Gl X x) (h : MgInt X.mg x i) (hd : (x == ("__debug__" : Str)) = false := by decide) : PE X (.Name x pos) (tC (.int i)) := by
  obtain ⟨t, h⟩ := h
  exact pe_glob hg h ⟨t, rfl⟩ hd
/-! ### the entries by their numbers -/
abbrev sRising : Stmt := topS 11
theorem scRising : FnScope ["book"] ["book"] (defScope sRising) := ⟨rfl, rfl, rfl, by decide +kernel, rfl, by decide +kernel, by decide +kernel⟩
/-- the book's text of the lambda's name -/
def qRis : Str := "entries_rising.<locals>.<lambda>"
def spRising (T : List (Addr × Str)) : Sp := fun vs H Q _ => ∃ (b fk t : Addr) (n : Nat) (age : Int) (zs : List (Addr × En)), vs = [.ref b] ∧ BookAt H b fk t n age zs ∧ Tabs T H ∧
  ∀ (p : Addr) (zs' : List (Addr × En)) (H' : Hp), ExtN H H' → Tabs T H' → Fresh H p → H' p = some (.lst (refs zs')) → zs'.Perm zs → zs'.Pairwise (fun a b => a.2.num < b.2.num) → Q (.ref p) H'
theorem ok_rising {f c tb : Addr} {fd : FuncData} {k : Nat} (F : Fun K "entries_rising" "entries_rising" sRising f fd) (hc : fd.code = .ref c) (TB : TabB base mg c tb) (ms : mg "sorted" = none) (mN : MgInt mg "NUMBER" 0) (hmT : (tb, qRis) ∈ T) (hu : ∀ p ∈ T, p.1 = tb → p.2 = qRis) :
    FnOk P w K mg base CX0 (k + 2) f fd ["book"] (spRising T) := by
  refine okC F hc scRising (fun vs H Q E h => ?_) (fun A outer s H vs Q E hr h => ?_)
  · obtain ⟨b, fk, t, n, age, zs, rfl, _⟩ := h
    rfl
  · obtain ⟨b, fk, t, n, age, zs, rfl, hB, hT, q⟩ := h
    refine ⟨_, pss_one (ps_ret (pe_sortK (T := T) (c := c) (P := tb) (k := k) (by rfl) ms (pa_cons (pe_ix ix_tup (pv 0) pe_int (fun _ _ => rfl)) pa_nil) hr TB rfl hmT hu rfl (by decide +kernel) rfl rfl rfl (by decide +kernel) rfl (fun _ _ _ _ _ _ => rfl) (fun env A E s' Q he hg hn hq => ?ix) (fun _ _ => rfl) (by decide))), ?_⟩
    case ix =>
      obtain ⟨tk, hN⟩ := mN
      refine Calls.Name_function_global (by rw [he]) (by unfold Env.kindOf; rw [he]; rfl) (Calls.loadGlobal_global (by rw [hg]; exact hn) hN (hq tk s'.toks))
    refine ⟨_, rfl, b, _, 2, _, rfl, rfl, SqT.of hB.at_, atI_nat (j := 2) rfl, t, refs zs, keyAt H, rfl, .inr (SqT.of hB.ents), fun y hy => ?_, hT, fun p ys H2 eN T2 np pm so => ?_⟩
    · obtain ⟨z, hz, rfl⟩ := List.mem_map.mp hy
      obtain ⟨r, h1, h2⟩ := (hB.ent z hz).key
      exact ⟨z.1, r, rfl, by rw [h2]; exact h1⟩
    · obtain ⟨zs', rfl, hp⟩ := perm_pairs (fun z : Addr × En => V.ref z.1) pm zs rfl
      refine q p zs' _ (eN.trans (ExtN.new np _)) (Tabs.new T2 np _) (Fresh.of eN np) upd_same hp (srt_num (fun z hz => hB.ent z (hp.mem_iff.mp hz)) (((hp.map _).map _).nodup_iff.mpr hB.ok.nd) so)
end
end Deed

namespace Deed
open PySem PySem.Spec PyProof.Rows L2 LamX
theorem take_more {α : Type} {l : List α} {i : Nat} {x : α} (h : l[i]? = some x) : l.take (i + 1) = l.take i ++ [x] := by
  rw [List.take_add_one, h]
  rfl
theorem ref_at {zs : List (Addr × En)} {i : Nat} {x : V} (h : (refs zs)[i]? = some x) : ∃ z, zs[i]? = some z ∧ x = .ref z.1 := by
  rw [List.getElem?_map] at h
  cases e : zs[i]? with
  | none => rw [e] at h; cases h
  | some z =>
    rw [e] at h
    exact ⟨z, rfl, (Option.some.inj h).symm⟩
section
variable {P : Program} {w : World} {K : PySem.W.Frag} {mg : Str → Option Value} {base : Heap} {fRi fDe : Addr} {dRi dDe : FuncData} {T : List (Addr × Str)}
/-- what entries_rising needs -/
structure RisD (K : PySem.W.Frag) (mg : Str → Option Value) (base : Heap) (T : List (Addr × Str)) (f : Addr) (fd : FuncData) : Prop where
  D : Df K mg "entries_rising" sRising ["book"] f fd
  hc : ∃ c tb, fd.code = .ref c ∧ TabB base mg c tb ∧ (tb, qRis) ∈ T ∧ ∀ p ∈ T, p.1 = tb → p.2 = qRis
  ms : mg "sorted" = none
  mN : MgInt mg "NUMBER" 0
theorem RisD.ok {k : Nat} {f : Addr} {fd : FuncData} (R : RisD K mg base T f fd) : FnOk P w K mg base CX0 (k + 2) f fd ["book"] (spRising T) := by
  obtain ⟨c, tb, h1, h2, h3, h4⟩ := R.hc
  exact ok_rising R.D.F h1 h2 R.ms R.mN h3 h4
/-- the entries that φ picks, by their numbers -/
def spPick (φ : En → Bool) (T : List (Addr × Str)) : Sp := fun vs H Q _ => ∃ (b fk t : Addr) (n : Nat) (age : Int) (zs : List (Addr × En)), vs = [.ref b] ∧ BookAt H b fk t n age zs ∧ Tabs T H ∧
  ∀ (p : Addr) (zs' : List (Addr × En)) (H' : Hp), ExtN H H' → Tabs T H' → Fresh H p → H' p = some (.lst (refs (zs'.filter fun z => φ z.2))) → zs'.Perm zs → zs'.Pairwise (fun a b => a.2.num < b.2.num) → Q (.ref p) H'
/-! ### their numbers -/
/-- the numbers of what φ picks, rising -/
def spNums (φ : En → Bool) (T : List (Addr × Str)) : Sp := fun vs H Q _ => ∃ (b fk t : Addr) (n : Nat) (age : Int) (zs : List (Addr × En)), vs = [.ref b] ∧ BookAt H b fk t n age zs ∧ Tabs T H ∧
  ∀ (p : Addr) (zs' : List (Addr × En)) (H' : Hp), ExtN H H' → Tabs T H' → Fresh H p → H' p = some (.lst (((zs'.filter fun z => φ z.2).map fun z => z.2.num).map V.int)) → zs'.Perm zs → zs'.Pairwise (fun a b => a.2.num < b.2.num) → Q (.ref p) H'
end
end Deed

namespace Deed
open PySem PySem.Spec PyProof.Rows L2 LamX
section
variable {P : Program} {w : World} {K : PySem.W.Frag} {mg : Str → Option Value} {base : Heap} {fRi fDe : Addr} {dRi dDe : FuncData} {T : List (Addr × Str)}
abbrev sDeedE : Stmt := topS 12
theorem scDeedE : FnScope ["book", "entry"] ["book"] (defScope sDeedE) := ⟨rfl, rfl, rfl, by decide +kernel, rfl, by decide +kernel, by decide +kernel⟩
theorem ok_deedE {f : Addr} {fd : FuncData} {k : Nat} (F : Fun K "deed_entries" "deed_entries" sDeedE f fd) (R : RisD K mg base T fRi dRi) (mW : MgInt mg "WORD" 4) : FnOk P w K mg base CX0 (k + 3) f fd ["book"] (spPick (·.isDeed) T) := by
  have GR : FnOk P w K mg base CX0 (k + 2) fRi dRi ["book"] (spRising T) := R.ok
  refine F.ok scDeedE (fun vs H Q E h => ?_) (fun cdv A outer s H vs Q E hr h => ?_)
  · obtain ⟨b, fk, t, n, age, zs, rfl, _⟩ := h
    rfl
  · obtain ⟨b, fk, t, n, age, zs, rfl, hB, hT, q⟩ := h
    refine ⟨_, pss_one (ps_ret (pe_lc (own := [("entry", 1)]) (g := gName 1) (by rfl) scDeedE.nd (pi_list (pe_call GR hr (by rfl) R.D.g R.D.F.kp R.D.b .nil pass0 (pa_cons (pv 0) pa_nil))) (blkOk_by (own := [("entry", 1)]) (N := ["book", "entry"]) (sc := defScope sDeedE) (by decide +kernel)) (fun _ _ _ _ _ => pg_name (i := 1) scDeedE.nd rfl (Or.inl rfl))
      (fun _ _ _ _ _ => pts_one (pt_cmpR op_eq (show PE _ _ (tOp (rIxT K) (tVar 1) (tC (.int 4))) from pe_ix ix_tup (pv 1) (pe_num (by rfl) mW) (fun _ _ => rfl)) pe_str (nomark _))) (fun _ _ _ _ _ => pv 1))), ?_⟩
    refine ⟨_, rfl, b, fk, t, n, age, zs, rfl, hB, hT, fun p zs' H1 eN T1 fr ep pm so => ?_⟩
    have hent : ∀ z ∈ zs', EntAt H1 z.1 z.2 := fun z hz => (hB.ent z (pm.mem_iff.mp hz)).kp (ExtN.tup eN)
    refine ⟨p, rfl, ⟨_, SqL.of ep⟩, fun D nD => ?_⟩
    have npD : p ≠ D := ne_of_none ep nD
    refine lc_list (K := K) (a := p) (xs := refs zs') (fun i H' => H' D = some (.lst (refs ((zs'.take i).filter fun z => z.2.isDeed))) ∧ Same H1 H') ⟨upd_same, fun b o e => by rw [upd_ne (ne_of_none e nD)]; exact e⟩ (fun i H' _ h => SqL.of (h.2 _ _ ep)) ?_ ?_
    · rintro i x H' hx ⟨eD, sm⟩
      obtain ⟨z, hz, rfl⟩ := ref_at hx
      have hzm : z ∈ zs' := List.mem_of_getElem? hz
      obtain ⟨xs, ex, _, _, _, _, g4⟩ := ((hent z hzm).kp (Same.tup sm)).tup
      refine ⟨rfl, _, rfl, z.1, xs, 4, _, rfl, rfl, SqT.of ex, g4, rfl, _, rfl, ?_⟩
      have wd := (hB.ok.ok z.2 (List.mem_map.mpr ⟨z, pm.mem_iff.mp hzm, rfl⟩)).word
      have et := take_more hz
      refine ite2 (fun c => ?_) (fun c => ?_)
      · have hd : z.2.isDeed = true := wd.mp (by
          have := of_decide_eq_true c
          injection this)
        refine ⟨_, rfl, _, eD, small1000 ?_, ?_, fun b o e => ?_⟩
        · have h1 := List.length_filter_le (fun z : Addr × En => z.2.isDeed) (zs'.take i)
          have h2 := pm.length_eq
          have h3 := hB.len
          rw [List.length_map]
          rw [List.length_take] at h1
          omega
        · rw [upd_same, et, List.filter_append]
          simp [hd, refs]
        · have nb : b ≠ D := ne_of_none e nD
          rw [upd_ne nb]
          exact sm _ _ e
      · have hd : z.2.isDeed = false := by
          cases hh : z.2.isDeed with
          | false => rfl
          | true =>
            refine absurd (decide_eq_true ?_) c
            rw [wd.mpr hh]
        refine ⟨?_, sm⟩
        rw [eD, et, List.filter_append]
        simp [hd]
    · rintro H' ⟨eD, sm⟩
      have el : zs'.take (refs zs').length = zs' := List.take_of_length_le (by rw [List.length_map]; exact Nat.le_refl _)
      rw [el] at eD
      exact q D zs' H' (eN.trans (.of sm)) (T1.ext sm) (Fresh.of eN nD) eD pm so
end
end Deed

namespace Deed
open PySem PySem.Spec PyProof.Rows L2 LamX
section
variable {P : Program} {w : World} {K : PySem.W.Frag} {mg : Str → Option Value} {base : Heap} {fRi fDe : Addr} {dRi dDe : FuncData} {T : List (Addr × Str)}
abbrev sActE : Stmt := topS 13
theorem scActE : FnScope ["book", "entry"] ["book"] (defScope sActE) := ⟨rfl, rfl, rfl, by decide +kernel, rfl, by decide +kernel, by decide +kernel⟩
theorem ok_actE {f : Addr} {fd : FuncData} {k : Nat} (F : Fun K "act_entries" "act_entries" sActE f fd) (R : RisD K mg base T fRi dRi) (mW : MgInt mg "WORD" 4) : FnOk P w K mg base CX0 (k + 3) f fd ["book"] (spPick (fun e => !e.isDeed) T) := by
  have GR : FnOk P w K mg base CX0 (k + 2) fRi dRi ["book"] (spRising T) := R.ok
  refine F.ok scActE (fun vs H Q E h => ?_) (fun cdv A outer s H vs Q E hr h => ?_)
  · obtain ⟨b, fk, t, n, age, zs, rfl, _⟩ := h
    rfl
  · obtain ⟨b, fk, t, n, age, zs, rfl, hB, hT, q⟩ := h
    refine ⟨_, pss_one (ps_ret (pe_lc (own := [("entry", 1)]) (g := gName 1) (by rfl) scActE.nd (pi_list (pe_call GR hr (by rfl) R.D.g R.D.F.kp R.D.b .nil pass0 (pa_cons (pv 0) pa_nil))) (blkOk_by (own := [("entry", 1)]) (N := ["book", "entry"]) (sc := defScope sActE) (by decide +kernel)) (fun _ _ _ _ _ => pg_name (i := 1) scActE.nd rfl (Or.inl rfl))
      (fun _ _ _ _ _ => pts_one (pt_cmpR op_ne (show PE _ _ (tOp (rIxT K) (tVar 1) (tC (.int 4))) from pe_ix ix_tup (pv 1) (pe_num (by rfl) mW) (fun _ _ => rfl)) pe_str (nomark _))) (fun _ _ _ _ _ => pv 1))), ?_⟩
    refine ⟨_, rfl, b, fk, t, n, age, zs, rfl, hB, hT, fun p zs' H1 eN T1 fr ep pm so => ?_⟩
    have hent : ∀ z ∈ zs', EntAt H1 z.1 z.2 := fun z hz => (hB.ent z (pm.mem_iff.mp hz)).kp (ExtN.tup eN)
    refine ⟨p, rfl, ⟨_, SqL.of ep⟩, fun D nD => ?_⟩
    have npD : p ≠ D := ne_of_none ep nD
    refine lc_list (K := K) (a := p) (xs := refs zs') (fun i H' => H' D = some (.lst (refs ((zs'.take i).filter fun z => !z.2.isDeed))) ∧ Same H1 H') ⟨upd_same, fun b o e => by rw [upd_ne (ne_of_none e nD)]; exact e⟩ (fun i H' _ h => SqL.of (h.2 _ _ ep)) ?_ ?_
    · rintro i x H' hx ⟨eD, sm⟩
      obtain ⟨z, hz, rfl⟩ := ref_at hx
      have hzm : z ∈ zs' := List.mem_of_getElem? hz
      obtain ⟨xs, ex, _, _, _, _, g4⟩ := ((hent z hzm).kp (Same.tup sm)).tup
      refine ⟨rfl, _, rfl, z.1, xs, 4, _, rfl, rfl, SqT.of ex, g4, rfl, _, rfl, ?_⟩
      have wd := (hB.ok.ok z.2 (List.mem_map.mpr ⟨z, pm.mem_iff.mp hzm, rfl⟩)).word
      have et := take_more hz
      refine ite2 (fun c => ?_) (fun c => ?_)
      · have hd : z.2.isDeed = false := by
          cases hh : z.2.isDeed with
          | false => rfl
          | true =>
            have c' : (!decide (V.str z.2.word = V.str "deed")) = true := c
            rw [wd.mpr hh] at c'
            simp at c'
        refine ⟨_, rfl, _, eD, small1000 ?_, ?_, fun b o e => ?_⟩
        · have h1 := List.length_filter_le (fun z : Addr × En => !z.2.isDeed) (zs'.take i)
          have h2 := pm.length_eq
          have h3 := hB.len
          rw [List.length_map]
          rw [List.length_take] at h1
          omega
        · rw [upd_same, et, List.filter_append]
          simp [hd, refs]
        · have nb : b ≠ D := ne_of_none e nD
          rw [upd_ne nb]
          exact sm _ _ e
      · have hd : z.2.isDeed = true := by
          cases hh : z.2.isDeed with
          | true => rfl
          | false =>
            refine absurd ?_ c
            show (!decide (V.str z.2.word = V.str "deed")) = true
            have : ¬ (V.str z.2.word = V.str "deed") := fun q => by
              injection q with q
              rw [wd.mp q] at hh
              cases hh
            rw [decide_eq_false this]
            rfl
        refine ⟨?_, sm⟩
        rw [eD, et, List.filter_append]
        simp [hd]
    · rintro H' ⟨eD, sm⟩
      have el : zs'.take (refs zs').length = zs' := List.take_of_length_le (by rw [List.length_map]; exact Nat.le_refl _)
      rw [el] at eD
      exact q D zs' H' (eN.trans (.of sm)) (T1.ext sm) (Fresh.of eN nD) eD pm so
end
end Deed

namespace Deed
open PySem PySem.Spec PyProof.Rows L2 LamX
theorem Tabs.kp {T : List (Addr × Str)} {H H' : Hp} {p : Addr} (t : Tabs T H) (k : Kp p H H') (P : PenAt H p) : Tabs T H' := fun q hq => by
  obtain ⟨ps, h1, h2, h3⟩ := t q hq
  refine ⟨ps, k _ _ (P.ne h1 fun _ z => by cases z) h1, h2, fun pos cv hc => ?_⟩
  obtain ⟨c, e1, e2⟩ := h3 pos cv hc
  exact ⟨c, e1, k _ _ (P.ne e2 fun _ z => by unfold CodeO at z; cases z) e2⟩
theorem ExtN.sqL {K : PySem.W.Frag} {H H' : Hp} {a : Addr} {xs : List V} (e : ExtN H H') (h : SqL K H a xs) : SqL K H' a xs := by
  rcases h with (z | ⟨o, z⟩) | z
  · exact .inl (.inl (e _ _ z fun ps z' => by cases z'))
  · exact .inl (.inr ⟨o, e _ _ z fun ps z' => by cases z'⟩)
  · exact .inr z
theorem ExtN.pen {H H' : Hp} {p : Addr} (e : ExtN H H') (h : PenAt H p) : PenAt H' p := by
  obtain ⟨x1, x2, x3, x4, z1, z2⟩ := h
  exact ⟨x1, x2, x3, x4, e _ _ z1 fun ps z => (by cases z), z2⟩
/-- with a pen that is new -/
theorem ExtN.kp {H H1 H2 : Hp} {p : Addr} (e : ExtN H H1) (n : H p = none) (k : Kp p H1 H2) : ExtN H H2 := fun b o z h => k b o (ne_of_none z n) (e b o z h)
theorem ExtN.put {H H' : Hp} {p : Addr} (e : ExtN H H') (f : Fresh H p) (o : HO) : ExtN H (upd H' p o) := fun b u z h => by
  rw [upd_ne (f.ne z h)]
  exact e b u z h
theorem rising_one : ∀ {l m : List Int}, l.Pairwise (· < ·) → m.Pairwise (· < ·) → (∀ x, x ∈ l ↔ x ∈ m) → l = m
  | [], [], _, _, _ => rfl
  | [], y :: m, _, _, h => absurd ((h y).mpr List.mem_cons_self) (by simp)
  | x :: l, [], _, _, h => absurd ((h x).mp List.mem_cons_self) (by simp)
  | x :: l, y :: m, h1, h2, h => by
    have a1 := List.pairwise_cons.mp h1
    have a2 := List.pairwise_cons.mp h2
    have exy : x = y := by
      have m1 := (h x).mp List.mem_cons_self
      have m2 := (h y).mpr List.mem_cons_self
      rcases List.mem_cons.mp m1 with e | e
      · exact e
      · rcases List.mem_cons.mp m2 with e' | e'
        · exact e'.symm
        · have := a1.1 y e'
          have := a2.1 x e
          omega
    subst exy
    congr 1
    refine rising_one a1.2 a2.2 fun z => ?_
    constructor
    · intro hz
      rcases List.mem_cons.mp ((h z).mp (List.mem_cons_of_mem _ hz)) with e | e
      · have := a1.1 z hz
        omega
      · exact e
    · intro hz
      rcases List.mem_cons.mp ((h z).mpr (List.mem_cons_of_mem _ hz)) with e | e
      · have := a2.1 z hz
        omega
      · exact e
/-- the picked numbers of an arrangement by numbers -/
def picked (φ : En → Bool) (zs : List (Addr × En)) : List Int := (zs.filter fun z => φ z.2).map fun z => z.2.num
theorem picked_up {φ : En → Bool} {zs : List (Addr × En)} (h : zs.Pairwise (fun a b => a.2.num < b.2.num)) : (picked φ zs).Pairwise (· < ·) := by
  unfold picked
  exact List.pairwise_map.mpr (h.filter _)
theorem mem_picked {φ : En → Bool} {zs : List (Addr × En)} {x : Int} : x ∈ picked φ zs ↔ ∃ z ∈ zs, φ z.2 = true ∧ z.2.num = x := by
  unfold picked
  simp only [List.mem_map, List.mem_filter]
  constructor
  · rintro ⟨z, ⟨h1, h2⟩, h3⟩
    exact ⟨z, h1, h2, h3⟩
  · rintro ⟨z, h1, h2, h3⟩
    exact ⟨z, ⟨h1, h2⟩, h3⟩
theorem picked_len (φ : En → Bool) (zs : List (Addr × En)) : (picked φ zs).length ≤ zs.length := by
  unfold picked
  rw [List.length_map]
  exact List.length_filter_le _ _
/-- two arrangements of the same entries -/
theorem picked_one {φ : En → Bool} {zs zs' : List (Addr × En)} (h : zs.Pairwise (fun a b => a.2.num < b.2.num)) (h' : zs'.Pairwise (fun a b => a.2.num < b.2.num)) (e : ∀ x, x ∈ ens zs ↔ x ∈ ens zs') : picked φ zs = picked φ zs' := by
  refine rising_one (picked_up h) (picked_up h') fun x => ?_
  rw [mem_picked, mem_picked]
  constructor
  · rintro ⟨z, h1, h2, h3⟩
    obtain ⟨z', h4, h5⟩ := List.mem_map.mp ((e z.2).mp (List.mem_map.mpr ⟨z, h1, rfl⟩))
    exact ⟨z', h4, by rw [h5]; exact h2, by rw [h5]; exact h3⟩
  · rintro ⟨z, h1, h2, h3⟩
    obtain ⟨z', h4, h5⟩ := List.mem_map.mp ((e z.2).mpr (List.mem_map.mpr ⟨z, h1, rfl⟩))
    exact ⟨z', h4, by rw [h5]; exact h2, by rw [h5]; exact h3⟩
theorem ens_perm {zs zs' : List (Addr × En)} (h : zs'.Perm zs) : ∀ x, x ∈ ens zs' ↔ x ∈ ens zs := fun x => (h.map _).mem_iff
end Deed

namespace Deed
open PySem PySem.Spec PyProof.Rows L2 LamX
/-! ### acts in force: the mathematics -/
def En.of (e : En) : Int := match e.kd with
  | .deed _ _ _ _ => -1
  | .act _ o => o
def isOpen (d k : Int) (e : En) : Bool := decide (e.day ≤ d) && decide (e.wri ≤ k)
/-- an entry of the word x that is of the number n -/
def isOn (x : Str) (n : Int) (e : En) : Bool := decide (e.word = x) && decide (e.of = n)
def frcF (es : List En) (d k : Int) : Nat → En → Bool
  | 0, _ => false
  | f + 1, e => isOpen d k e && es.all fun u => !(isOn "undone" e.num u && frcF es d k f u)
def frc (es : List En) (d k : Int) (e : En) : Bool := frcF es d k (31 - e.num).toNat e
theorem EnOk.of_lt {n : Nat} {ds as : List Int} {e : En} (h : EnOk n ds as e) (hd : e.isDeed = false) : e.of < e.num ∧ ((e.word = "undone" ∧ e.of ∈ as) ∨ ((e.word = "paid" ∨ e.word = "void") ∧ e.of ∈ ds)) := by
  unfold En.isDeed at hd
  unfold En.of En.word
  cases hk : e.kd with
  | deed g t rs ws =>
    rw [hk] at hd
    cases hd
  | act x o =>
    have h4 := h.2.2.2
    rw [hk] at h4
    exact ⟨h4.2, h4.1⟩
theorem isOn_act {n : Nat} {ds as : List Int} {e : En} {x : Str} {m : Int} (h : EnOk n ds as e) (hx : x ≠ "deed") (ho : isOn x m e = true) : e.isDeed = false ∧ e.word = x ∧ e.of = m := by
  unfold isOn at ho
  rw [Bool.and_eq_true] at ho
  have h1 := of_decide_eq_true ho.1
  have h2 := of_decide_eq_true ho.2
  refine ⟨?_, h1, h2⟩
  cases hd : e.isDeed with
  | false => rfl
  | true => exact absurd ((h.word.mpr hd).symm.trans h1) (fun z => hx z.symm)
theorem frcF_one {n : Nat} {es : List En} (hB : BkOk n es) (d k : Int) : ∀ (f g : Nat) (e : En), e ∈ es → (31 - e.num).toNat ≤ f → (31 - e.num).toNat ≤ g → frcF es d k f e = frcF es d k g e := by
  intro f
  induction f with
  | zero =>
    intro g e he hf _
    have := hB.rng e he
    omega
  | succ f ih =>
    intro g e he hf hg
    have re := hB.rng e he
    cases g with
    | zero => omega
    | succ g =>
      show (isOpen d k e && es.all fun u => !(isOn "undone" e.num u && frcF es d k f u)) = (isOpen d k e && es.all fun u => !(isOn "undone" e.num u && frcF es d k g u))
      congr 1
      have key : ∀ u ∈ es, (isOn "undone" e.num u && frcF es d k f u) = (isOn "undone" e.num u && frcF es d k g u) := fun u hu => by
        cases ho : isOn "undone" e.num u with
        | false => rfl
        | true =>
          obtain ⟨h1, h2, h3⟩ := isOn_act (hB.ok u hu) (by decide) ho
          have lt := ((hB.ok u hu).of_lt h1).1
          rw [ih g u hu (by omega) (by omega)]
      rw [Bool.eq_iff_iff, List.all_eq_true, List.all_eq_true]
      constructor
      · intro h u hu
        rw [← key u hu]
        exact h u hu
      · intro h u hu
        rw [key u hu]
        exact h u hu
theorem frcF_eq {n : Nat} {es : List En} (hB : BkOk n es) (d k : Int) {f : Nat} {e : En} (he : e ∈ es) (hf : (31 - e.num).toNat ≤ f) : frcF es d k f e = frc es d k e := frcF_one hB d k _ _ e he hf (Nat.le_refl _)
/-- in force: open, and no undone of it in force -/
theorem frc_eq {n : Nat} {es : List En} (hB : BkOk n es) (d k : Int) {e : En} (he : e ∈ es) : frc es d k e = (isOpen d k e && es.all fun u => !(isOn "undone" e.num u && frc es d k u)) := by
  have re := hB.rng e he
  rw [← frcF_eq hB d k (f := 31) he (by omega)]
  show (isOpen d k e && es.all fun u => !(isOn "undone" e.num u && frcF es d k 30 u)) = _
  congr 1
  have key : ∀ u ∈ es, (isOn "undone" e.num u && frcF es d k 30 u) = (isOn "undone" e.num u && frc es d k u) := fun u hu => by
    cases ho : isOn "undone" e.num u with
    | false => rfl
    | true =>
      obtain ⟨h1, h2, h3⟩ := isOn_act (hB.ok u hu) (by decide) ho
      have lt := ((hB.ok u hu).of_lt h1).1
      rw [frcF_eq hB d k hu (by omega)]
  rw [Bool.eq_iff_iff, List.all_eq_true, List.all_eq_true]
  constructor
  · intro h u hu
    rw [← key u hu]
    exact h u hu
  · intro h u hu
    rw [key u hu]
    exact h u hu
theorem frc_open {n : Nat} {es : List En} (hB : BkOk n es) {d k : Int} {e : En} (he : e ∈ es) (h : frc es d k e = true) : isOpen d k e = true := by
  rw [frc_eq hB d k he, Bool.and_eq_true] at h
  exact h.1
theorem num_inj {n : Nat} {es : List En} (hB : BkOk n es) {e e' : En} (he : e ∈ es) (he' : e' ∈ es) (h : e.num = e'.num) : e = e' := by
  obtain ⟨i1, hi1, ei1⟩ := List.mem_iff_getElem.mp he
  obtain ⟨i2, hi2, ei2⟩ := List.mem_iff_getElem.mp he'
  have h1 : (es.map (·.num))[i1]? = some e.num := by rw [List.getElem?_map, List.getElem?_eq_getElem hi1, ei1]; rfl
  have h2 : (es.map (·.num))[i2]? = some e.num := by rw [List.getElem?_map, List.getElem?_eq_getElem hi2, ei2, h]; rfl
  have h3 := nd_ix hB.nd h1 h2
  subst h3
  rw [← ei1, ← ei2]
end Deed

namespace Deed
open PySem PySem.Spec PyProof.Rows L2 LamX
/-! ### the law's own book of entries -/
abbrev dks (zs : List (Addr × En)) : List (Key × V) := zs.map fun z => (Sum.inl z.2.num, V.ref z.1)
structure EdAt (H : Hp) (ed : Addr) (n : Nat) (zs : List (Addr × En)) : Prop where
  at_ : H ed = some (.dK (dks zs))
  ent : ∀ z ∈ zs, EntAt H z.1 z.2
  ok : BkOk n (ens zs)
  len : zs.length ≤ 16
theorem EdAt.same {H H' : Hp} {ed : Addr} {n : Nat} {zs : List (Addr × En)} (h : EdAt H ed n zs) (s : Same H H') : EdAt H' ed n zs := ⟨s _ _ h.at_, fun z hz => (h.ent z hz).kp (Same.tup s), h.ok, h.len⟩
theorem valV_dks {zs : List (Addr × En)} (nd : ((ens zs).map (·.num)).Nodup) {z : Addr × En} (hz : z ∈ zs) : valV (dks zs) (.inl z.2.num) = some (.ref z.1) := by
  induction zs with
  | nil => cases hz
  | cons y r ih =>
    have nd' : (y.2.num :: (ens r).map (·.num)).Nodup := nd
    have h2 := List.nodup_cons.mp nd'
    show Option.map (·.2) (List.find? (fun kv => decide (kv.1 = (Sum.inl z.2.num : Key))) ((Sum.inl y.2.num, V.ref y.1) :: dks r)) = _
    rw [List.find?_cons]
    rcases List.mem_cons.mp hz with rfl | hz
    · simp
    · have hne : ¬ (Sum.inl y.2.num : Key) = Sum.inl z.2.num := fun q => by
        injection q with q
        exact h2.1 (List.mem_map.mpr ⟨z.2, List.mem_map.mpr ⟨z, hz, rfl⟩, q.symm⟩)
      rw [decide_eq_false hne]
      exact ih h2.2 hz
theorem EdAt.get {H : Hp} {ed : Addr} {n : Nat} {zs : List (Addr × En)} (h : EdAt H ed n zs) {z : Addr × En} (hz : z ∈ zs) : DGet H ed (.int z.2.num) (some (.ref z.1)) := by
  have := DGet.k (k := Sum.inl z.2.num) h.at_
  rw [valV_dks h.ok.nd hz] at this
  exact this
theorem mem_inS {x : Str} {ws : List Str} : inV (.str x) (ws.map V.str) = decide (x ∈ ws) := by
  induction ws with
  | nil => simp [inV]
  | cons m r ih =>
    have e : inV (.str x) ((m :: r).map V.str) = (eqV (.str m) (.str x) || inV (.str x) (r.map V.str)) := by simp [inV]
    have e2 : eqV (.str m) (.str x) = decide (m = x) := by
      first | rfl | simp [eqV] | (unfold eqV; simp)
    rw [e, ih, e2]
    by_cases h : m = x
    · subst h
      simp
    · have h' : ¬ x = m := fun z => h z.symm
      simp [h, h']
theorem flat_strs (ws : List Str) : (ws.map V.str).all flatV = true := by
  induction ws with
  | nil => rfl
  | cons n r ih =>
    rw [List.map_cons, List.all_cons, ih]
    rfl
theorem EntAt.five {H : Hp} {a : Addr} {e : En} (h : EntAt H a e) (hd : e.isDeed = false) : ∃ xs, H a = some (.tup xs) ∧ atI xs 5 = some (.int e.of) := by
  unfold EntAt at h
  unfold En.isDeed at hd
  unfold En.of
  cases hk : e.kd with
  | deed g t rs ws =>
    rw [hk] at hd
    cases hd
  | act x o =>
    rw [hk] at h
    exact ⟨_, h, atI_nat (j := 5) rfl⟩
section
variable {P : Program} {w : World} {K : PySem.W.Frag} {mg : Str → Option Value} {base : Heap} {T : List (Addr × Str)} {fOp fOf : Addr} {dOp dOf : FuncData}
abbrev sOpen : Stmt := topS 37
abbrev nOpen : List Str := ["_law_entry_here", "_law_d", "_law_k"]
theorem scOpen : FnScope nOpen nOpen (defScope sOpen) := ⟨rfl, rfl, rfl, by decide +kernel, rfl, by decide +kernel, by decide +kernel⟩
def spOpen : Sp := fun vs H Q _ => ∃ (a : Addr) (e : En) (d k : Int), vs = [.ref a, .int d, .int k] ∧ EntAt H a e ∧ Q (.bl (isOpen d k e)) H
theorem ok_open {f : Addr} {fd : FuncData} {k : Nat} (F : Fun K "_law_open" "_law_open" sOpen f fd) : FnOk P w K mg base CX0 (k + 1) f fd nOpen spOpen := by
  refine F.ok scOpen (fun vs H Q E h => ?_) (fun cdv A outer s H vs Q E hr h => ?_)
  · obtain ⟨a, e, d, k, rfl, _⟩ := h
    rfl
  · obtain ⟨a, e, d, k, rfl, hE, q⟩ := h
    refine ⟨_, pss_one (ps_ret (pe_and (pe_cmpR op_le (pe_ix ix_tup (pv 0) pe_int (fun _ _ => rfl)) (pv 1) (nomark _)) (pe_one (pe_cmpR op_le (pe_ix ix_tup (pv 0) pe_int (fun _ _ => rfl)) (pv 2) (nomark _))))), ?_⟩
    obtain ⟨xs, ex, _, g1, g2, _⟩ := hE.tup
    refine ⟨_, rfl, a, xs, 1, _, rfl, rfl, SqT.of ex, g1, _, rfl, _, _, rfl, rfl, _, rfl, ?_⟩
    unfold isOpen at q
    refine ite2 (fun c => ?_) (fun c => ?_)
    · have c' : decide (e.day ≤ d) = true := c
      rw [c', Bool.true_and] at q
      exact ⟨_, rfl, a, xs, 2, _, rfl, rfl, SqT.of ex, g2, _, rfl, _, _, rfl, rfl, q⟩
    · have c' : decide (e.day ≤ d) = false := by
        have : ¬ decide (e.day ≤ d) = true := c
        simpa using this
      rw [c', Bool.false_and] at q
      exact q
/-! ### those of a number -/
abbrev sOf : Stmt := topS 38
abbrev nOf : List Str := ["_law_entries_here", "_law_number", "_law_words_here", "_law_one"]
abbrev pOf : List Str := ["_law_entries_here", "_law_number", "_law_words_here"]
theorem scOf : FnScope nOf pOf (defScope sOf) := ⟨rfl, rfl, rfl, by decide +kernel, rfl, by decide +kernel, by decide +kernel⟩
def onAny (ws : List Str) (m : Int) (e : En) : Bool := decide (e.word ∈ ws) && decide (e.of = m)
def spOf : Sp := fun vs H Q _ => ∃ (ed wa : Addr) (m : Int) (ws : List Str) (n : Nat) (zs : List (Addr × En)), vs = [.ref ed, .int m, .ref wa] ∧ EdAt H ed n zs ∧ H wa = some (.tup (ws.map V.str)) ∧ ("deed" : Str) ∉ ws ∧
  ∀ p (ns : List Int) H', Same H H' → H p = none → H' p = some (.lst (ns.map V.int)) → ns.Perm (((ens zs).filter (onAny ws m)).map (·.num)) → ns.Pairwise (· ≤ ·) → Q (.ref p) H'
def t_of (K : PySem.W.Frag) : TT := tAnd (tTest (tOp (rIn K false) (tOp (rIxT K) (tDGet (tVar 0) (tVar 3)) (tC (.int 4))) (tVar 2))) (tTest (tOp rEq (tOp (rIxT K) (tDGet (tVar 0) (tVar 3)) (tC (.int 5))) (tVar 1)))
theorem ok_of {f : Addr} {fd : FuncData} {k : Nat} (F : Fun K "_law_of" "_law_of" sOf f fd) (ms : mg "sorted" = none) : FnOk P w K mg base CX0 (k + 1) f fd pOf spOf := by
  refine F.ok scOf (fun vs H Q E h => ?_) (fun cdv A outer s H vs Q E hr h => ?_)
  · obtain ⟨ed, wa, m, ws, n, zs, rfl, _⟩ := h
    rfl
  · obtain ⟨ed, wa, m, ws, n, zs, rfl, hE, hW, hnd, q⟩ := h
    have hu := hu_of hr
    refine ⟨_, pss_one (ps_ret (pe_callB cr_sortedI (by rfl) ms (by decide +kernel) (pa_cons (pe_lock (pe_lc (own := [("_law_one", 3)]) (g := gName 3) (by rfl) scOf.nd (pi_keys (pv 0)) (blkOk_by (own := [("_law_one", 3)]) (N := nOf) (sc := defScope sOf) (by decide +kernel)) (fun _ _ _ _ _ => pg_name (i := 3) scOf.nd rfl (Or.inl rfl))
      (fun _ _ _ _ _ => show PTs _ _ (t_of K) from pts_one (PW.pt (pw_and (pt_cmpR op_in_seq (pe_ix ix_tup (pe_dget hu (pv 0) (pv 3) (fun _ _ => rfl)) pe_int (fun _ _ => rfl)) (pv 2) (by rfl)) (pw_and1 (pt_cmpR op_eq (pe_ix ix_tup (pe_dget hu (pv 0) (pv 3) (fun _ _ => rfl)) pe_int (fun _ _ => rfl)) (pv 1) (nomark _)))))) (fun _ _ _ _ _ => pv 3))) pa_nil))), ?_⟩
    refine ⟨ed, _, hE.at_, trivial, fun od => ?_⟩
    have hL : ∀ b o, b ≠ ed → H b = some o → (upd H ed (.frz od (.dK (dks zs)))) b = some o := fun b o nb e => by
      rw [upd_ne nb]
      exact e
    have hLe : (upd H ed (.frz od (.dK (dks zs)))) ed = some (.frz od (.dK (dks zs))) := upd_same
    have hLn : ∀ b, (upd H ed (.frz od (.dK (dks zs)))) b = none → H b = none := fun b e => by
      have nb : b ≠ ed := fun z => by
        rw [z, upd_same] at e
        cases e
      rw [upd_ne nb] at e
      exact e
    generalize (upd H ed (.frz od (.dK (dks zs)))) = HL at hL hLe hLn
    have tupL : KpT H HL := fun b xs e => hL b _ (fun z => by rw [z, hE.at_] at e; cases e) e
    refine ⟨_, rfl, ed, od, rfl, .inl ⟨dks zs, hLe, fun D nD => ?_⟩⟩
    have nDe : ed ≠ D := ne_of_none hLe nD
    refine lc_it walk_keys (fun i H' => H' D = some (.lst ((((ens zs).take i).filter (onAny ws m)).map (fun e => V.int e.num))) ∧ Same HL H') ⟨upd_same, fun b o e => by rw [upd_ne (ne_of_none e nD)]; exact e⟩ (fun i H' _ h => h.2 _ _ hLe) ?_ ?_
    · rintro i x H' H'' hi ⟨eD, sm⟩ ⟨rfl, kk, vv, hkv, rfl⟩
      rw [List.getElem?_map] at hkv
      cases hz : zs[i]? with
      | none => rw [hz] at hkv; cases hkv
      | some z =>
        rw [hz] at hkv
        injection hkv with hkv
        injection hkv with hk hv
        subst hk
        have hzm : z ∈ zs := List.mem_of_getElem? hz
        have hzi : (ens zs)[i]? = some z.2 := by rw [List.getElem?_map, hz]; rfl
        have et := take_more hzi
        have dg : DGet H'' ed (.int z.2.num) (some (.ref z.1)) := by
          have h1 : DGet H'' ed (kV (.inl z.2.num)) (valV (dks zs) (.inl z.2.num)) := .inl ⟨dks zs, _, .inr ⟨od, sm _ _ hLe⟩, rfl, rfl⟩
          rw [valV_dks hE.ok.nd hzm] at h1
          exact h1
        have kT : KpT H H'' := tupL.trans (Same.tup sm)
        have hEz := (hE.ent z hzm).kp kT
        obtain ⟨xs, ex, _, _, _, _, g4⟩ := hEz.tup
        have hW'' := kT _ _ hW
        refine ⟨rfl, _, rfl, _, rfl, ed, _, rfl, dg, z.1, xs, 4, _, rfl, rfl, SqT.of ex, g4, _, rfl, wa, _, rfl, .inr (SqT.of hW''), rfl, flat_strs ws, _, rfl, ?_⟩
        rw [mem_inS]
        have okz := hE.ok.ok z.2 (List.mem_map.mpr ⟨z, hzm, rfl⟩)
        have out : ∀ hno : onAny ws m z.2 = false, H'' D = some (.lst ((((ens zs).take (i + 1)).filter (onAny ws m)).map (fun e => V.int e.num))) ∧ Same HL H'' := fun hno => by
          refine ⟨?_, sm⟩
          rw [eD, et, List.filter_append]
          simp [hno]
        refine ite2 (fun c1 => ?_) (fun c1 => ?_)
        · have c1' : z.2.word ∈ ws := of_decide_eq_true c1
          have hact : z.2.isDeed = false := by
            cases hh : z.2.isDeed with
            | false => rfl
            | true =>
              rw [okz.word.mpr hh] at c1'
              exact absurd c1' hnd
          obtain ⟨xs5, ex5, g5⟩ := hEz.five hact
          refine ⟨_, rfl, _, rfl, ed, _, rfl, dg, z.1, xs5, 5, _, rfl, rfl, SqT.of ex5, g5, _, rfl, rfl, _, rfl, ?_⟩
          refine ite2 (fun c2 => ?_) (fun c2 => ?_)
          · have c2' : z.2.of = m := by
              have := of_decide_eq_true c2
              injection this
            have hyes : onAny ws m z.2 = true := by
              unfold onAny
              rw [decide_eq_true c1', decide_eq_true c2']
              rfl
            refine ⟨_, rfl, _, eD, small1000 ?_, ?_, fun b o e => ?_⟩
            · have h1 := List.length_filter_le (onAny ws m) ((ens zs).take i)
              have h3 := hE.len
              rw [List.length_map]
              rw [List.length_take, List.length_map] at h1
              omega
            · rw [upd_same, et, List.filter_append]
              simp [hyes, kV]
            · rw [upd_ne (ne_of_none e nD)]
              exact sm _ _ e
          · refine out ?_
            have c2' : ¬ z.2.of = m := fun z0 => c2 (decide_eq_true (by rw [z0]))
            unfold onAny
            rw [decide_eq_false c2', Bool.and_false]
        · refine iteF (out ?_)
          have c1' : ¬ z.2.word ∈ ws := fun z0 => c1 (decide_eq_true z0)
          unfold onAny
          rw [decide_eq_false c1', Bool.false_and]
    · rintro H' ⟨eD, sm⟩
      have el : (ens zs).take (dks zs).length = ens zs := List.take_of_length_le (by rw [List.length_map, List.length_map]; exact Nat.le_refl _)
      rw [el] at eD
      have hed := sm _ _ hLe
      refine ⟨hed, ?_⟩
      have smU : Same H (upd H' ed (.dK (dks zs))) := fun b o e => by
        by_cases hb : b = ed
        · rw [hb] at e ⊢
          rw [upd_same, ← hE.at_]
          exact e
        · rw [upd_ne hb]
          exact sm _ _ (hL b o hb e)
      have eDU : (upd H' ed (.dK (dks zs))) D = some (.lst (((((ens zs).filter (onAny ws m)).map (·.num))).map V.int)) := by
        rw [upd_ne nDe.symm, eD, List.map_map]
        rfl
      generalize (upd H' ed (.dK (dks zs))) = HU at smU eDU
      refine ⟨D, _, rfl, SqL.of eDU, fun ns p pm up np => ?_⟩
      exact q p ns _ (smU.trans fun b o e => by rw [upd_ne (ne_of_none e np)]; exact e) (smU.free np) upd_same pm up
end
end Deed

namespace Deed
open PySem PySem.Spec PyProof.Rows L2 LamX
section
variable {P : Program} {w : World} {K : PySem.W.Frag} {mg : Str → Option Value} {base : Heap} {T : List (Addr × Str)} {fOp fOf fFo fDr : Addr} {dOp dOf dFo dDr : FuncData}
abbrev OpenD (K : PySem.W.Frag) (mg : Str → Option Value) := Df K mg "_law_open" sOpen nOpen
abbrev OfD (K : PySem.W.Frag) (mg : Str → Option Value) := Df K mg "_law_of" sOf pOf
/-! ### whether an act is in force, by itself -/
abbrev sForce : Stmt := topS 39
abbrev nForce : List Str := ["_law_entries_here", "_law_act", "_law_d", "_law_k", "_law_one"]
abbrev pForce : List Str := ["_law_entries_here", "_law_act", "_law_d", "_law_k"]
abbrev ForceD (K : PySem.W.Frag) (mg : Str → Option Value) := Df K mg "_law_force" sForce pForce
theorem scForce : FnScope nForce pForce (defScope sForce) := ⟨rfl, rfl, rfl, by decide +kernel, rfl, by decide +kernel, by decide +kernel⟩
def spForce (fu : Nat) : Sp := fun vs H Q _ => ∃ (ed : Addr) (e : En) (d k : Int) (n : Nat) (zs : List (Addr × En)), vs = [.ref ed, .int e.num, .int d, .int k] ∧ EdAt H ed n zs ∧ e ∈ ens zs ∧ (31 - e.num).toNat ≤ fu ∧ ∀ H', Same H H' → Q (.bl (frc (ens zs) d k e)) H'
theorem no_force {f : Addr} {fd : FuncData} {k : Nat} : FnOk P w K mg base CX0 k f fd pForce (spForce 0) := by
  have no : ∀ vs H Q E, ¬ spForce 0 vs H Q E := fun vs H Q E h => by
    obtain ⟨ed, e, d, k, n, zs, _, hE, he, hf, _⟩ := h
    have := hE.ok.rng e he
    omega
  exact ⟨fun vs H Q E h => absurd h (no vs H Q E), fun A outer s H args us vs Q E _ _ _ _ h => absurd h (no vs H Q E)⟩
theorem step_force {f : Addr} {fd : FuncData} {fu k : Nat} (D : ForceD K mg f fd) (DO : OpenD K mg fOp dOp) (DF : OfD K mg fOf dOf) (ms : mg "sorted" = none) (G : FnOk P w K mg base CX0 (k + 1) f fd pForce (spForce fu)) : FnOk P w K mg base CX0 (k + 2) f fd pForce (spForce (fu + 1)) := by
  have GO : FnOk P w K mg base CX0 (k + 1) fOp dOp nOpen spOpen := ok_open DO.F
  have GF : FnOk P w K mg base CX0 (k + 1) fOf dOf pOf spOf := ok_of DF.F ms
  refine D.F.ok scForce (fun vs H Q E h => ?_) (fun cdv A outer s H vs Q E hr h => ?_)
  · obtain ⟨ed, e, d, k, n, zs, rfl, _⟩ := h
    rfl
  · obtain ⟨ed, e, d, k', n, zs, rfl, hE, he, hf, q⟩ := h
    have hu := hu_of hr
    refine ⟨_, pss_cons (ps_if (pt_not (pt_val (pe_call GO hr (by rfl) DO.g DO.F.kp DO.b .nil pass0 (pa_cons (pe_dget hu (pv 0) (pv 1) (fun _ _ => rfl)) (pa_cons (pv 2) (pa_cons (pv 3) pa_nil)))))) (pss_one (ps_ret pe_bl)) pss_nil)
      (pss_one (ps_ret (pe_cmpR (op_eqD hr.units) (pe_lc (own := [("_law_one", 4)]) (g := gName 4) (by rfl) scForce.nd (pi_list (pe_call GF hr (by rfl) DF.g DF.F.kp DF.b .nil pass0 (pa_cons (pv 0) (pa_cons (pv 1) (pa_cons (pe_tup (pa_cons pe_str pa_nil)) pa_nil))))) (blkOk_by (own := [("_law_one", 4)]) (N := nForce) (sc := defScope sForce) (by decide +kernel)) (fun _ _ _ _ _ => pg_name (i := 4) scForce.nd rfl (Or.inl rfl))
        (fun _ _ _ _ _ => pts_one (pt_val (pe_call G hr (by rfl) D.g D.F.kp D.b .nil pass0 (pa_cons (pv 0) (pa_cons (pv 4) (pa_cons (pv 2) (pa_cons (pv 3) pa_nil))))))) (fun _ _ _ _ _ => pv 4)) (pe_lst pa_nil) (nomark _)))), ?_⟩
    obtain ⟨z, hz, rfl⟩ := List.mem_map.mp he
    refine ⟨_, rfl, _, rfl, ed, _, rfl, hE.get hz, _, rfl, _, rfl, z.1, z.2, d, k', rfl, hE.ent z hz, _, rfl, ?_⟩
    have fq := frc_eq hE.ok d k' he
    cases hop : isOpen d k' z.2 with
    | false =>
      refine iteT ?_
      rw [hop, Bool.false_and] at fq
      rw [fq] at q
      exact q H (Same.refl H)
    | true =>
      refine iteF ?_
      rw [hop, Bool.true_and] at fq
      refine ⟨_, rfl, _, rfl, (by show 1 ≤ sizeLine; decide), fun wa nwa => ?_⟩
      have s1 : Same H (upd H wa (.tup [.str "undone"])) := fun b o e => by rw [upd_ne (ne_of_none e nwa)]; exact e
      have e1 : (upd H wa (.tup [.str "undone"])) wa = some (.tup (([("undone" : Str)] : List Str).map V.str)) := upd_same
      generalize (upd H wa (.tup [.str "undone"])) = H1 at s1 e1
      refine ⟨ed, wa, z.2.num, ["undone"], n, zs, rfl, hE.same s1, e1, by decide, fun p ns H2 s2 np ep pm up => ?_⟩
      have s12 := s1.trans s2
      refine ⟨p, rfl, ⟨_, SqL.of ep⟩, fun D2 nD => ?_⟩
      refine lc_list (K := K) (a := p) (xs := ns.map V.int) (fun i H' => ∃ rs : List Int, H' D2 = some (.lst (rs.map V.int)) ∧ Same H2 H' ∧ rs.length ≤ i ∧ (rs = [] ↔ ∀ x ∈ ns.take i, ∀ u ∈ ens zs, u.num = x → frc (ens zs) d k' u = false)) ⟨[], upd_same, fun b o e => by rw [upd_ne (ne_of_none e nD)]; exact e, Nat.le_refl _, by simp⟩ (fun i H' _ h => ?_) ?_ ?_
      · obtain ⟨rs, _, sm, _⟩ := h
        exact SqL.of (sm _ _ ep)
      · rintro i x H' hx ⟨rs, eD, sm, hrl, hiff⟩
        rw [List.getElem?_map] at hx
        cases hn : ns[i]? with
        | none => rw [hn] at hx; cases hx
        | some m =>
          rw [hn] at hx
          injection hx with hx
          subst hx
          have hmm : m ∈ ((ens zs).filter (onAny ["undone"] z.2.num)).map (·.num) := pm.mem_iff.mp (List.mem_of_getElem? hn)
          obtain ⟨u, hu1, rfl⟩ := List.mem_map.mp hmm
          obtain ⟨hu2, hu3⟩ := List.mem_filter.mp hu1
          have hon : isOn "undone" z.2.num u = true := by
            unfold onAny at hu3
            unfold isOn
            simpa using hu3
          obtain ⟨h1, h2, h3⟩ := isOn_act (hE.ok.ok u hu2) (by decide) hon
          have lt := ((hE.ok.ok u hu2).of_lt h1).1
          have ru := hE.ok.rng u hu2
          have et := take_more hn
          have hlen : ns.length ≤ 16 := by
            rw [pm.length_eq, List.length_map]
            have a1 := List.length_filter_le (onAny ["undone"] z.2.num) (ens zs)
            rw [List.length_map] at a1
            have a2 := hE.len
            omega
          have hi : i < ns.length := (List.getElem?_eq_some_iff.mp hn).1
          refine ⟨rfl, _, rfl, _, rfl, _, rfl, _, rfl, ed, u, d, k', n, zs, rfl, (hE.same s12).same sm, hu2, by omega, fun H3 s3 => ⟨_, rfl, ?_⟩⟩
          cases hfr : frc (ens zs) d k' u with
          | true =>
            refine iteT ?_
            refine ⟨_, rfl, _, s3 _ _ eD, small1000 (by rw [List.length_map]; omega), rs ++ [u.num], ?_, fun b o e => ?_, ?_, ?_⟩
            · rw [upd_same, List.map_append]
              rfl
            · rw [upd_ne (ne_of_none e nD)]
              exact s3 _ _ (sm _ _ e)
            · rw [List.length_append]
              show rs.length + 1 ≤ i + 1
              omega
            · constructor
              · intro h
                exact absurd h (by simp)
              · intro h
                have := h u.num (by rw [et]; exact List.mem_append_right _ List.mem_cons_self) u hu2 rfl
                rw [hfr] at this
                cases this
          | false =>
            refine iteF ?_
            refine ⟨rs, s3 _ _ eD, sm.trans s3, by omega, ?_⟩
            rw [hiff, et]
            constructor
            · intro h x hx u' hu' he'
              rcases List.mem_append.mp hx with hx | hx
              · exact h x hx u' hu' he'
              · rw [List.mem_singleton.mp hx] at he'
                rw [num_inj hE.ok hu' hu2 he']
                exact hfr
            · intro h x hx u' hu' he'
              exact h x (List.mem_append_left _ hx) u' hu' he'
      · rintro H' ⟨rs, eD, sm, hrl, hiff⟩
        have el : ns.take (ns.map V.int).length = ns := List.take_of_length_le (by rw [List.length_map]; exact Nat.le_refl _)
        rw [el] at hiff
        refine ⟨Nat.zero_le _, fun g ng => ?_⟩
        have s3 : Same H' (upd H' g (.lst [])) := fun b o e => by rw [upd_ne (ne_of_none e ng)]; exact e
        have eg : (upd H' g (.lst [])) g = some (.lst []) := upd_same
        refine ⟨.list (rs.map .int), .list (([] : List Int).map .int), .lst (SqL.of (s3 _ _ eD)) (dp_ints rs), .lst (SqL.of eg) (dp_ints []), shaped_ints rs, shaped_ints [], ?_⟩
        rw [eqv_ints]
        have fin : decide (rs = []) = frc (ens zs) d k' z.2 := by
          rw [fq, Bool.eq_iff_iff, decide_eq_true_iff, hiff, List.all_eq_true]
          constructor
          · intro h u hu
            cases ho : isOn "undone" z.2.num u with
            | false => rfl
            | true =>
              have hm : u.num ∈ ns := pm.mem_iff.mpr (List.mem_map.mpr ⟨u, List.mem_filter.mpr ⟨hu, by
                unfold isOn at ho
                unfold onAny
                simpa using ho⟩, rfl⟩)
              rw [h u.num hm u hu rfl]
              rfl
          · intro h x hx u hu he'
            obtain ⟨u', hu1, hu2⟩ := List.mem_map.mp (pm.mem_iff.mp hx)
            obtain ⟨hu3, hu4⟩ := List.mem_filter.mp hu1
            have ee : u = u' := num_inj hE.ok hu hu3 (he'.trans hu2.symm)
            subst ee
            have ho : isOn "undone" z.2.num u = true := by
              unfold onAny at hu4
              unfold isOn
              simpa using hu4
            have := h u hu
            rw [ho, Bool.true_and] at this
            simpa using this
        rw [fin]
        exact q _ (s12.trans (sm.trans s3))
theorem ok_force {f : Addr} {fd : FuncData} (D : ForceD K mg f fd) (DO : OpenD K mg fOp dOp) (DF : OfD K mg fOf dOf) (ms : mg "sorted" = none) : ∀ fu : Nat, FnOk P w K mg base CX0 (fu + 1) f fd pForce (spForce fu)
  | 0 => no_force
  | fu + 1 => step_force D DO DF ms (ok_force D DO DF ms fu)
end
end Deed

namespace Deed
open PySem PySem.Spec PyProof.Rows L2 LamX
theorem putK_new {kvs : List (Key × V)} {k : Key} {v : V} (h : k ∉ kvs.map (·.1)) : putK kvs k v = kvs ++ [(k, v)] := by
  unfold putK
  rw [if_neg]
  intro z
  obtain ⟨kv, h1, h2⟩ := List.any_eq_true.mp z
  exact h (List.mem_map.mpr ⟨kv, h1, of_decide_eq_true h2⟩)
theorem mergeK_new : ∀ (more kvs : List (Key × V)), ((kvs ++ more).map (·.1)).Nodup → mergeK kvs more = kvs ++ more
  | [], kvs, _ => (List.append_nil kvs).symm
  | (k, v) :: r, kvs, h => by
    show mergeK (putK kvs k v) r = kvs ++ (k, v) :: r
    have hk : k ∉ kvs.map (·.1) := fun z => by
      rw [List.map_append, List.nodup_append] at h
      exact h.2.2 k z k List.mem_cons_self rfl
    rw [putK_new hk, mergeK_new r (kvs ++ [(k, v)]) (by rw [List.append_assoc]; exact h), List.append_assoc]
    rfl
theorem dks_nodup {zs : List (Addr × En)} (h : ((ens zs).map (·.num)).Nodup) : ((dks zs).map (·.1)).Nodup := by
  have e : (dks zs).map (·.1) = ((ens zs).map (·.num)).map (Sum.inl : Int → Key) := by
    simp [dks, ens, List.map_map, Function.comp_def]
  rw [e]
  exact List.pairwise_map.mpr (h.imp fun hne e => hne (Sum.inl.inj e))
theorem paired_mono {α β : Type} {F G : α → β → Prop} {l : List α} {m : List β} (h : Paired F l m) (i : ∀ a b, F a b → G a b) : Paired G l m := by
  induction h with
  | nil => exact .nil
  | cons a _ ih => exact .cons (i _ _ a) ih
section
variable {P : Program} {w : World} {K : PySem.W.Frag} {mg : Str → Option Value} {base : Heap} {T : List (Addr × Str)} {fDr : Addr} {dDr : FuncData}
/-! ### the entries as a dict -/
abbrev sEnts : Stmt := topS 42
abbrev nEnts : List Str := ["_law_book_here", "_law_entry_here"]
theorem scEnts : FnScope nEnts ["_law_book_here"] (defScope sEnts) := ⟨rfl, rfl, rfl, by decide +kernel, rfl, by decide +kernel, by decide +kernel⟩
def spEnts : Sp := fun vs H Q _ => ∃ (b fk t : Addr) (n : Nat) (age : Int) (zs : List (Addr × En)), vs = [.ref b] ∧ BookAt H b fk t n age zs ∧ ∀ ed H', Same H H' → H ed = none → EdAt H' ed n zs → Q (.ref ed) H'
theorem ok_ents {f : Addr} {fd : FuncData} {k : Nat} (F : Fun K "_law_entries" "_law_entries" sEnts f fd) (md : mg "dict" = none) : FnOk P w K mg base CX0 (k + 1) f fd ["_law_book_here"] spEnts := by
  refine F.ok scEnts (fun vs H Q E h => ?_) (fun cdv A outer s H vs Q E hr h => ?_)
  · obtain ⟨b, fk, t, n, age, zs, rfl, _⟩ := h
    rfl
  · obtain ⟨b, fk, t, n, age, zs, rfl, hB, q⟩ := h
    refine ⟨_, pss_one (ps_ret (pe_callTy (call_dictP rfl) (by rfl) md (by decide +kernel) (pa_cons (pe_lc (own := [("_law_entry_here", 1)]) (g := gName 1) (by rfl) scEnts.nd (pi_tup (pe_ix ix_tup (pv 0) pe_int (fun _ _ => rfl))) (blkOk_by (own := [("_law_entry_here", 1)]) (N := nEnts) (sc := defScope sEnts) (by decide +kernel)) (fun _ _ _ _ _ => pg_name (i := 1) scEnts.nd rfl (Or.inl rfl)) (fun _ _ _ _ _ => pts_nil)
      (fun _ _ _ _ _ => show PE _ _ (tTup (tCons (tOp (rIxT K) (tVar 1) (tC (.int 0))) (tCons (tVar 1) tNil))) from pe_tup (pa_cons (pe_ix ix_tup (pv 1) pe_int (fun _ _ => rfl)) (pa_cons (pv 1) pa_nil)))) pa_nil))), ?_⟩
    refine ⟨_, rfl, b, _, 2, _, rfl, rfl, SqT.of hB.at_, atI_nat (j := 2) rfl, t, rfl, ⟨_, SqT.of hB.ents⟩, fun D nD => ?_⟩
    refine lc_tup (K := K) (a := t) (xs := refs zs) (fun i H' => ∃ ps : List Addr, H' D = some (.lst (ps.map V.ref)) ∧ Same H H' ∧ ps.length = i ∧ Paired (fun p (kv : Key × V) => H' p = some (.tup [kV kv.1, kv.2])) ps (dks (zs.take i))) ⟨[], upd_same, fun b o e => by rw [upd_ne (ne_of_none e nD)]; exact e, rfl, .nil⟩ (fun i H' _ h => ?_) ?_ ?_
    · obtain ⟨_, _, sm, _⟩ := h
      exact SqT.of (sm _ _ hB.ents)
    · rintro i x H' hx ⟨ps, eD, sm, hpl, hpr⟩
      obtain ⟨z, hz, rfl⟩ := ref_at hx
      have hzm : z ∈ zs := List.mem_of_getElem? hz
      have hi : i < zs.length := (List.getElem?_eq_some_iff.mp hz).1
      obtain ⟨xs, ex, g0, _⟩ := ((hB.ent z hzm).kp (Same.tup sm)).tup
      refine ⟨rfl, ?_⟩
      unfold tYes
      dsimp only
      rw [if_pos rfl]
      refine ⟨_, rfl, z.1, xs, 0, _, rfl, rfl, SqT.of ex, g0, _, rfl, (by show 2 ≤ sizeLine; decide), fun r nr => ?_⟩
      have nrD : D ≠ r := ne_of_none eD nr
      have len := hB.len
      refine ⟨_, by rw [upd_ne nrD]; exact eD, small1000 (by rw [List.length_map]; omega), ps ++ [r], ?_, fun b o e => ?_, ?_, ?_⟩
      · rw [upd_same, List.map_append]
        rfl
      · rw [upd_ne (ne_of_none e nD), upd_ne (ne_of_none (sm _ _ e) nr)]
        exact sm _ _ e
      · rw [List.length_append, hpl]
        rfl
      · have e1 : dks (zs.take (i + 1)) = dks (zs.take i) ++ [(Sum.inl z.2.num, V.ref z.1)] := by
          rw [take_more hz]
          simp [dks]
        rw [e1]
        refine Paired.snoc (paired_mono hpr fun p kv hp => ?_) ?_
        · rw [upd_ne (fun z0 => by rw [z0, eD] at hp; cases hp), upd_ne (ne_of_none hp nr)]
          exact hp
        · rw [upd_ne nrD.symm, upd_same]
          rfl
    · rintro H' ⟨ps, eD, sm, hpl, hpr⟩
      have el : zs.take (refs zs).length = zs := List.take_of_length_le (by rw [List.length_map]; exact Nat.le_refl _)
      rw [el] at hpr
      refine ⟨D, ps, dks zs, rfl, SqL.of eD, paired_mono hpr fun p kv hp => SqT.of hp, fun ed ned => ?_⟩
      have s2 : Same H' (upd H' ed (.dK (mergeK [] (dks zs)))) := fun b o e => by rw [upd_ne (ne_of_none e ned)]; exact e
      have e2 : mergeK [] (dks zs) = dks zs := mergeK_new (dks zs) [] (by rw [List.nil_append]; exact dks_nodup hB.ok.nd)
      refine q ed _ (sm.trans s2) (sm.free ned) ⟨?_, fun z hz => (hB.ent z hz).kp (Same.tup (sm.trans s2)), hB.ok, hB.len⟩
      rw [upd_same, e2]
/-! ### a day and a known day -/
abbrev sDays : Stmt := topS 43
abbrev nDays : List Str := ["_law_pen_here", "_law_book_here", "_law_found", "_law_at", "_law_some", "_law_entry_here"]
abbrev pDays : List Str := ["_law_pen_here", "_law_book_here"]
theorem scDays : FnScope nDays pDays (defScope sDays) := ⟨rfl, rfl, rfl, by decide +kernel, rfl, by decide +kernel, by decide +kernel⟩
def spDays : Sp := fun vs H Q _ => ∃ (p b fk t : Addr) (n : Nat) (age : Int) (zs : List (Addr × En)), vs = [.ref p, .ref b] ∧ PenAt H p ∧ BookAt H b fk t n age zs ∧
  ∀ (a : Addr) (d k : Int) H', Kp p H H' → PenAt H' p → H' a = some (.tup [.int d, .int k]) → (0 ≤ d ∧ d ≤ 9999) → (0 ≤ k ∧ k ≤ 9999) → Q (.ref a) H'
theorem ok_days {f : Addr} {fd : FuncData} {k : Nat} (F : Fun K "_law_days" "_law_days" sDays f fd) (D : DrawD K mg fDr dDr) (B : Bi mg) : FnOk P w K mg base CX0 (k + 2) f fd pDays spDays := by
  have G : FnOk P w K mg base CX0 (k + 1) fDr dDr ["_law_pen_here", "_law_bound"] spDraw := ok_draw D.F
  refine F.ok scDays (fun vs H Q E h => ?_) (fun cdv A outer s H vs Q E hr h => ?_)
  · obtain ⟨p, b, fk, t, n, age, zs, rfl, _⟩ := h
    rfl
  · obtain ⟨p, b, fk, t, n, age, zs, rfl, hP, hB, q⟩ := h
    refine ⟨_, pss_cons (ps_set (i := 2) scDays.nd rfl (.inl rfl) (pe_lst pa_nil))
      (pss_cons (ps_for PassesOwn.never rfl (pi_tup (pe_tup (pa_cons pe_int (pa_cons pe_int pa_nil)))) (pg_name (i := 3) scDays.nd rfl (.inr rfl))
        (pss_cons (ps_set (i := 4) scDays.nd rfl (.inl rfl) (pe_op op_cat (pe_lc (own := [("_law_entry_here", 5)]) (g := gName 5) (by rfl) scDays.nd (pi_tup (pe_ix ix_tup (pv 1) pe_int (fun _ _ => rfl))) (blkOk_by (own := [("_law_entry_here", 5)]) (N := nDays) (sc := defScope sDays) (by decide +kernel)) (fun _ _ _ _ _ => pg_name (i := 5) scDays.nd rfl (Or.inl rfl)) (fun _ _ _ _ _ => pts_nil)
            (fun _ _ _ _ _ => show PE _ _ (tOp (rIxT K) (tVar 5) (tVar 3)) from pe_ix ix_tup (pv 5) (pv 3) (fun _ _ => rfl))) (pe_lst (pa_cons pe_int (pa_cons pe_int (pa_cons (pe_call G hr (by rfl) D.g D.F.kp D.b .nil pass0 (pa_cons (pv 0) (pa_cons pe_int pa_nil))) pa_nil))))))
        (pss_one (ps_expr (pe_bm PySem.F.plainAttrs_list PySem.F.slot_list_append PySem.F.type_list_append mt_append (pv 2) (pa_cons (pe_callB (call_max2 rfl) (by rfl) B.max (by decide +kernel) (pa_cons pe_int (pa_cons (pe_op op_sub (pe_ix ix_list (pv 4) (pe_call G hr (by rfl) D.g D.F.kp D.b .nil pass0 (pa_cons (pv 0) (pa_cons (pe_callB call_len_seq (by rfl) B.len PySem.boot_len (pa_cons (pv 4) pa_nil)) pa_nil))) (fun _ _ => rfl)) (pe_callTy call_int1 (by rfl) B.int (by decide +kernel) (pa_cons (pe_cmpR op_eq (pe_call G hr (by rfl) D.g D.F.kp D.b .nil pass0 (pa_cons (pv 0) (pa_cons pe_int pa_nil))) pe_int (nomark _)) pa_nil))) pa_nil))) pa_nil))))))
      (pss_one (ps_ret (pe_tup (pa_cons (pe_ix ix_list (pv 2) pe_int (fun _ _ => rfl)) (pa_cons (pe_ix ix_list (pv 2) pe_int (fun _ _ => rfl)) pa_nil)))))), ?_⟩
    refine ⟨Nat.zero_le _, fun l nl => ?_⟩
    have k1 : Kp p H (upd H l (.lst [])) := Kp.new nl _
    have P1 := hP.new nl (.lst [])
    have el : (upd H l (.lst [])) l = some (.lst []) := upd_same
    have npl : l ≠ p := hP.free nl
    generalize (upd H l (.lst [])) = H1 at k1 P1 el
    refine ⟨(by show 2 ≤ sizeLine; decide), fun tt ntt => ?_⟩
    have k2 : Kp p H1 (upd H1 tt (.tup [.int 1, .int 2])) := Kp.new ntt _
    have P2 := P1.new ntt (.tup [.int 1, .int 2])
    have ett : (upd H1 tt (.tup [.int 1, .int 2])) tt = some (.tup [.int 1, .int 2]) := upd_same
    have el2 := k2 _ _ npl el
    generalize (upd H1 tt (.tup [.int 1, .int 2])) = H2 at k2 P2 ett el2
    refine ⟨tt, rfl, ⟨_, SqT.of ett⟩, ?_⟩
    refine for_tup (K := K) (a := tt) (xs := [.int 1, .int 2]) (fun i σ H' => ∃ y3 y4 y5, ∃ ns : List Int, σ = [some (.ref p), some (.ref b), some (.ref l), y3, y4, y5] ∧ KpT H2 H' ∧ Kp p H H' ∧ PenAt H' p ∧ H' l = some (.lst (ns.map V.int)) ∧ ns.length = i ∧ ∀ x ∈ ns, 0 ≤ x ∧ x ≤ 9999)
      ⟨none, none, none, [], rfl, KpT.refl _, k1.trans k2, P2, el2, rfl, fun _ h => nomatch h⟩ (fun i σ H' _ h => ?_) ?_ ?_
    · obtain ⟨_, _, _, _, _, kT, _⟩ := h
      exact SqT.of (kT _ _ ett)
    · rintro i x σ H' hx ⟨y3, y4, y5, ns, rfl, kT, kH, P', el', hnl, hns⟩
      obtain ⟨at', hat, rfl⟩ : ∃ at' : Int, (at' = 1 ∨ at' = 2) ∧ x = .int at' := by
        have hm : x ∈ [V.int 1, V.int 2] := List.mem_of_getElem? hx
        rcases List.mem_cons.mp hm with e | hm
        · exact ⟨1, .inl rfl, e⟩
        · exact ⟨2, .inr rfl, List.mem_singleton.mp hm⟩
      have hi2 : i < 2 := (List.getElem?_eq_some_iff.mp hx).1
      have hB' : BookAt H' b fk t n age zs := hB.kp (fun b0 xs0 e0 => kH _ _ (hP.ne e0 fun _ z => by cases z) e0)
      -- the days of entries
      refine ⟨_, rfl, b, _, 2, _, rfl, rfl, SqT.of hB'.at_, atI_nat (j := 2) rfl, t, rfl, ⟨_, SqT.of hB'.ents⟩, fun M nM => ?_⟩
      refine lc_tup (K := K) (a := t) (xs := refs zs) (fun i H'' => ∃ ms : List Int, H'' M = some (.lst (ms.map V.int)) ∧ Same H' H'' ∧ ms.length = i ∧ ∀ x ∈ ms, 0 ≤ x ∧ x ≤ 9999) ⟨[], upd_same, fun b o e => by rw [upd_ne (ne_of_none e nM)]; exact e, rfl, fun _ h => nomatch h⟩ (fun i H' _ h => ?_) ?_ ?_
      · obtain ⟨_, _, sm, _⟩ := h
        exact SqT.of (sm _ _ hB'.ents)
      · rintro j x H3 hx ⟨ms, eM, sm, hml, hms⟩
        obtain ⟨z, hz, rfl⟩ := ref_at hx
        have hzm : z ∈ zs := List.mem_of_getElem? hz
        have hj : j < zs.length := (List.getElem?_eq_some_iff.mp hz).1
        have len := hB.len
        have oz := hB.ok.ok z.2 (List.mem_map.mpr ⟨z, hzm, rfl⟩)
        obtain ⟨xs, ex, _, g1, g2, _⟩ := ((hB'.ent z hzm).kp (Same.tup sm)).tup
        obtain ⟨v, gv, hv⟩ : ∃ v : Int, atI xs at' = some (.int v) ∧ 0 ≤ v ∧ v ≤ 9999 := by
          rcases hat with rfl | rfl
          · exact ⟨_, g1, oz.1⟩
          · exact ⟨_, g2, oz.2.1⟩
        refine ⟨rfl, ?_⟩
        unfold tYes
        dsimp only
        rw [if_pos rfl]
        refine ⟨_, rfl, _, rfl, z.1, xs, at', _, rfl, rfl, SqT.of ex, gv, _, eM, small1000 (by rw [List.length_map]; omega), ms ++ [v], ?_, fun b o e => ?_, ?_, fun y hy => ?_⟩
        · rw [upd_same, List.map_append]
          rfl
        · rw [upd_ne (ne_of_none e nM)]
          exact sm _ _ e
        · rw [List.length_append, hml]
          rfl
        · rcases List.mem_append.mp hy with hy | hy
          · exact hms y hy
          · rw [List.mem_singleton.mp hy]
            exact hv
      rintro H3 ⟨ms, eM, sm, hml, hms⟩
      have len := hB.len
      have hml' : ms.length ≤ 16 := by rw [hml, List.length_map]; exact len
      have P3 : PenAt H3 p := by
        obtain ⟨x1, x2, x3, x4, z1, z2⟩ := P'
        exact ⟨x1, x2, x3, x4, sm _ _ z1, z2⟩
      have k3 : Kp p H' H3 := Kp.same sm
      refine ⟨_, rfl, p, 50, rfl, P3, by decide, by decide, fun v4 H4 k4 P4 a4 b4 => ?_⟩
      refine ⟨(by show 3 ≤ sizeLine; decide), fun N nN => ?_⟩
      have k5 : Kp p H4 (upd H4 N (.lst [.int 0, .int 9999, .int v4])) := Kp.new nN _
      have P5 := P4.new nN (.lst [.int 0, .int 9999, .int v4])
      have eN : (upd H4 N (.lst [.int 0, .int 9999, .int v4])) N = some (.lst (([0, 9999, v4] : List Int).map V.int)) := upd_same
      have nMp : M ≠ p := P'.free nM
      have eM5 := k5 _ _ nMp (k4 _ _ nMp eM)
      generalize (upd H4 N (.lst [.int 0, .int 9999, .int v4])) = H5 at k5 P5 eN eM5
      refine ⟨M, N, _, _, rfl, rfl, eM5, eN, ?_, fun S nS => ?_⟩
      · rw [List.length_map, List.length_map]
        exact Nat.le_of_lt (small1000 (by show ms.length + 3 ≤ 1000; omega))
      have k6 : Kp p H5 (upd H5 S (.lst (ms.map V.int ++ ([0, 9999, v4] : List Int).map V.int))) := Kp.new nS _
      have P6 := P5.new nS (.lst (ms.map V.int ++ ([0, 9999, v4] : List Int).map V.int))
      have nSp : S ≠ p := P5.free nS
      have eS : (upd H5 S (.lst (ms.map V.int ++ ([0, 9999, v4] : List Int).map V.int))) S = some (.lst ((ms ++ [0, 9999, v4]).map V.int)) := by rw [upd_same, List.map_append]
      generalize (upd H5 S (.lst (ms.map V.int ++ ([0, 9999, v4] : List Int).map V.int))) = H6 at k6 P6 eS
      have hss : ∀ x ∈ ms ++ [0, 9999, v4], 0 ≤ x ∧ x ≤ 9999 := fun x hx => by
        rcases List.mem_append.mp hx with hx | hx
        · exact hms x hx
        · simp only [List.mem_cons, List.not_mem_nil, or_false] at hx
          rcases hx with rfl | rfl | rfl <;> omega
      have hsl : (ms ++ [0, 9999, v4]).length = ms.length + 3 := by simp
      generalize ms ++ [0, 9999, v4] = ss at eS hss hsl
      have k36 : Kp p H' H6 := k3.trans (k4.trans (k5.trans k6))
      have el6 := k36 _ _ npl el'
      have hslm : (ss.map V.int).length = ss.length := List.length_map _
      refine ⟨_, rfl, .inl ⟨rfl, _, SqL.of el6⟩, _, rfl, _, rfl, _, rfl, S, _, rfl, .inl (SqL.of eS), p, _, rfl, P6, by omega, by omega, fun v7 H7 k7 P7 a7 b7 => ?_⟩
      rw [hslm] at b7
      have hk7 : v7.toNat < ss.length := by omega
      refine ⟨S, _, v7, .int ss[v7.toNat], rfl, rfl, SqL.of (k7 _ _ nSp eS), at_of (j := v7.toNat) (by omega) (by rw [List.getElem?_map, List.getElem?_eq_getElem hk7] <;> rfl), ?_⟩
      have hv7 := hss _ (List.getElem_mem hk7)
      generalize ss[v7.toNat] = w7 at hv7
      refine ⟨_, rfl, p, 4, rfl, P7, by decide, by decide, fun v8 H8 k8 P8 a8 b8 => ?_⟩
      refine ⟨rfl, .inr ⟨_, rfl, _, _, rfl, rfl, _, _, rfl, ?_⟩⟩
      obtain ⟨m, em, hm⟩ : ∃ m : Int, (if w7 - (if decide (V.int v8 = V.int 0) = true then 1 else 0) > 0 then w7 - (if decide (V.int v8 = V.int 0) = true then 1 else 0) else 0) = m ∧ 0 ≤ m ∧ m ≤ 9999 := ⟨_, rfl, by split <;> split <;> omega, by split <;> split <;> omega⟩
      dsimp only
      rw [em]
      have k78 := k36.trans (k7.trans k8)
      have el8 := k78 _ _ npl el'
      refine ⟨l, _, _, rfl, rfl, el8, small1000 (by rw [List.length_map]; omega), ?_⟩
      refine ⟨_, _, _, ns ++ [m], rfl, fun b0 xs0 e0 => ?_, ?_, P8.put npl _, ?_, ?_, fun y hy => ?_⟩
      · have e1 := k78.tup P' _ _ (kT _ _ e0)
        rw [upd_ne (fun z0 => by rw [z0, el8] at e1; cases e1)]
        exact e1
      · exact (kH.trans k78).over nl _
      · rw [upd_same, List.map_append]
        rfl
      · rw [List.length_append, hnl]
        rfl
      · rcases List.mem_append.mp hy with hy | hy
        · exact hns y hy
        · rw [List.mem_singleton.mp hy]
          exact hm
    · rintro σ H' ⟨y3, y4, y5, ns, rfl, kT, kH, P', el', hnl, hns⟩
      match ns, hnl, hns, el' with
      | [d, kk], _, hns, el' =>
        refine ⟨_, rfl, l, _, 0, _, rfl, rfl, SqL.of el', atI_nat (j := 0) rfl, _, rfl, l, _, 1, _, rfl, rfl, SqL.of el', atI_nat (j := 1) rfl, (by show 2 ≤ sizeLine; decide), fun a na => ?_⟩
        exact q a d kk _ (kH.trans (Kp.new na _)) (P'.new na _) upd_same (hns d List.mem_cons_self) (hns kk (List.mem_cons_of_mem _ List.mem_cons_self))
end
end Deed

namespace Deed
open PySem PySem.Spec PyProof.Rows L2 LamX
section
variable {P : Program} {w : World} {K : PySem.W.Frag} {mg : Str → Option Value} {base : Heap} {T : List (Addr × Str)} {fW fI fY fA : Addr} {dW dI dY dA : FuncData}
/-! ### whole numbers, days: where they are such -/
abbrev sWhole : Stmt := topS 8
theorem scWhole : FnScope ["thing"] ["thing"] (defScope sWhole) := ⟨rfl, rfl, rfl, by decide +kernel, rfl, by decide +kernel, by decide +kernel⟩
def spWholeI : Sp := fun vs H Q _ => ∃ i : Int, vs = [.int i] ∧ Q (.bl true) H
theorem ok_wholeI {f : Addr} {fd : FuncData} {k : Nat} (F : Fun K "is_whole" "is_whole" sWhole f fd) (mi : mg "isinstance" = none) (mn : mg "int" = none) (mb : mg "bool" = none) : FnOk P w K mg base CX0 (k + 1) f fd ["thing"] spWholeI := by
  refine F.ok scWhole (fun vs H Q E h => ?_) (fun cdv A outer s H vs Q E hr h => ?_)
  · obtain ⟨i, rfl, _⟩ := h
    rfl
  · obtain ⟨i, rfl, q⟩ := h
    refine ⟨_, pss_one (ps_ret (pe_and (pe_callB call_isi (by rfl) mi (by decide +kernel) (pa_cons (pv 0) (pa_cons (pe_bltn (v := .ty "int") (by rfl) mn (by decide +kernel) rfl) pa_nil))) (pe_one (pe_not (pe_callB call_isi (by rfl) mi (by decide +kernel) (pa_cons (pv 0) (pa_cons (pe_bltn (v := .ty "bool") (by rfl) mb (by decide +kernel) rfl) pa_nil))))))), ?_⟩
    refine ⟨_, rfl, _, _, _, _, true, rfl, .ty "int", .base (.int i), kit_ty (by decide +kernel), _, rfl, ?_⟩
    refine iteT ?_
    exact ⟨_, rfl, _, _, _, _, false, rfl, .ty "bool", .base (.int i), kit_ty (by decide +kernel), _, rfl, q⟩
abbrev sWithin : Stmt := topS 9
theorem scWithin : FnScope ["thing", "low", "high"] ["thing", "low", "high"] (defScope sWithin) := ⟨rfl, rfl, rfl, by decide +kernel, rfl, by decide +kernel, by decide +kernel⟩
def spWithinI : Sp := fun vs H Q _ => ∃ i lo hi : Int, vs = [.int i, .int lo, .int hi] ∧ lo ≤ i ∧ i ≤ hi ∧ Q (.bl true) H
theorem ok_withinI {f : Addr} {fd : FuncData} {k : Nat} (F : Fun K "is_within" "is_within" sWithin f fd) (DW : Df K mg "is_whole" sWhole ["thing"] fW dW) (mi : mg "isinstance" = none) (mn : mg "int" = none) (mb : mg "bool" = none) : FnOk P w K mg base CX0 (k + 2) f fd ["thing", "low", "high"] spWithinI := by
  have GW : FnOk P w K mg base CX0 (k + 1) fW dW ["thing"] spWholeI := ok_wholeI DW.F mi mn mb
  refine F.ok scWithin (fun vs H Q E h => ?_) (fun cdv A outer s H vs Q E hr h => ?_)
  · obtain ⟨i, lo, hi, rfl, _⟩ := h
    rfl
  · obtain ⟨i, lo, hi, rfl, h1, h2, q⟩ := h
    refine ⟨_, pss_one (ps_ret (pe_and (pe_call GW hr (by rfl) DW.g DW.F.kp DW.b .nil pass0 (pa_cons (pv 0) pa_nil)) (pe_one (pe_chain op_le op_le (pv 1) (pv 0) (pv 2))))), ?_⟩
    refine ⟨_, rfl, i, rfl, true, rfl, ?_⟩
    refine iteT ?_
    refine ⟨_, rfl, _, rfl, _, _, rfl, rfl, _, rfl, ?_⟩
    rw [decide_eq_true h1]
    refine iteT ?_
    refine ⟨_, rfl, _, _, rfl, rfl, ?_⟩
    dsimp only
    rw [decide_eq_true h2]
    exact q
abbrev sIsDay : Stmt := topS 10
theorem scIsDay : FnScope ["thing"] ["thing"] (defScope sIsDay) := ⟨rfl, rfl, rfl, by decide +kernel, rfl, by decide +kernel, by decide +kernel⟩
def spDayI : Sp := fun vs H Q _ => ∃ i : Int, vs = [.int i] ∧ 0 ≤ i ∧ i ≤ 9999 ∧ Q (.bl true) H
theorem ok_dayI {f : Addr} {fd : FuncData} {k : Nat} (F : Fun K "is_day" "is_day" sIsDay f fd) (DI : Df K mg "is_within" sWithin ["thing", "low", "high"] fI dI) (DW : Df K mg "is_whole" sWhole ["thing"] fW dW) (mi : mg "isinstance" = none) (mn : mg "int" = none) (mb : mg "bool" = none) (mL : MgInt mg "LAST_DAY" 9999) : FnOk P w K mg base CX0 (k + 3) f fd ["thing"] spDayI := by
  have GI : FnOk P w K mg base CX0 (k + 2) fI dI ["thing", "low", "high"] spWithinI := ok_withinI DI.F DW mi mn mb
  refine F.ok scIsDay (fun vs H Q E h => ?_) (fun cdv A outer s H vs Q E hr h => ?_)
  · obtain ⟨i, rfl, _⟩ := h
    rfl
  · obtain ⟨i, rfl, h0, h1, q⟩ := h
    refine ⟨_, pss_one (ps_ret (pe_call GI hr (by rfl) DI.g DI.F.kp DI.b .nil pass0 (pa_cons (pv 0) (pa_cons pe_int (pa_cons (pe_num (by rfl) mL) pa_nil))))), ?_⟩
    exact ⟨_, rfl, i, 0, 9999, rfl, h0, h1, q⟩
abbrev sCheckDay : Stmt := topS 18
theorem scCheckDay : FnScope ["thing"] ["thing"] (defScope sCheckDay) := ⟨rfl, rfl, rfl, by decide +kernel, rfl, by decide +kernel, by decide +kernel⟩
def spCkDay : Sp := fun vs H Q _ => ∃ i : Int, vs = [.int i] ∧ 0 ≤ i ∧ i ≤ 9999 ∧ Q .non H
theorem ok_ckDay {f : Addr} {fd : FuncData} {k : Nat} (F : Fun K "check_day" "check_day" sCheckDay f fd) (DY : Df K mg "is_day" sIsDay ["thing"] fY dY) (DI : Df K mg "is_within" sWithin ["thing", "low", "high"] fI dI) (DW : Df K mg "is_whole" sWhole ["thing"] fW dW) (mi : mg "isinstance" = none) (mn : mg "int" = none) (mb : mg "bool" = none) (mL : MgInt mg "LAST_DAY" 9999) : FnOk P w K mg base CX0 (k + 4) f fd ["thing"] spCkDay := by
  have GY : FnOk P w K mg base CX0 (k + 3) fY dY ["thing"] spDayI := ok_dayI DY.F DI DW mi mn mb mL
  refine F.ok scCheckDay (fun vs H Q E h => ?_) (fun cdv A outer s H vs Q E hr h => ?_)
  · obtain ⟨i, rfl, _⟩ := h
    rfl
  · obtain ⟨i, rfl, h0, h1, q⟩ := h
    refine ⟨_, pss_one (ps_if (pt_not (pt_val (pe_call GY hr (by rfl) DY.g DY.F.kp DY.b .nil pass0 (pa_cons (pv 0) pa_nil)))) pss_never pss_nil), ?_⟩
    refine ⟨_, rfl, i, rfl, h0, h1, _, rfl, ?_⟩
    exact iteF q
end
end Deed

namespace Deed
open PySem PySem.Spec PyProof.Rows L2 LamX
section
variable {P : Program} {w : World} {K : PySem.W.Frag} {mg : Str → Option Value} {base : Heap} {T : List (Addr × Str)} {fAe fOn : Addr} {dAe dOn : FuncData}
/-! ### the open acts -/
abbrev sOpenA : Stmt := topS 21
abbrev nOpenA : List Str := ["book", "d", "k", "act"]
theorem scOpenA : FnScope nOpenA ["book", "d", "k"] (defScope sOpenA) := ⟨rfl, rfl, rfl, by decide +kernel, rfl, by decide +kernel, by decide +kernel⟩
/-- the open acts, by their numbers -/
structure OpenActs (n : Nat) (es : List En) (d k : Int) (ys : List (Addr × En)) : Prop where
  mem : ∀ z ∈ ys, z.2 ∈ es ∧ z.2.isDeed = false ∧ isOpen d k z.2 = true
  all : ∀ u ∈ es, u.isDeed = false → isOpen d k u = true → ∃ z ∈ ys, z.2 = u
  up : ys.Pairwise (fun a b => a.2.num < b.2.num)
  len : ys.length ≤ 16
def spOpenA (T : List (Addr × Str)) : Sp := fun vs H Q _ => ∃ (b fk t : Addr) (n : Nat) (age : Int) (zs : List (Addr × En)) (d k : Int), vs = [.ref b, .int d, .int k] ∧ BookAt H b fk t n age zs ∧ Tabs T H ∧
  ∀ (p : Addr) (ys : List (Addr × En)) (H' : Hp), ExtN H H' → Tabs T H' → Fresh H p → H' p = some (.lst (refs ys)) → (∀ z ∈ ys, EntAt H' z.1 z.2) → OpenActs n (ens zs) d k ys → Q (.ref p) H'
def t_openA (K : PySem.W.Frag) : TT := tAnd (tTest (tOp (rI0 fun i j => .bl (decide (i ≤ j))) (tOp (rIxT K) (tVar 3) (tC (.int 2))) (tVar 2))) (tTest (tOp (rI0 fun i j => .bl (decide (i ≤ j))) (tOp (rIxT K) (tVar 3) (tC (.int 1))) (tVar 1)))
theorem ok_openA {f : Addr} {fd : FuncData} {k : Nat} (F : Fun K "open_acts" "open_acts" sOpenA f fd) (DE : Df K mg "act_entries" sActE ["book"] fAe dAe) (GE : FnOk P w K mg base CX0 (k + 3) fAe dAe ["book"] (spPick (fun e => !e.isDeed) T)) (mW : MgInt mg "WRITTEN" 2) (mD : MgInt mg "DAY" 1) :
    FnOk P w K mg base CX0 (k + 4) f fd ["book", "d", "k"] (spOpenA T) := by
  refine F.ok scOpenA (fun vs H Q E h => ?_) (fun cdv A outer s H vs Q E hr h => ?_)
  · obtain ⟨b, fk, t, n, age, zs, d, k, rfl, _⟩ := h
    rfl
  · obtain ⟨b, fk, t, n, age, zs, d, kk, rfl, hB, hT, q⟩ := h
    refine ⟨_, pss_one (ps_ret (pe_lc (own := [("act", 3)]) (g := gName 3) (by rfl) scOpenA.nd (pi_list (pe_call GE hr (by rfl) DE.g DE.F.kp DE.b .nil pass0 (pa_cons (pv 0) pa_nil))) (blkOk_by (own := [("act", 3)]) (N := nOpenA) (sc := defScope sOpenA) (by decide +kernel)) (fun _ _ _ _ _ => pg_name (i := 3) scOpenA.nd rfl (Or.inl rfl))
      (fun _ _ _ _ _ => show PTs _ _ (t_openA K) from pts_one (PW.pt (pw_and (pt_cmpR op_le (pe_ix ix_tup (pv 3) (pe_num (by rfl) mW) (fun _ _ => rfl)) (pv 2) (nomark _)) (pw_and1 (pt_cmpR op_le (pe_ix ix_tup (pv 3) (pe_num (by rfl) mD) (fun _ _ => rfl)) (pv 1) (nomark _)))))) (fun _ _ _ _ _ => pv 3))), ?_⟩
    refine ⟨_, rfl, b, fk, t, n, age, zs, rfl, hB, hT, fun p zs' H1 eN T1 fr ep pm so => ?_⟩
    have hent : ∀ z ∈ zs', EntAt H1 z.1 z.2 := fun z hz => (hB.ent z (pm.mem_iff.mp hz)).kp (ExtN.tup eN)
    have hmem : ∀ z ∈ zs'.filter (fun z => !z.2.isDeed), z ∈ zs' := fun z hz => (List.mem_filter.mp hz).1
    have hlen : (zs'.filter fun z => !z.2.isDeed).length ≤ 16 := by
      have h1 := List.length_filter_le (fun z : Addr × En => !z.2.isDeed) zs'
      have h2 := pm.length_eq
      have h3 := hB.len
      omega
    have hso : (zs'.filter fun z => !z.2.isDeed).Pairwise (fun a b => a.2.num < b.2.num) := so.filter _
    have hact : ∀ z ∈ zs'.filter (fun z => !z.2.isDeed), z.2.isDeed = false := fun z hz => by
      have := (List.mem_filter.mp hz).2
      simpa using this
    have hall : ∀ u ∈ ens zs, u.isDeed = false → ∃ z ∈ zs'.filter (fun z => !z.2.isDeed), z.2 = u := fun u hu hd => by
      obtain ⟨z, hz, rfl⟩ := List.mem_map.mp ((ens_perm pm u).mpr hu)
      exact ⟨z, List.mem_filter.mpr ⟨hz, by rw [hd]; rfl⟩, rfl⟩
    generalize (zs'.filter fun z => !z.2.isDeed) = as at ep hmem hlen hso hact hall
    refine ⟨p, rfl, ⟨_, SqL.of ep⟩, fun D nD => ?_⟩
    refine lc_list (K := K) (a := p) (xs := refs as) (fun i H' => H' D = some (.lst (refs ((as.take i).filter fun z => isOpen d kk z.2))) ∧ Same H1 H') ⟨upd_same, fun b o e => by rw [upd_ne (ne_of_none e nD)]; exact e⟩ (fun i H' _ h => SqL.of (h.2 _ _ ep)) ?_ ?_
    · rintro i x H' hx ⟨eD, sm⟩
      obtain ⟨z, hz, rfl⟩ := ref_at hx
      have hzm := List.mem_of_getElem? hz
      obtain ⟨xs, ex, _, g1, g2, _⟩ := ((hent z (hmem z hzm)).kp (Same.tup sm)).tup
      have et := take_more hz
      have out : ∀ hno : isOpen d kk z.2 = false, H' D = some (.lst (refs ((as.take (i + 1)).filter fun z => isOpen d kk z.2))) ∧ Same H1 H' := fun hno => by
        refine ⟨?_, sm⟩
        rw [eD, et, List.filter_append]
        simp [hno]
      refine ⟨rfl, _, rfl, z.1, xs, 2, _, rfl, rfl, SqT.of ex, g2, _, rfl, _, _, rfl, rfl, _, rfl, ?_⟩
      refine ite2 (fun c1 => ?_) (fun c1 => ?_)
      · have c1' : z.2.wri ≤ kk := of_decide_eq_true c1
        refine ⟨_, rfl, z.1, xs, 1, _, rfl, rfl, SqT.of ex, g1, _, rfl, _, _, rfl, rfl, _, rfl, ?_⟩
        refine ite2 (fun c2 => ?_) (fun c2 => ?_)
        · have c2' : z.2.day ≤ d := of_decide_eq_true c2
          have hyes : isOpen d kk z.2 = true := by
            unfold isOpen
            rw [decide_eq_true c1', decide_eq_true c2']
            rfl
          refine ⟨_, rfl, _, eD, small1000 ?_, ?_, fun b o e => ?_⟩
          · have h1 := List.length_filter_le (fun z : Addr × En => isOpen d kk z.2) (as.take i)
            rw [List.length_map]
            rw [List.length_take] at h1
            omega
          · rw [upd_same, et, List.filter_append]
            simp [hyes, refs]
          · rw [upd_ne (ne_of_none e nD)]
            exact sm _ _ e
        · refine out ?_
          have c2' : ¬ z.2.day ≤ d := fun z0 => c2 (decide_eq_true z0)
          unfold isOpen
          rw [decide_eq_false c2', Bool.false_and]
      · refine iteF (out ?_)
        have c1' : ¬ z.2.wri ≤ kk := fun z0 => c1 (decide_eq_true z0)
        unfold isOpen
        rw [decide_eq_false c1', Bool.and_false]
    · rintro H' ⟨eD, sm⟩
      have el : as.take (refs as).length = as := List.take_of_length_le (by rw [List.length_map]; exact Nat.le_refl _)
      rw [el] at eD
      have esub : ∀ z ∈ as.filter (fun z => isOpen d kk z.2), z ∈ as := fun z hz => (List.mem_filter.mp hz).1
      refine q D _ H' (eN.trans (.of sm)) (T1.ext sm) (Fresh.of eN nD) eD (fun z hz => (hent z (hmem z (esub z hz))).kp (Same.tup sm)) ⟨fun z hz => ⟨?_, hact z (esub z hz), (List.mem_filter.mp hz).2⟩, fun u hu hd ho => ?_, hso.filter _, ?_⟩
      · exact (ens_perm pm _).mp (List.mem_map.mpr ⟨z, hmem z (esub z hz), rfl⟩)
      · obtain ⟨z, hz, rfl⟩ := hall u hu hd
        exact ⟨z, List.mem_filter.mpr ⟨hz, ho⟩, rfl⟩
      · have h1 := List.length_filter_le (fun z : Addr × En => isOpen d kk z.2) as
        omega
/-! ### acts of a word upon a number -/
abbrev sActsOn : Stmt := topS 22
abbrev nActsOn : List Str := ["acts", "word", "number", "act"]
abbrev pActsOn : List Str := ["acts", "word", "number"]
theorem scActsOn : FnScope nActsOn pActsOn (defScope sActsOn) := ⟨rfl, rfl, rfl, by decide +kernel, rfl, by decide +kernel, by decide +kernel⟩
def spActsOn : Sp := fun vs H Q _ => ∃ (la : Addr) (x : Str) (m : Int) (ys : List (Addr × En)), vs = [.ref la, .str x, .int m] ∧ H la = some (.lst (refs ys)) ∧ (∀ z ∈ ys, EntAt H z.1 z.2 ∧ z.2.isDeed = false) ∧ ys.length ≤ 1000 ∧
  ∀ p H', Same H H' → H p = none → H' p = some (.lst (((ys.filter fun z => isOn x m z.2).map fun z => z.2.num).map V.int)) → Q (.ref p) H'
def t_on (K : PySem.W.Frag) : TT := tAnd (tTest (tOp rEq (tOp (rIxT K) (tVar 3) (tC (.int 4))) (tVar 1))) (tTest (tOp rEq (tOp (rIxT K) (tVar 3) (tC (.int 5))) (tVar 2)))
theorem ok_actsOn {f : Addr} {fd : FuncData} {k : Nat} (F : Fun K "acts_on" "acts_on" sActsOn f fd) (mW : MgInt mg "WORD" 4) (mO : MgInt mg "OF" 5) (mN : MgInt mg "NUMBER" 0) : FnOk P w K mg base CX0 (k + 1) f fd pActsOn spActsOn := by
  refine F.ok scActsOn (fun vs H Q E h => ?_) (fun cdv A outer s H vs Q E hr h => ?_)
  · obtain ⟨la, x, m, ys, rfl, _⟩ := h
    rfl
  · obtain ⟨la, x, m, ys, rfl, hl, hys, hlen, q⟩ := h
    refine ⟨_, pss_one (ps_ret (pe_lc (own := [("act", 3)]) (g := gName 3) (by rfl) scActsOn.nd (pi_list (pv 0)) (blkOk_by (own := [("act", 3)]) (N := nActsOn) (sc := defScope sActsOn) (by decide +kernel)) (fun _ _ _ _ _ => pg_name (i := 3) scActsOn.nd rfl (Or.inl rfl))
      (fun _ _ _ _ _ => show PTs _ _ (t_on K) from pts_one (PW.pt (pw_and (pt_cmpR op_eq (pe_ix ix_tup (pv 3) (pe_num (by rfl) mW) (fun _ _ => rfl)) (pv 1) (nomark _)) (pw_and1 (pt_cmpR op_eq (pe_ix ix_tup (pv 3) (pe_num (by rfl) mO) (fun _ _ => rfl)) (pv 2) (nomark _))))))
      (fun _ _ _ _ _ => show PE _ _ (tOp (rIxT K) (tVar 3) (tC (.int 0))) from pe_ix ix_tup (pv 3) (pe_num (by rfl) mN) (fun _ _ => rfl)))), ?_⟩
    refine ⟨_, rfl, la, rfl, ⟨_, SqL.of hl⟩, fun D nD => ?_⟩
    refine lc_list (K := K) (a := la) (xs := refs ys) (fun i H' => H' D = some (.lst ((((ys.take i).filter fun z => isOn x m z.2).map fun z => z.2.num).map V.int)) ∧ Same H H') ⟨upd_same, fun b o e => by rw [upd_ne (ne_of_none e nD)]; exact e⟩ (fun i H' _ h => SqL.of (h.2 _ _ hl)) ?_ ?_
    · rintro i y H' hx ⟨eD, sm⟩
      obtain ⟨z, hz, rfl⟩ := ref_at hx
      have hzm := List.mem_of_getElem? hz
      have hi : i < ys.length := (List.getElem?_eq_some_iff.mp hz).1
      have hEz := (hys z hzm).1.kp (Same.tup sm)
      obtain ⟨xs, ex, g0, _, _, _, g4⟩ := hEz.tup
      obtain ⟨xs5, ex5, g5⟩ := hEz.five (hys z hzm).2
      have et := take_more hz
      have out : ∀ hno : isOn x m z.2 = false, H' D = some (.lst ((((ys.take (i + 1)).filter fun z => isOn x m z.2).map fun z => z.2.num).map V.int)) ∧ Same H H' := fun hno => by
        refine ⟨?_, sm⟩
        rw [eD, et, List.filter_append]
        simp [hno]
      refine ⟨rfl, _, rfl, z.1, xs, 4, _, rfl, rfl, SqT.of ex, g4, _, rfl, rfl, _, rfl, ?_⟩
      refine ite2 (fun c1 => ?_) (fun c1 => ?_)
      · have c1' : z.2.word = x := by
          have := of_decide_eq_true c1
          injection this
        refine ⟨_, rfl, z.1, xs5, 5, _, rfl, rfl, SqT.of ex5, g5, _, rfl, rfl, _, rfl, ?_⟩
        refine ite2 (fun c2 => ?_) (fun c2 => ?_)
        · have c2' : z.2.of = m := by
            have := of_decide_eq_true c2
            injection this
          have hyes : isOn x m z.2 = true := by
            unfold isOn
            rw [decide_eq_true c1', decide_eq_true c2']
            rfl
          refine ⟨_, rfl, z.1, xs, 0, _, rfl, rfl, SqT.of ex, g0, _, eD, small1000 ?_, ?_, fun b o e => ?_⟩
          · have h1 := List.length_filter_le (fun z : Addr × En => isOn x m z.2) (ys.take i)
            rw [List.length_map, List.length_map]
            rw [List.length_take] at h1
            omega
          · rw [upd_same, et, List.filter_append]
            simp [hyes]
          · rw [upd_ne (ne_of_none e nD)]
            exact sm _ _ e
        · refine out ?_
          have c2' : ¬ z.2.of = m := fun z0 => c2 (decide_eq_true (by rw [z0]))
          unfold isOn
          rw [decide_eq_false c2', Bool.and_false]
      · refine iteF (out ?_)
        have c1' : ¬ z.2.word = x := fun z0 => c1 (decide_eq_true (by rw [z0]))
        unfold isOn
        rw [decide_eq_false c1', Bool.false_and]
    · rintro H' ⟨eD, sm⟩
      have el : ys.take (refs ys).length = ys := List.take_of_length_le (by rw [List.length_map]; exact Nat.le_refl _)
      rw [el] at eD
      exact q D H' sm nD eD
/-! ### those in force -/
abbrev sForced : Stmt := topS 23
abbrev nForced : List Str := ["acts", "forced", "act"]
theorem scForced : FnScope nForced ["acts"] (defScope sForced) := ⟨rfl, rfl, rfl, by decide +kernel, rfl, by decide +kernel, by decide +kernel⟩
def spForced : Sp := fun vs H Q _ => ∃ (la : Addr) (n : Nat) (es : List En) (d k : Int) (ys : List (Addr × En)), vs = [.ref la] ∧ H la = some (.lst (refs ys)) ∧ (∀ z ∈ ys, EntAt H z.1 z.2) ∧ BkOk n es ∧ OpenActs n es d k ys ∧
  ∀ p H', Same H H' → H p = none → H' p = some (.lst (refs (ys.reverse.filter fun z => frc es d k z.2))) → Q (.ref p) H'
theorem ok_forced {f : Addr} {fd : FuncData} {k : Nat} (F : Fun K "acts_in_force" "acts_in_force" sForced f fd) (DO : Df K mg "acts_on" sActsOn pActsOn fOn dOn) (mW : MgInt mg "WORD" 4) (mO : MgInt mg "OF" 5) (mN : MgInt mg "NUMBER" 0) : FnOk P w K mg base CX0 (k + 2) f fd ["acts"] spForced := by
  have GO : FnOk P w K mg base CX0 (k + 1) fOn dOn pActsOn spActsOn := ok_actsOn DO.F mW mO mN
  refine F.ok scForced (fun vs H Q E h => ?_) (fun cdv A outer s H vs Q E hr h => ?_)
  · obtain ⟨la, n, es, d, k, ys, rfl, _⟩ := h
    rfl
  · obtain ⟨la, n, es, d, kk, ys, rfl, hl, hys, hB, hO, q⟩ := h
    refine ⟨_, pss_cons (ps_set (i := 1) scForced.nd rfl (.inl rfl) (pe_lst pa_nil))
      (pss_cons (ps_for PassesOwn.never rfl (pi_list (pe_revL (pv 0))) (pg_name (i := 2) scForced.nd rfl (.inl rfl))
        (pss_one (ps_if (pt_not (pt_truth (pe_call GO hr (by rfl) DO.g DO.F.kp DO.b .nil pass0 (pa_cons (pv 1) (pa_cons pe_str (pa_cons (pe_ix ix_tup (pv 2) (pe_num (by rfl) mN) (fun _ _ => rfl)) pa_nil)))) (by intro _; rfl)))
          (pss_one (ps_expr (pe_bm PySem.F.plainAttrs_list PySem.F.slot_list_append PySem.F.type_list_append mt_append (pv 1) (pa_cons (pv 2) pa_nil)))) pss_nil)))
      (pss_one (ps_ret (pv 1)))), ?_⟩
    refine ⟨Nat.zero_le _, fun fo nfo => ?_⟩
    have s1 : Same H (upd H fo (.lst [])) := fun b o e => by rw [upd_ne (ne_of_none e nfo)]; exact e
    have e1 : (upd H fo (.lst [])) fo = some (.lst []) := upd_same
    generalize (upd H fo (.lst [])) = H1 at s1 e1
    refine ⟨_, rfl, la, _, rfl, SqL.of (s1 _ _ hl), fun rv nrv => ?_⟩
    have s2 : Same H1 (upd H1 rv (.lst (refs ys).reverse)) := fun b o e => by rw [upd_ne (ne_of_none e nrv)]; exact e
    have erv : (upd H1 rv (.lst (refs ys).reverse)) rv = some (.lst (refs ys.reverse)) := by rw [upd_same, ← List.map_reverse]
    have e2 := s2 _ _ e1
    have nfr : fo ≠ rv := ne_of_none e1 nrv
    generalize (upd H1 rv (.lst (refs ys).reverse)) = H2 at s2 erv e2
    have s12 := s1.trans s2
    refine ⟨rv, rfl, ⟨_, SqL.of erv⟩, ?_⟩
    refine for_list (K := K) (a := rv) (xs := refs ys.reverse) (fun i σ H' => ∃ y2, σ = [some (.ref la), some (.ref fo), y2] ∧ Same H H' ∧ H' rv = some (.lst (refs ys.reverse)) ∧ H' fo = some (.lst (refs ((ys.reverse.take i).filter fun z => frc es d kk z.2)))) ⟨none, rfl, s12, erv, e2⟩ (fun i σ H' _ h => ?_) ?_ ?_
    · obtain ⟨_, _, _, e, _⟩ := h
      exact SqL.of e
    · rintro i x σ H' hx ⟨y2, rfl, sm, ev, ef⟩
      obtain ⟨z, hz, rfl⟩ := ref_at hx
      have hzr := List.mem_of_getElem? hz
      have hzm : z ∈ ys := List.mem_reverse.mp hzr
      have hi : i < ys.reverse.length := (List.getElem?_eq_some_iff.mp hz).1
      have hlr : ys.reverse.length = ys.length := List.length_reverse
      have hyl := hO.len
      obtain ⟨xs, ex, g0, _⟩ := ((hys z hzm).kp (Same.tup sm)).tup
      obtain ⟨m1, m2, m3⟩ := hO.mem z hzm
      have et := take_more hz
      have hsub : ∀ u ∈ (ys.reverse.take i).filter (fun z => frc es d kk z.2), u ∈ ys ∧ frc es d kk u.2 = true := fun u hu =>
        ⟨List.mem_reverse.mp (List.mem_of_mem_take (List.mem_filter.mp hu).1), (List.mem_filter.mp hu).2⟩
      have hfl : ((ys.reverse.take i).filter (fun z => frc es d kk z.2)).length ≤ 16 := by
        have h1 := List.length_filter_le (fun z : Addr × En => frc es d kk z.2) (ys.reverse.take i)
        rw [List.length_take] at h1
        omega
      refine ⟨_, rfl, _, rfl, z.1, xs, 0, _, rfl, rfl, SqT.of ex, g0, fo, "undone", z.2.num, _, rfl, ef, fun u hu => ⟨(hys u (hsub u hu).1).kp (Same.tup sm), (hO.mem u (hsub u hu).1).2.1⟩, by omega, fun p H3 s3 np ep => ⟨_, .inl ⟨_, SqL.of ep, rfl⟩, ?_⟩⟩
      -- none of the forced undoes it: just where it is in force
      have key : (((((ys.reverse.take i).filter fun z => frc es d kk z.2).filter fun u => isOn "undone" z.2.num u.2).map fun z => z.2.num).map V.int).isEmpty = frc es d kk z.2 := by
        rw [frc_eq hB d kk m1, m3, Bool.true_and, Bool.eq_iff_iff, List.all_eq_true]
        constructor
        · intro h u hu
          cases ho : isOn "undone" z.2.num u with
          | false => rfl
          | true =>
            cases hf : frc es d kk u with
            | false => rfl
            | true =>
              exfalso
              obtain ⟨h1, h2, h3⟩ := isOn_act (hB.ok u hu) (by decide) ho
              have lt := ((hB.ok u hu).of_lt h1).1
              obtain ⟨v, hv, rfl⟩ := hO.all u hu h1 (frc_open hB hu hf)
              -- it stands ahead in the turned list
              have hpre : v ∈ ys.reverse.take i := by
                have hv' : v ∈ ys.reverse := List.mem_reverse.mpr hv
                obtain ⟨j, hj, ej⟩ := List.mem_iff_getElem.mp hv'
                have hup : ys.reverse.Pairwise (fun a b => b.2.num < a.2.num) := List.pairwise_reverse.mpr hO.up
                have hji : j < i := by
                  rcases Nat.lt_trichotomy j i with q1 | q1 | q1
                  · exact q1
                  · subst q1
                    rw [List.getElem?_eq_getElem hj, ej] at hz
                    injection hz with hz
                    rw [hz] at lt h3
                    omega
                  · have := List.pairwise_iff_getElem.mp hup i j hi hj q1
                    have ei : ys.reverse[i] = z := by
                      rw [List.getElem?_eq_getElem hi] at hz
                      exact Option.some.inj hz
                    rw [ei, ej] at this
                    omega
                exact List.mem_take_iff_getElem.mpr ⟨j, by omega, ej⟩
              have hmem : v.2.num ∈ (((ys.reverse.take i).filter fun z => frc es d kk z.2).filter fun u => isOn "undone" z.2.num u.2).map fun z => z.2.num :=
                List.mem_map.mpr ⟨v, List.mem_filter.mpr ⟨List.mem_filter.mpr ⟨hpre, hf⟩, ho⟩, rfl⟩
              rw [List.isEmpty_iff] at h
              have h' := List.map_eq_nil_iff.mp h
              rw [h'] at hmem
              cases hmem
        · intro h
          rw [List.isEmpty_iff, List.map_eq_nil_iff, List.map_eq_nil_iff, List.filter_eq_nil_iff]
          intro u hu ho
          obtain ⟨hu1, hu2⟩ := hsub u hu
          have := h u.2 (hO.mem u hu1).1
          rw [ho, hu2] at this
          cases this
      rw [key]
      have ef3 := s3 _ _ ef
      cases hf : frc es d kk z.2 with
      | true =>
        refine iteT ?_
        refine ⟨_, rfl, .inl ⟨rfl, _, SqL.of ef3⟩, _, rfl, fo, _, _, rfl, rfl, ef3, small1000 (by rw [List.length_map]; omega), ?_⟩
        refine ⟨_, rfl, fun b o e => ?_, ?_, ?_⟩
        · rw [upd_ne (ne_of_none e nfo)]
          exact s3 _ _ (sm _ _ e)
        · rw [upd_ne nfr.symm]
          exact s3 _ _ ev
        · rw [upd_same, et, List.filter_append]
          simp [hf, refs]
      | false =>
        refine iteF ?_
        refine ⟨_, rfl, sm.trans s3, s3 _ _ ev, ?_⟩
        rw [ef3, et, List.filter_append]
        simp [hf]
    · rintro σ H' ⟨y2, rfl, sm, ev, ef⟩
      have el : ys.reverse.take (refs ys.reverse).length = ys.reverse := List.take_of_length_le (by rw [List.length_map]; exact Nat.le_refl _)
      rw [el] at ef
      exact ⟨_, rfl, q fo H' sm nfo ef⟩
end
end Deed

namespace Deed
open PySem PySem.Spec PyProof.Rows L2 LamX
/-! ### what a deed is: the mathematics -/
def En.rests (e : En) : List Int := match e.kd with
  | .deed _ _ rs _ => rs
  | .act _ _ => []
/-- some act of the word upon the number is in force -/
def anyF (es : List En) (d k : Int) (x : Str) (m : Int) : Bool := es.any fun u => isOn x m u && frc es d k u
def carries (x : Str) : Bool := decide (x ∈ ([("stands" : Str), "paid"] : List Str))
/-- by what its rests are -/
def wordBy (es : List En) (d k : Int) (e : En) (lost : Bool) : Str :=
  if k < e.wri then "unknown" else if d < e.day then "ahead" else if anyF es d k "void" e.num = true then "void" else if lost = true then "fallen" else if anyF es d k "paid" e.num = true then "paid" else "stands"
def isD (m : Int) (e : En) : Bool := e.isDeed && decide (e.num = m)
def stF (es : List En) (d k : Int) : Nat → En → Str
  | 0, _ => "unknown"
  | f + 1, e => wordBy es d k e (e.rests.any fun r => es.any fun u => isD r u && !carries (stF es d k f u))
def st (es : List En) (d k : Int) (e : En) : Str := stF es d k (e.num.toNat + 1) e
theorem EnOk.rest {n : Nat} {ds as : List Int} {e : En} (h : EnOk n ds as e) : ∀ r ∈ e.rests, r ∈ ds ∧ r < e.num := by
  intro r hr
  unfold En.rests at hr
  cases hk : e.kd with
  | deed g t rs ws =>
    rw [hk] at hr
    have h4 := h.2.2.2
    rw [hk] at h4
    exact h4.2.2.2.2.2.1 r hr
  | act x o =>
    rw [hk] at hr
    cases hr
theorem any_congr {α : Type} {l : List α} {p q : α → Bool} (h : ∀ x ∈ l, p x = q x) : l.any p = l.any q := by
  induction l with
  | nil => rfl
  | cons a r ih =>
    rw [List.any_cons, List.any_cons, h a List.mem_cons_self, ih fun x hx => h x (List.mem_cons_of_mem _ hx)]
theorem stF_one {n : Nat} {es : List En} (hB : BkOk n es) (d k : Int) : ∀ (f g : Nat) (e : En), e ∈ es → e.num.toNat + 1 ≤ f → e.num.toNat + 1 ≤ g → stF es d k f e = stF es d k g e := by
  intro f
  induction f with
  | zero =>
    intro g e he hf _
    omega
  | succ f ih =>
    intro g e he hf hg
    cases g with
    | zero => omega
    | succ g =>
      show wordBy es d k e _ = wordBy es d k e _
      congr 1
      refine any_congr fun r hr => any_congr fun u hu => ?_
      cases hd : isD r u with
      | false => rfl
      | true =>
        unfold isD at hd
        rw [Bool.and_eq_true] at hd
        have hn := of_decide_eq_true hd.2
        have lt := ((hB.ok e he).rest r hr).2
        have r1 := hB.rng e he
        have r2 := hB.rng u hu
        rw [ih g u hu (by omega) (by omega)]
theorem st_eq {n : Nat} {es : List En} (hB : BkOk n es) (d k : Int) {e : En} (he : e ∈ es) : st es d k e = wordBy es d k e (e.rests.any fun r => es.any fun u => isD r u && !carries (st es d k u)) := by
  show wordBy es d k e _ = wordBy es d k e _
  congr 1
  refine any_congr fun r hr => any_congr fun u hu => ?_
  cases hd : isD r u with
  | false => rfl
  | true =>
    unfold isD at hd
    rw [Bool.and_eq_true] at hd
    have hn := of_decide_eq_true hd.2
    have lt := ((hB.ok e he).rest r hr).2
    have r1 := hB.rng e he
    have r2 := hB.rng u hu
    rw [stF_one hB d k e.num.toNat (u.num.toNat + 1) u hu (by omega) (by omega)]
    rfl
/-- a rest is lost just where that very deed carries nothing -/
theorem lost_one {n : Nat} {es : List En} (hB : BkOk n es) (d k : Int) {r : Int} {u : En} (hu : u ∈ es) (hd : u.isDeed = true) (hn : u.num = r) : (es.any fun u => isD r u && !carries (st es d k u)) = !carries (st es d k u) := by
  rw [Bool.eq_iff_iff, List.any_eq_true]
  constructor
  · rintro ⟨u', hu', h⟩
    rw [Bool.and_eq_true] at h
    unfold isD at h
    rw [Bool.and_eq_true] at h
    have := num_inj hB hu' hu ((of_decide_eq_true h.1.2).trans hn.symm)
    rw [← this]
    exact h.2
  · intro h
    refine ⟨u, hu, ?_⟩
    unfold isD
    rw [hd, decide_eq_true hn, h]
    rfl
theorem dn_at {es : List En} {r : Int} (h : r ∈ dn es) : ∃ u ∈ es, u.isDeed = true ∧ u.num = r := mem_dn.mp h
/-- the words of deeds, as a dict's pairs -/
abbrev wds (es : List En) (d k : Int) (ys : List (Addr × En)) : List (Key × V) := ys.map fun z => (Sum.inl z.2.num, V.str (st es d k z.2))
theorem valV_map {α : Type} {f : α → Int} {g : α → V} {l : List α} (nd : (l.map f).Nodup) {z : α} (hz : z ∈ l) : valV (l.map fun z => ((Sum.inl (f z) : Key), g z)) (.inl (f z)) = some (g z) := by
  induction l with
  | nil => cases hz
  | cons y r ih =>
    have h2 := List.nodup_cons.mp (show (f y :: r.map f).Nodup from nd)
    show Option.map (·.2) (List.find? (fun kv => decide (kv.1 = (Sum.inl (f z) : Key))) ((Sum.inl (f y), g y) :: r.map fun z => ((Sum.inl (f z) : Key), g z))) = _
    rw [List.find?_cons]
    rcases List.mem_cons.mp hz with rfl | hz
    · simp
    · have hne : ¬ (Sum.inl (f y) : Key) = Sum.inl (f z) := fun q => by
        injection q with q
        exact h2.1 (List.mem_map.mpr ⟨z, hz, q.symm⟩)
      rw [decide_eq_false hne]
      exact ih h2.2 hz
theorem EntAt.seven {H : Hp} {a : Addr} {e : En} (h : EntAt H a e) (hd : e.isDeed = true) : ∃ xs r, H a = some (.tup xs) ∧ atI xs 7 = some (.ref r) ∧ H r = some (.tup (e.rests.map V.int)) := by
  unfold EntAt at h
  unfold En.isDeed at hd
  unfold En.rests
  cases hk : e.kd with
  | deed g t rs ws =>
    rw [hk] at h
    obtain ⟨r, w, h1, h2, _⟩ := h
    exact ⟨_, r, h1, atI_nat (j := 7) rfl, h2⟩
  | act x o =>
    rw [hk] at hd
    cases hd
end Deed

namespace Deed
open PySem PySem.Spec PyProof.Rows L2 LamX
/-- the acts in force, in whatever order -/
structure ForcedAt (es : List En) (d k : Int) (fs : List (Addr × En)) : Prop where
  mem : ∀ z ∈ fs, z.2 ∈ es ∧ z.2.isDeed = false ∧ frc es d k z.2 = true
  all : ∀ u ∈ es, u.isDeed = false → frc es d k u = true → ∃ z ∈ fs, z.2 = u
  len : fs.length ≤ 16
theorem ForcedAt.any {n : Nat} {es : List En} {d k : Int} {fs : List (Addr × En)} (h : ForcedAt es d k fs) (hB : BkOk n es) (x : Str) (hx : x ≠ "deed") (m : Int) : (!((((fs.filter fun z => isOn x m z.2).map fun z => z.2.num).map V.int).isEmpty)) = anyF es d k x m := by
  unfold anyF
  rw [Bool.eq_iff_iff, List.any_eq_true]
  constructor
  · intro hh
    have hne : ¬ (((fs.filter fun z => isOn x m z.2).map fun z => z.2.num).map V.int) = [] := fun z => by
      rw [z] at hh
      cases hh
    have hne2 : fs.filter (fun z => isOn x m z.2) ≠ [] := fun z => hne (by rw [z]; rfl)
    obtain ⟨z, hz⟩ := List.exists_mem_of_ne_nil _ hne2
    obtain ⟨h1, h2⟩ := List.mem_filter.mp hz
    exact ⟨z.2, (h.mem z h1).1, by rw [h2, (h.mem z h1).2.2]; rfl⟩
  · rintro ⟨u, hu, hh⟩
    rw [Bool.and_eq_true] at hh
    obtain ⟨hd, _, _⟩ := isOn_act (hB.ok u hu) hx hh.1
    obtain ⟨z, hz, rfl⟩ := h.all u hu hd hh.2
    have hm : z ∈ fs.filter fun z => isOn x m z.2 := List.mem_filter.mpr ⟨hz, hh.1⟩
    cases hl : fs.filter (fun z => isOn x m z.2) with
    | nil => rw [hl] at hm; cases hm
    | cons a r => rfl
section
variable {P : Program} {w : World} {K : PySem.W.Frag} {mg : Str → Option Value} {base : Heap} {T : List (Addr × Str)} {fOn : Addr} {dOn : FuncData}
/-- the words that carry, of the module's top -/
def CarryAt (K : PySem.W.Frag) (mg : Str → Option Value) : Prop := ∃ a : Addr, mg "CARRYING" = some (.ref a) ∧ ∀ H : Hp, SqT K H a [.str "stands", .str "paid"]
abbrev sWordOf : Stmt := topS 24
abbrev nWordOf : List Str := ["deed", "forced", "words", "d", "k", "rest"]
abbrev pWordOf : List Str := ["deed", "forced", "words", "d", "k"]
theorem scWordOf : FnScope nWordOf pWordOf (defScope sWordOf) := ⟨rfl, rfl, rfl, by decide +kernel, rfl, by decide +kernel, by decide +kernel⟩
def spWordOf : Sp := fun vs H Q _ => ∃ (a fo wd : Addr) (e : En) (n : Nat) (es : List En) (d k : Int) (fs : List (Addr × En)) (kvs : List (Key × V)), vs = [.ref a, .ref fo, .ref wd, .int d, .int k] ∧ EntAt H a e ∧ e ∈ es ∧ e.isDeed = true ∧ BkOk n es ∧ H fo = some (.lst (refs fs)) ∧ (∀ z ∈ fs, EntAt H z.1 z.2) ∧ ForcedAt es d k fs ∧
  H wd = some (.dK kvs) ∧ (∀ r ∈ e.rests, ∃ u ∈ es, u.isDeed = true ∧ u.num = r ∧ valV kvs (.inl r) = some (.str (st es d k u))) ∧ ∀ H', Same H H' → Q (.str (st es d k e)) H'
theorem ok_wordOf {f : Addr} {fd : FuncData} {k : Nat} (F : Fun K "word_of_deed" "word_of_deed" sWordOf f fd) (DO : Df K mg "acts_on" sActsOn pActsOn fOn dOn) (mW : MgInt mg "WORD" 4) (mO : MgInt mg "OF" 5) (mN : MgInt mg "NUMBER" 0) (mWr : MgInt mg "WRITTEN" 2) (mD : MgInt mg "DAY" 1) (mR : MgInt mg "RESTS" 7) (mA : mg "any" = none) (mC : CarryAt K mg) : FnOk P w K mg base CX0 (k + 2) f fd pWordOf spWordOf := by
  have GO : FnOk P w K mg base CX0 (k + 1) fOn dOn pActsOn spActsOn := ok_actsOn DO.F mW mO mN
  obtain ⟨aC, gC, sC⟩ := mC
  refine F.ok scWordOf (fun vs H Q E h => ?_) (fun cdv A outer s H vs Q E hr h => ?_)
  · obtain ⟨a, fo, wd, e, n, es, d, k, fs, kvs, rfl, _⟩ := h
    rfl
  · obtain ⟨a, fo, wd, e, n, es, d, kk, fs, kvs, rfl, hE, he, hd, hB, hfo, hfs, hF, hwd, hrs, q⟩ := h
    have hu := hu_of hr
    refine ⟨_, pss_cons (ps_if (pt_cmpR op_gt (pe_ix ix_tup (pv 0) (pe_num (by rfl) mWr) (fun _ _ => rfl)) (pv 4) (nomark _)) (pss_one (ps_ret pe_str)) pss_nil)
      (pss_cons (ps_if (pt_cmpR op_gt (pe_ix ix_tup (pv 0) (pe_num (by rfl) mD) (fun _ _ => rfl)) (pv 3) (nomark _)) (pss_one (ps_ret pe_str)) pss_nil)
      (pss_cons (ps_if (pt_truth (pe_call GO hr (by rfl) DO.g DO.F.kp DO.b .nil pass0 (pa_cons (pv 1) (pa_cons pe_str (pa_cons (pe_ix ix_tup (pv 0) (pe_num (by rfl) mN) (fun _ _ => rfl)) pa_nil)))) (by intro _; rfl)) (pss_one (ps_ret pe_str)) pss_nil)
      (pss_cons (ps_if (pt_val (pe_callB (cr_any rfl) (by rfl) mA (by decide +kernel) (pa_cons (pe_lc (own := [("rest", 5)]) (g := gName 5) (by rfl) scWordOf.nd (pi_tup (pe_ix ix_tup (pv 0) (pe_num (by rfl) mR) (fun _ _ => rfl))) (blkOk_by (own := [("rest", 5)]) (N := nWordOf) (sc := defScope sWordOf) (by decide +kernel)) (fun _ _ _ _ _ => pg_name (i := 5) scWordOf.nd rfl (Or.inl rfl)) (fun _ _ _ _ _ => pts_nil)
          (fun _ _ _ _ _ => show PE _ _ (tOp (rIn K true) (tDGet (tVar 2) (tVar 5)) (tC (.ref aC))) from pe_cmpR op_notIn_seq (pe_dget hu (pv 2) (pv 5) (fun _ _ => rfl)) (pe_glob (by rfl) gC rfl) (by rfl))) pa_nil))) (pss_one (ps_ret pe_str)) pss_nil)
      (pss_cons (ps_if (pt_truth (pe_call GO hr (by rfl) DO.g DO.F.kp DO.b .nil pass0 (pa_cons (pv 1) (pa_cons pe_str (pa_cons (pe_ix ix_tup (pv 0) (pe_num (by rfl) mN) (fun _ _ => rfl)) pa_nil)))) (by intro _; rfl)) (pss_one (ps_ret pe_str)) pss_nil)
      (pss_one (ps_ret pe_str)))))), ?_⟩
    have sq := st_eq hB d kk he
    unfold wordBy at sq
    obtain ⟨xs, ex, g0, g1, g2, _⟩ := hE.tup
    have hlen := hF.len
    refine ⟨_, rfl, a, xs, 2, _, rfl, rfl, SqT.of ex, g2, _, rfl, _, _, rfl, rfl, _, rfl, ?_⟩
    refine ite2 (fun c => ?_) (fun c => ?_)
    · have c' : kk < e.wri := of_decide_eq_true c
      rw [if_pos c'] at sq
      rw [sq] at q
      exact q H (Same.refl H)
    have c' : ¬ kk < e.wri := fun z => c (decide_eq_true z)
    rw [if_neg c'] at sq
    refine ⟨_, rfl, a, xs, 1, _, rfl, rfl, SqT.of ex, g1, _, rfl, _, _, rfl, rfl, _, rfl, ?_⟩
    refine ite2 (fun c2 => ?_) (fun c2 => ?_)
    · have c2' : d < e.day := of_decide_eq_true c2
      rw [if_pos c2'] at sq
      rw [sq] at q
      exact q H (Same.refl H)
    have c2' : ¬ d < e.day := fun z => c2 (decide_eq_true z)
    rw [if_neg c2'] at sq
    refine ⟨_, rfl, _, rfl, a, xs, 0, _, rfl, rfl, SqT.of ex, g0, fo, "void", e.num, fs, rfl, hfo, fun z hz => ⟨hfs z hz, (hF.mem z hz).2.1⟩, by omega, fun p1 H1 s1 np1 ep1 => ⟨_, .inl ⟨_, SqL.of ep1, rfl⟩, ?_⟩⟩
    rw [hF.any hB "void" (by decide) e.num]
    refine ite2 (fun c3 => ?_) (fun c3 => ?_)
    · rw [if_pos c3] at sq
      rw [sq] at q
      exact q H1 s1
    rw [if_neg c3] at sq
    -- the rests
    obtain ⟨xs7, r, ex7, g7, er⟩ := (hE.kp (Same.tup s1)).seven hd
    refine ⟨_, rfl, a, xs7, 7, _, rfl, rfl, SqT.of ex7, g7, r, rfl, ⟨_, SqT.of er⟩, fun D nD => ?_⟩
    refine lc_tup (K := K) (a := r) (xs := e.rests.map V.int) (fun i H' => H' D = some (.lst (((e.rests.take i).map fun r => es.any fun u => isD r u && !carries (st es d kk u)).map V.bl)) ∧ Same H1 H') ⟨upd_same, fun b o e => by rw [upd_ne (ne_of_none e nD)]; exact e⟩ (fun i H' _ h => SqT.of (h.2 _ _ er)) ?_ ?_
    · rintro i x H' hx ⟨eD, sm⟩
      rw [List.getElem?_map] at hx
      cases hn : e.rests[i]? with
      | none => rw [hn] at hx; cases hx
      | some m =>
        rw [hn] at hx
        injection hx with hx
        subst hx
        obtain ⟨u, hu1, hu2, hu3, hu4⟩ := hrs m (List.mem_of_getElem? hn)
        have hi : i < e.rests.length := (List.getElem?_eq_some_iff.mp hn).1
        have hrl : e.rests.length ≤ 2 := by
          have h4 := (hB.ok e he).2.2.2
          unfold En.rests
          cases hk : e.kd with
          | deed g t rs ws =>
            rw [hk] at h4
            exact h4.2.2.2.1
          | act x o => exact Nat.zero_le _
        refine ⟨rfl, ?_⟩
        unfold tYes
        dsimp only
        rw [if_pos rfl]
        have dg : DGet H' wd (.int m) (some (.str (st es d kk u))) := by
          have h1 := DGet.k (k := Sum.inl m) (sm _ _ (s1 _ _ hwd))
          rw [hu4] at h1
          exact h1
        refine ⟨_, rfl, _, rfl, wd, _, rfl, dg, aC, _, rfl, .inr (sC H'), rfl, rfl, _, eD, small1000 (by rw [List.length_map, List.length_map, List.length_take]; omega), ?_, fun b o e => ?_⟩
        · rw [upd_same, take_more hn, List.map_append, List.map_append]
          have e1 : inV (.str (st es d kk u)) [.str "stands", .str "paid"] = carries (st es d kk u) := mem_inS (ws := ["stands", "paid"])
          have e2 := lost_one hB d kk hu1 hu2 hu3
          simp [e1, e2]
        · rw [upd_ne (ne_of_none e nD)]
          exact sm _ _ e
    rintro H2 ⟨eD, sm⟩
    have el : e.rests.take (e.rests.map V.int).length = e.rests := List.take_of_length_le (by rw [List.length_map]; exact Nat.le_refl _)
    rw [el] at eD
    have s2 := s1.trans sm
    refine ⟨D, _, rfl, SqL.of eD, _, rfl, ?_⟩
    have ea : ((e.rests.map fun r => es.any fun u => isD r u && !carries (st es d kk u)).any id) = e.rests.any fun r => es.any fun u => isD r u && !carries (st es d kk u) := by
      rw [List.any_map]
      rfl
    rw [ea]
    refine ite2 (fun c4 => ?_) (fun c4 => ?_)
    · rw [if_pos c4] at sq
      rw [sq] at q
      exact q H2 s2
    rw [if_neg c4] at sq
    obtain ⟨xs2, ex2, h0, _⟩ := (hE.kp (Same.tup s2)).tup
    refine ⟨_, rfl, _, rfl, a, xs2, 0, _, rfl, rfl, SqT.of ex2, h0, fo, "paid", e.num, fs, rfl, s2 _ _ hfo, fun z hz => ⟨(hfs z hz).kp (Same.tup s2), (hF.mem z hz).2.1⟩, by omega, fun p3 H3 s3 np3 ep3 => ⟨_, .inl ⟨_, SqL.of ep3, rfl⟩, ?_⟩⟩
    rw [hF.any hB "paid" (by decide) e.num]
    refine ite2 (fun c5 => ?_) (fun c5 => ?_)
    · rw [if_pos c5] at sq
      rw [sq] at q
      exact q H3 (s2.trans s3)
    · rw [if_neg c5] at sq
      rw [sq] at q
      exact q H3 (s2.trans s3)
end
end Deed

namespace Deed
open PySem PySem.Spec PyProof.Rows L2 LamX
/-- the deeds of zs by their numbers -/
def DeedsUp (zs ys : List (Addr × En)) : Prop := ys.Pairwise (fun a b => a.2.num < b.2.num) ∧ (∀ x, x ∈ ens ys ↔ x ∈ ens zs ∧ x.isDeed = true) ∧ ys.length ≤ 16
theorem DeedsUp.nodup {zs ys : List (Addr × En)} (h : DeedsUp zs ys) : ((ens ys).map (·.num)).Nodup := by
  have h1 := h.1
  refine List.pairwise_map.mpr (List.pairwise_map.mpr (h1.imp fun hh => ?_))
  omega
theorem wds_one {zs ys ys' : List (Addr × En)} (h : DeedsUp zs ys) (h' : DeedsUp zs ys') : ens ys = ens ys' := by
  have key : ∀ (l m : List En), l.Pairwise (fun a b => a.num < b.num) → m.Pairwise (fun a b => a.num < b.num) → (∀ x, x ∈ l ↔ x ∈ m) → l = m := by
    intro l
    induction l with
    | nil =>
      intro m _ _ hh
      cases m with
      | nil => rfl
      | cons y r => exact absurd ((hh y).mpr List.mem_cons_self) (by simp)
    | cons x l ih =>
      intro m h1 h2 hh
      cases m with
      | nil => exact absurd ((hh x).mp List.mem_cons_self) (by simp)
      | cons y m =>
        have a1 := List.pairwise_cons.mp h1
        have a2 := List.pairwise_cons.mp h2
        have exy : x = y := by
          rcases List.mem_cons.mp ((hh x).mp List.mem_cons_self) with e | e
          · exact e
          · rcases List.mem_cons.mp ((hh y).mpr List.mem_cons_self) with e' | e'
            · exact e'.symm
            · have := a1.1 y e'
              have := a2.1 x e
              omega
        subst exy
        congr 1
        refine ih m a1.2 a2.2 fun z => ?_
        constructor
        · intro hz
          rcases List.mem_cons.mp ((hh z).mp (List.mem_cons_of_mem _ hz)) with e | e
          · have := a1.1 z hz
            rw [e] at this
            omega
          · exact e
        · intro hz
          rcases List.mem_cons.mp ((hh z).mpr (List.mem_cons_of_mem _ hz)) with e | e
          · have := a2.1 z hz
            rw [e] at this
            omega
          · exact e
  refine key _ _ (List.pairwise_map.mpr h.1) (List.pairwise_map.mpr h'.1) fun x => ?_
  rw [h.2.1 x, h'.2.1 x]
/-- the words of deeds, by entries alone -/
abbrev wdE (es : List En) (d k : Int) (ys : List En) : List (Key × V) := ys.map fun e => (Sum.inl e.num, V.str (st es d k e))
section
variable {P : Program} {w : World} {K : PySem.W.Frag} {mg : Str → Option Value} {base : Heap} {T : List (Addr × Str)} {fCD fOA fFo fDE fWo fCk fAl : Addr} {dCD dOA dFo dDE dWo dCk dAl : FuncData}
abbrev sAllSt : Stmt := topS 25
abbrev nAllSt : List Str := ["book", "d", "k", "forced", "words", "entry"]
abbrev pAllSt : List Str := ["book", "d", "k"]
theorem scAllSt : FnScope nAllSt pAllSt (defScope sAllSt) := ⟨rfl, rfl, rfl, by decide +kernel, rfl, by decide +kernel, by decide +kernel⟩
def spAllSt (T : List (Addr × Str)) : Sp := fun vs H Q _ => ∃ (b fk t : Addr) (n : Nat) (age : Int) (zs : List (Addr × En)) (d k : Int), vs = [.ref b, .int d, .int k] ∧ BookAt H b fk t n age zs ∧ Tabs T H ∧ (0 ≤ d ∧ d ≤ 9999) ∧ (0 ≤ k ∧ k ≤ 9999) ∧
  ∀ (p : Addr) (ys : List (Addr × En)) (H' : Hp), ExtN H H' → Tabs T H' → Fresh H p → H' p = some (.dK (wdE (ens zs) d k (ens ys))) → DeedsUp zs ys → Q (.ref p) H'
theorem ok_allSt {f : Addr} {fd : FuncData} {k : Nat} {dv : List V} (F : FunD K "all_standing" "all_standing" (defArgs sAllSt) (defBody sAllSt) (defScope sAllSt) dv [] f fd) (mN : MgInt mg "NUMBER" 0)
    (DCD : Df K mg "check_day" sCheckDay ["thing"] fCD dCD) (GCD : FnOk P w K mg base CX0 k fCD dCD ["thing"] spCkDay)
    (DOA : Df K mg "open_acts" sOpenA ["book", "d", "k"] fOA dOA) (GOA : FnOk P w K mg base CX0 k fOA dOA ["book", "d", "k"] (spOpenA T)) (DFo : Df K mg "acts_in_force" sForced ["acts"] fFo dFo) (GFo : FnOk P w K mg base CX0 k fFo dFo ["acts"] spForced)
    (DDE : Df K mg "deed_entries" sDeedE ["book"] fDE dDE) (GDE : FnOk P w K mg base CX0 k fDE dDE ["book"] (spPick (·.isDeed) T)) (DWo : Df K mg "word_of_deed" sWordOf pWordOf fWo dWo) (GWo : FnOk P w K mg base CX0 k fWo dWo pWordOf spWordOf) : FnOk P w K mg base CX0 (k + 1) f fd pAllSt (spAllSt T) := by
  refine F.ok scAllSt (fun vs H Q E h => ?_) (fun cdv A outer s H vs Q E hr h => ?_)
  · obtain ⟨b, fk, t, n, age, zs, d, k, rfl, _⟩ := h
    rfl
  · obtain ⟨b, fk, t, n, age, zs, d, kk, rfl, hB, hT, hd0, hk0, q⟩ := h
    have hu := hu_of hr
    refine ⟨_, PSs.nox (pss_cons (ps_expr (pe_call GCD hr (by rfl) DCD.g DCD.F.kp DCD.b .nil pass0 (pa_cons (pv 1) pa_nil)))
      (pss_cons (ps_expr (pe_call GCD hr (by rfl) DCD.g DCD.F.kp DCD.b .nil pass0 (pa_cons (pv 2) pa_nil)))
      (pss_cons (ps_set (i := 3) scAllSt.nd rfl (.inl rfl) (pe_call GFo hr (by rfl) DFo.g DFo.F.kp DFo.b .nil pass0 (pa_cons (pe_call GOA hr (by rfl) DOA.g DOA.F.kp DOA.b .nil pass0 (pa_cons (pv 0) (pa_cons (pv 1) (pa_cons (pv 2) pa_nil)))) pa_nil)))
      (pss_cons (ps_set (i := 4) scAllSt.nd rfl (.inl rfl) pe_dnewK)
      (pss_cons (ps_for PassesOwn.never rfl (pi_list (pe_call GDE hr (by rfl) DDE.g DDE.F.kp DDE.b .nil pass0 (pa_cons (pv 0) pa_nil))) (pg_name (i := 5) scAllSt.nd rfl (.inl rfl))
        (pss_one (ps_dput hu (pv 4) (pe_ix ix_tup (pv 5) (pe_num (by rfl) mN) (fun _ _ => rfl)) (pe_call GWo hr (by rfl) DWo.g DWo.F.kp DWo.b .nil pass0 (pa_cons (pv 5) (pa_cons (pv 3) (pa_cons (pv 4) (pa_cons (pv 1) (pa_cons (pv 2) pa_nil)))))) rfl)))
      (pss_one (ps_ret (pv 4)))))))), ?_⟩
    refine ⟨_, rfl, d, rfl, hd0.1, hd0.2, ?_⟩
    refine ⟨_, rfl, kk, rfl, hk0.1, hk0.2, ?_⟩
    refine ⟨_, rfl, _, rfl, _, rfl, b, fk, t, n, age, zs, d, kk, rfl, hB, hT, fun p ys H2 e2 T2 fr2 ep2 hy2 hO => ?_⟩
    refine ⟨p, n, ens zs, d, kk, ys, rfl, ep2, hy2, hB.ok, hO, fun r H3 s3 nr er => ?_⟩
    have hF : ForcedAt (ens zs) d kk (ys.reverse.filter fun z => frc (ens zs) d kk z.2) := by
      refine ⟨fun z hz => ?_, fun u hu hd ho => ?_, ?_⟩
      · have h1 := (List.mem_filter.mp hz)
        have h2 := hO.mem z (List.mem_reverse.mp h1.1)
        exact ⟨h2.1, h2.2.1, h1.2⟩
      · obtain ⟨z, hz, rfl⟩ := hO.all u hu hd (frc_open hB.ok hu ho)
        exact ⟨z, List.mem_filter.mpr ⟨List.mem_reverse.mpr hz, ho⟩, rfl⟩
      · have h1 := List.length_filter_le (fun z : Addr × En => frc (ens zs) d kk z.2) ys.reverse
        have h2 := hO.len
        rw [List.length_reverse] at h1
        omega
    have hfE : ∀ z ∈ ys.reverse.filter (fun z => frc (ens zs) d kk z.2), EntAt H3 z.1 z.2 := fun z hz => (hy2 z (List.mem_reverse.mp (List.mem_filter.mp hz).1)).kp (Same.tup s3)
    generalize (ys.reverse.filter fun z => frc (ens zs) d kk z.2) = fs at er hF hfE
    have e3 : ExtN H H3 := e2.trans (.of s3)
    have T3 : Tabs T H3 := T2.ext s3
    refine fun wd nwd => ?_
    have e4 : ExtN H3 (upd H3 wd (.dK [])) := ExtN.new nwd _
    have T4 : Tabs T (upd H3 wd (.dK [])) := Tabs.new T3 nwd _
    have ew : (upd H3 wd (.dK [])) wd = some (.dK []) := upd_same
    have frw : Fresh H wd := Fresh.of e3 nwd
    generalize (upd H3 wd (.dK [])) = H4 at e4 T4 ew
    have e04 := e3.trans e4
    have hB4 := hB.kp (ExtN.tup e04)
    have nl : ∀ xs : List V, ∀ ps, HO.lst xs ≠ .tbl ps := fun xs ps z => by cases z
    have nk : ∀ kv : List (Key × V), ∀ ps, HO.dK kv ≠ .tbl ps := fun xs ps z => by cases z
    refine ⟨_, rfl, b, fk, t, n, age, zs, rfl, hB4, T4, fun p5 zs' H5 e5 T5 fr5 ep5 pm so => ?_⟩
    have hsub : ∀ z ∈ zs'.filter (fun z => z.2.isDeed), z ∈ zs ∧ z.2.isDeed = true := fun z hz => ⟨pm.mem_iff.mp (List.mem_filter.mp hz).1, (List.mem_filter.mp hz).2⟩
    have hDU : DeedsUp zs (zs'.filter fun z => z.2.isDeed) := by
      refine ⟨so.filter _, fun x => ?_, ?_⟩
      · constructor
        · intro hx
          obtain ⟨z, hz, rfl⟩ := List.mem_map.mp hx
          exact ⟨List.mem_map.mpr ⟨z, (hsub z hz).1, rfl⟩, (hsub z hz).2⟩
        · rintro ⟨hx, hd⟩
          obtain ⟨z, hz, rfl⟩ := List.mem_map.mp hx
          exact List.mem_map.mpr ⟨z, List.mem_filter.mpr ⟨pm.mem_iff.mpr hz, hd⟩, rfl⟩
      · have h1 := List.length_filter_le (fun z : Addr × En => z.2.isDeed) zs'
        have h2 := pm.length_eq
        have h3 := hB.len
        omega
    generalize (zs'.filter fun z => z.2.isDeed) = ds at ep5 hsub hDU
    have nwp : wd ≠ p5 := fr5.ne ew (nk _)
    have nwr : wd ≠ r := fun z => by
      rw [z, er] at nwd
      cases nwd
    refine ⟨p5, rfl, ⟨_, SqL.of ep5⟩, ?_⟩
    refine for_list (K := K) (a := p5) (xs := refs ds) (fun i σ H' => ∃ y5, σ = [some (.ref b), some (.int d), some (.int kk), some (.ref r), some (.ref wd), y5] ∧ (∀ b o, b ≠ wd → H5 b = some o → H' b = some o) ∧ H' wd = some (.dK (wdE (ens zs) d kk (ens (ds.take i)))) ∧ Tabs T H') ⟨none, rfl, fun _ _ _ h => h, e5 _ _ ew (nk _), T5⟩ (fun i σ H' _ h => ?_) ?_ ?_
    · obtain ⟨_, _, kp, _⟩ := h
      exact SqL.of (kp _ _ nwp.symm ep5)
    · rintro i x σ H' hx ⟨y5, rfl, kp, ewd, T'⟩
      obtain ⟨z, hz, rfl⟩ := ref_at hx
      have hzm := List.mem_of_getElem? hz
      have hi : i < ds.length := (List.getElem?_eq_some_iff.mp hz).1
      have hdl := hDU.2.2
      obtain ⟨hz1, hz2⟩ := hsub z hzm
      have hez : z.2 ∈ ens zs := List.mem_map.mpr ⟨z, hz1, rfl⟩
      have kT : KpT H H' := fun b0 xs0 h0 => kp _ _ (frw.ne h0 fun ps z => by cases z).symm.symm (ExtN.tup (e04.trans e5) _ _ h0)
      have er' : H' r = some (.lst (refs fs)) := kp _ _ nwr.symm (e5 _ _ (e4 _ _ er (nl _)) (nl _))
      have kT3 : KpT H3 H' := fun b0 xs0 h0 => kp _ _ (ne_of_none h0 nwd) (ExtN.tup (e4.trans e5) _ _ h0)
      have hEz := (hB.ent z hz1).kp kT
      obtain ⟨xs, ex, g0, _⟩ := hEz.tup
      have hnd : ((ens ds).map (·.num)).Nodup := hDU.nodup
      have hnt : ((ds.take i).map (fun z => z.2.num)).Nodup := by
        have e1 : (ens ds).map (·.num) = ds.map (fun z => z.2.num) := by simp [ens, List.map_map, Function.comp_def]
        rw [e1] at hnd
        exact ((List.take_sublist i ds).map _).nodup hnd
      refine ⟨_, rfl, _, rfl, _, rfl, _, rfl, _, rfl, z.1, r, wd, z.2, n, ens zs, d, kk, fs, _, rfl, hEz, hez, hz2, hB.ok, er', fun u hu => (hfE u hu).kp kT3, hF, ewd, fun m hm => ?_, fun H6 s6 => ?_⟩
      · obtain ⟨h1, h2⟩ := (hB.ok.ok z.2 hez).rest m hm
        obtain ⟨u, hu1, hu2, hu3⟩ := dn_at h1
        refine ⟨u, hu1, hu2, hu3, ?_⟩
        obtain ⟨v, hv, rfl⟩ := List.mem_map.mp ((hDU.2.1 u).mpr ⟨hu1, hu2⟩)
        have hvt : v ∈ ds.take i := by
          obtain ⟨j, hj, ej⟩ := List.mem_iff_getElem.mp hv
          have hji : j < i := by
            rcases Nat.lt_or_ge j i with q1 | q1
            · exact q1
            · have ei : ds[i] = z := by
                rw [List.getElem?_eq_getElem hi] at hz
                exact Option.some.inj hz
              rcases Nat.eq_or_lt_of_le q1 with q2 | q2
              · subst q2
                rw [ei] at ej
                rw [← ej] at hu3
                omega
              · have := List.pairwise_iff_getElem.mp hDU.1 i j hi hj q2
                rw [ei, ej] at this
                omega
          exact List.mem_take_iff_getElem.mpr ⟨j, by omega, ej⟩
        have hv1 := valV_map (f := fun z : Addr × En => z.2.num) (g := fun z : Addr × En => V.str (st (ens zs) d kk z.2)) hnt hvt
        rw [← hu3, show wdE (ens zs) d kk (ens (ds.take i)) = (ds.take i).map (fun z : Addr × En => ((Sum.inl z.2.num : Key), V.str (st (ens zs) d kk z.2))) by simp [wdE, ens, List.map_map, Function.comp_def]]
        exact hv1
      · obtain ⟨xs6, ex6, g06, _⟩ := (hEz.kp (Same.tup s6)).tup
        have ewd6 := s6 _ _ ewd
        have hnew : (Sum.inl z.2.num : Key) ∉ (wdE (ens zs) d kk (ens (ds.take i))).map (·.1) := fun hm => by
          obtain ⟨kv, hkv, ekv⟩ := List.mem_map.mp hm
          obtain ⟨e', he', rfl⟩ := List.mem_map.mp hkv
          injection ekv with ekv
          obtain ⟨v, hv, rfl⟩ := List.mem_map.mp he'
          obtain ⟨j, hj, ej⟩ := List.mem_take_iff_getElem.mp hv
          have ei : ds[i] = z := by
            rw [List.getElem?_eq_getElem hi] at hz
            exact Option.some.inj hz
          have := List.pairwise_iff_getElem.mp hDU.1 j i (by omega) hi (by omega)
          rw [ei, ej] at this
          omega
        refine ⟨_, rfl, _, rfl, z.1, xs6, 0, _, rfl, rfl, SqT.of ex6, g06, wd, _, rfl, DPut.k (k := Sum.inl z.2.num) ewd6 (small1000 ?_), ?_⟩
        · rw [List.length_map, List.length_map, List.length_take]
          omega
        refine ⟨_, rfl, fun b0 o0 nb0 h0 => ?_, ?_, ?_⟩
        · rw [upd_ne nb0]
          exact s6 _ _ (kp _ _ nb0 h0)
        · rw [upd_same, putK_new hnew, take_more hz]
          simp [wdE, ens]
        · intro q0 hq0
          obtain ⟨ps, h1, h2, h3⟩ := (T'.ext s6) q0 hq0
          have n1 : q0.1 ≠ wd := fun z0 => by
            rw [z0, ewd6] at h1
            cases h1
          refine ⟨ps, by rw [upd_ne n1]; exact h1, h2, fun pos cv hcv => ?_⟩
          obtain ⟨c0, e1, e2'⟩ := h3 pos cv hcv
          refine ⟨c0, e1, ?_⟩
          have n2 : c0 ≠ wd := fun z0 => by
            rw [z0, ewd6] at e2'
            unfold CodeO at e2'
            cases e2'
          rw [upd_ne n2]
          exact e2'
    · rintro σ H' ⟨y5, rfl, kp, ewd, T'⟩
      have el : ds.take (refs ds).length = ds := List.take_of_length_le (by rw [List.length_map]; exact Nat.le_refl _)
      rw [el] at ewd
      refine ⟨_, rfl, q wd ds H' (fun b0 o0 h0 ht => ?_) T' frw ewd hDU⟩
      exact kp _ _ (frw.ne h0 ht) ((e04.trans e5) _ _ h0 ht)
end
end Deed

namespace Deed
open PySem PySem.Spec PyProof.Rows L2
/-! ### set(xs), xs a list of ints -/
abbrev eSet (w : World) : Obj := { cls := .type "set", dict := none, data := .set #[] 0 (.fresh 0 0 (!w.params.followText "set-order")) }
section
variable {P : Program} {w : World} {A : Around} {E : Value → Shared → Prop} {s : Shared}
set_option maxHeartbeats 8000000 in
theorem call_setL {l : Addr} {items : Array Value} (ns : List Int) {Q : Value → Shared → Prop} (nh : A.handled = none) (il : s.heap.IsList l items) (ia : IntsAre items.toList ns) (bd : ns.length + 1 < scanBound)
    (fin : ∀ (h' : Heap) (tk c : Nat), SetR w h' s.heap.objs.size (fun j => decide (j ∈ ns)) c → c ≤ ns.length → (∀ b o, s.heap.get? b = some o → h'.get? b = some o) → Q (.ref s.heap.objs.size) { s with heap := h', toks := tk }) :
    wpAny (model P w) A (call (.type "set") [Value.ref l]) Q E s := by
  have zl : items.size = ns.length := by
    rw [← Array.length_toList]
    exact IntsAre.length ia
  obtain ⟨mc, mt, f1⟩ := F.called_set.mro
  have f2 := F.called_set.made
  have f3 := F.called_set.sub
  refine wpAny_call (codeAny_of_tree (?_))
  show wpAny _ _ (callAny (Value.type "set") _) _ _ _
  refine wpAny_pure ⟨Code.quiet_builtin _ (by decide +kernel), (codeAny_builtin F.entry_type_call ?_)⟩
  rw [Around.under_plain (weight_type_call_type "set" [Value.ref l] []) rfl]
  have f4 := F.called_set.notType
  have f5 := F.called_set.canCreate
  have f6 := F.typeCall_set_1 (.ref l)
  repeat (any_goals (first | assumption | wp_step))
  refine codeAny_mono (code_set_led1 (Value.ref l) (E := E) (Q₁ := fun o s₁ => o = .ref s.heap.objs.size ∧ s₁ = { s with heap := s.heap.push (eSet w) }) ⟨rfl, rfl⟩) fun r s₁ hr => ?_
  match r, hr with
  | .error e, hr => exact hr
  | .ok .next, hr => exact hr.elim
  | .ok .brk, hr => exact hr.elim
  | .ok .cont, hr => exact hr.elim
  | .ok (.ret o), hr =>
    obtain ⟨rfl, rfl⟩ := hr
    have atS : (s.heap.push (eSet w)).get? s.heap.objs.size = some (eSet w) := Heap.get?_push_size _ rfl
    have tyS : Shared.TypeIs { s with heap := s.heap.push (eSet w) } (.ref s.heap.objs.size) "set" := ⟨_, atS, rfl⟩
    have f7 := F.called_set.init.lookup
    have f8 := F.called_set.init.bind (.ref s.heap.objs.size)
    repeat (any_goals (first | assumption | wp_step))
    refine codeAny_mono (codeAny_call_builtin (R := wants (fun r s₂ => r = .none ∧ ∃ h' tk c, s₂ = { s with heap := h', toks := tk } ∧ SetR w h' s.heap.objs.size (fun j => decide (j ∈ ns)) c ∧ c ≤ ns.length ∧ (∀ b o, s.heap.get? b = some o → h'.get? b = some o)) E) F.called_set.init.plain F.entry_set_init (check_set_init_1 tyS ?_)) fun r₂ s₂ hr₂ => ?_
    · obtain ⟨⟨oc, od, dt, sl⟩, gl, gc, en, gd⟩ := il
      simp only at gc gd
      subst gc
      subst gd
      have gl' : (s.heap.push (eSet w)).get? l = some { cls := .type "list", dict := od, data := .seq items en, slots := sl } := Heap.get?_push_of_some _ gl
      have f9 := F.sub_list_set
      have f10 := F.sub_list_frozenset
      have f11 : (Value.type "list" == Value.type "dict") = false := by decide
      have il' : (s.heap.push (eSet w)).IsList l items := ⟨_, gl', rfl, en, rfl⟩
      unfold Builtin.«set.__init__» noKeywords Builtin.Frozenset.updateFrom
      generalize ePI : pyIter = IT
      wp_walk
      subst ePI
      refine wpAny_pyIter_list il' ?_
      refine wpAny_bind (wpAny_runValue (?_))
      have lt0 : l < s.heap.objs.size := Heap.lt_size gl
      have nh3 : A.in1.in1.in1.handled = none := by simp [nh]
      have nI : l ≠ (s.heap.push (eSet w)).objs.size := by rw [Heap.size_push]; exact Nat.ne_of_lt (Nat.lt_succ_of_lt lt0)
      have nS : s.heap.objs.size ∉ [(s.heap.push (eSet w)).objs.size, l] := by
        rw [Heap.size_push]
        simp only [List.mem_cons, List.not_mem_nil, or_false, not_or]
        exact ⟨Nat.ne_of_lt (Nat.lt_succ_self _), Nat.ne_of_gt lt0⟩
      have vals : ∀ (i : Nat) (v : Value), items[i]? = some v → ∃ k t, ns[i]? = some k ∧ v = .int k t := fun i v hv => by
        have hi : i < ns.length := zl ▸ (Array.getElem?_eq_some_iff.mp hv).1
        obtain ⟨t, e⟩ := PyProof.Rows.IntsAre.int_at ia i v (by rw [Array.getElem?_toList]; exact hv)
        refine ⟨ns[i], t, List.getElem?_eq_getElem hi, e.trans ?_⟩
        rw [List.getD_eq_getElem?_getD, List.getElem?_eq_getElem hi]
        rfl
      refine set_update_ints ((Walks.list nh3 _ l nI items).toS) s.heap.objs.size nS ns zl bd vals (items.size - 0) 0 _ (by omega) (Nat.zero_le _) ⟨⟨_, Heap.get?_push_size _ rfl, rfl, rfl⟩, il'.push _⟩ ⟨0, Nat.le_refl 0, setR_new_at (Heap.get?_push_of_some _ atS)⟩ fun s' c' mv lc R' => ?_
      obtain ⟨h', g', d', tk', os'⟩ := s'
      obtain rfl : g' = s.gens := mv.gens
      obtain rfl : d' = s.drawn := mv.drawn
      obtain rfl : os' = s.os := mv.os
      show wpAny _ _ _ _ _ _
      refine wpAny_pure (?_)
      show wpAny _ _ (ret Value.none) _ _ _
      refine wpAny_pure ⟨rfl, h', tk', c', rfl, R', zl ▸ lc, fun b o e => ?_⟩
      have ltb : b < s.heap.objs.size := Heap.lt_size e
      refine mv.heap b o (fun z => ?_) (Heap.get?_push_of_some _ (Heap.get?_push_of_some _ e))
      rw [Heap.size_push] at z
      simp only [List.mem_cons, List.not_mem_nil, or_false] at z
      rcases z with z | z
      · exact absurd z (Nat.ne_of_lt ltb)
      · exact absurd z (Nat.ne_of_lt (Nat.lt_succ_of_lt ltb))
    · match r₂, hr₂ with
      | .error e, hr₂ => exact hr₂
      | .ok .next, hr₂ => exact hr₂.elim
      | .ok .brk, hr₂ => exact hr₂.elim
      | .ok .cont, hr₂ => exact hr₂.elim
      | .ok (.ret r), hr₂ =>
        obtain ⟨rfl, h', tk, c', rfl, R', lc, kp⟩ := hr₂
        repeat (any_goals (first | assumption | wp_step))
        exact fin _ _ _ R' lc kp
end
section
variable {X : Cx}
/-- set(xs) -/
def rSetL (K : PySem.W.Frag) (w : World) : List V → Hp → VK → Prop := fun xs H Q => ∃ (a : Addr) (ns : List Int), xs = [V.ref a] ∧ SqL K H a (ns.map V.int) ∧ ns.length + 1 < scanBound ∧ ∀ (p : Addr) (c : Nat), H p = none → c ≤ ns.length → Q (.ref p) (upd H p (SetO w p (fun j => decide (j ∈ ns)) c))
theorem cr_setL (hc : X.calm = true) : CallR X (.type "set") (rSetL X.K X.w) := by
  intro pins s σ H vs us Q I r h
  obtain ⟨a, ns, rfl, hs, hb, q⟩ := h
  obtain ⟨its, rv, hl, hz⟩ := I.list hs
  rw [Vals.ref1 r]
  refine call_setL ns (I.ok.hd hc) hl.isList (by simpa using rv.ints) hb fun h' tk c R lc kp => ?_
  exact ⟨.ref _, _, I.laid (t' := tk) kp (Nat.le_refl _) (setO_new R), rfl, q _ c (I.hok.fresh (Nat.le_refl _)) lc⟩
end
end Deed

namespace Deed
open PySem PySem.Spec PyProof.Rows L2 LamX
/-! ### a row of deeds: the mathematics -/
/-- what a deed of the row is: v: the void of at is in force, pd: the paid of at, G: those that fall with it -/
def rowWord (v pd : Bool) (at' : Int) (G : Int → Bool) (m : Int) : Str :=
  if m = at' then (if v then "void" else if pd then "paid" else "stands") else if v && G m then "fallen" else "stands"
theorem carries_row {v pd : Bool} {at' : Int} {G : Int → Bool} {m : Int} (hG : G at' = true) : carries (rowWord v pd at' G m) = !(v && G m) := by
  unfold rowWord
  by_cases h : m = at'
  · subst h
    rw [if_pos rfl, hG]
    cases v with
    | true =>
      show carries "void" = _
      decide
    | false =>
      cases pd with
      | true => decide
      | false => decide
  · rw [if_neg h]
    cases hv : (v && G m) with
    | true =>
      show carries "fallen" = _
      decide
    | false =>
      show carries "stands" = _
      decide
/-- by induction over the numbers -/
theorem st_row {n : Nat} {es : List En} (hB : BkOk n es) {d k at' : Int} {v pd : Bool} {G : Int → Bool} (hG : G at' = true) (hv : ∀ e ∈ es, e.isDeed = true → anyF es d k "void" e.num = (decide (e.num = at') && v)) (hp : ∀ e ∈ es, e.isDeed = true → anyF es d k "paid" e.num = (decide (e.num = at') && pd))
    (ho : ∀ e ∈ es, e.isDeed = true → e.wri ≤ k ∧ e.day ≤ d) (hg : ∀ e ∈ es, e.isDeed = true → e.num ≠ at' → G e.num = e.rests.any G) :
    ∀ (f : Nat) (e : En), e.num.toNat < f → e ∈ es → e.isDeed = true → st es d k e = rowWord v pd at' G e.num := by
  intro f
  induction f with
  | zero =>
    intro e hf
    omega
  | succ f ih =>
    intro e hf he hd
    have re := hB.rng e he
    have lost : (e.rests.any fun r => es.any fun u => isD r u && !carries (st es d k u)) = e.rests.any fun r => v && G r := by
      refine any_congr fun r hr => ?_
      obtain ⟨h1, h2⟩ := (hB.ok e he).rest r hr
      obtain ⟨u, hu1, hu2, hu3⟩ := dn_at h1
      have ru := hB.rng u hu1
      rw [lost_one hB d k hu1 hu2 hu3, ih u (by omega) hu1 hu2, carries_row hG, hu3]
      cases (v && G r) <;> rfl
    rw [st_eq hB d k he, lost]
    obtain ⟨o1, o2⟩ := ho e he hd
    unfold wordBy rowWord
    rw [if_neg (by omega), if_neg (by omega), hv e he hd, hp e he hd]
    by_cases h : e.num = at'
    · rw [decide_eq_true h, if_pos h, Bool.true_and, Bool.true_and]
      cases v with
      | true => rfl
      | false =>
        have e1 : (e.rests.any fun r => false && G r) = false := by simp
        rw [e1]
        cases pd <;> rfl
    · rw [decide_eq_false h, if_neg h, Bool.false_and, Bool.false_and]
      have e2 : (e.rests.any fun r => v && G r) = (v && G e.num) := by
        rw [hg e he hd h]
        cases v with
        | true => simp
        | false => simp
      rw [e2]
      cases (v && G e.num) <;> rfl
theorem isOn_deed {n : Nat} {ds as : List Int} {e : En} {x : Str} {m : Int} (h : EnOk n ds as e) (hd : e.isDeed = true) (hx : x ≠ "deed") : isOn x m e = false := by
  unfold isOn
  rw [h.word.mpr hd, decide_eq_false (fun z => hx z.symm), Bool.false_and]
/-- over rows and acts: the acts alone matter -/
theorem anyF_acts {n : Nat} {rows acts es : List En} (hB : BkOk n es) (hm : ∀ x, x ∈ es ↔ x ∈ rows ∨ x ∈ acts) (hr : ∀ e ∈ rows, e.isDeed = true) {x : Str} (hx : x ≠ "deed") (d k m : Int) : anyF es d k x m = acts.any fun u => isOn x m u && frc es d k u := by
  unfold anyF
  rw [Bool.eq_iff_iff, List.any_eq_true, List.any_eq_true]
  constructor
  · rintro ⟨u, hu, h⟩
    rcases (hm u).mp hu with h1 | h1
    · rw [isOn_deed (hB.ok u hu) (hr u h1) hx, Bool.false_and] at h
      cases h
    · exact ⟨u, h1, h⟩
  · rintro ⟨u, hu, h⟩
    exact ⟨u, (hm u).mpr (.inr hu), h⟩
theorem frc_acts {n : Nat} {rows acts es : List En} (hB : BkOk n es) (hm : ∀ x, x ∈ es ↔ x ∈ rows ∨ x ∈ acts) (hr : ∀ e ∈ rows, e.isDeed = true) (d k : Int) {e : En} (he : e ∈ es) : frc es d k e = (isOpen d k e && acts.all fun u => !(isOn "undone" e.num u && frc es d k u)) := by
  rw [frc_eq hB d k he]
  congr 1
  rw [Bool.eq_iff_iff, List.all_eq_true, List.all_eq_true]
  constructor
  · intro h u hu
    exact h u ((hm u).mpr (.inr hu))
  · intro h u hu
    rcases (hm u).mp hu with h1 | h1
    · rw [isOn_deed (hB.ok u hu) (hr u h1) (by decide), Bool.false_and]
      rfl
    · exact h u h1
end Deed

namespace Deed
open PySem PySem.Spec PyProof.Rows L2 LamX
/-- the i-th deed of a row -/
def rowEn (i : Nat) (rs : List Int) : En := ⟨(i : Int), 0, 0, 0, .deed 0 1 rs []⟩
/-- a row of deeds: numbers as they stand, rests ahead -/
structure RowAt (H : Hp) (zs : List (Addr × En)) : Prop where
  ent : ∀ z ∈ zs, EntAt H z.1 z.2
  each : ∀ i z, zs[i]? = some z → ∃ rs, z.2 = rowEn i rs ∧ rs.length ≤ 2 ∧ rs.Pairwise (· < ·) ∧ ∀ r ∈ rs, 0 ≤ r ∧ r < (i : Int)
theorem RowAt.kp {H H' : Hp} {zs : List (Addr × En)} (h : RowAt H zs) (k : KpT H H') : RowAt H' zs := ⟨fun z hz => (h.ent z hz).kp k, h.each⟩
section
variable {P : Program} {w : World} {K : PySem.W.Frag} {mg : Str → Option Value} {base : Heap} {T : List (Addr × Str)} {fDr : Addr} {dDr : FuncData}
abbrev sRow : Stmt := topS 44
abbrev nRow : List Str := ["_law_pen_here", "_law_many", "_law_found", "_law_number", "_law_rests"]
abbrev pRow : List Str := ["_law_pen_here", "_law_many"]
theorem scRow : FnScope nRow pRow (defScope sRow) := ⟨rfl, rfl, rfl, by decide +kernel, rfl, by decide +kernel, by decide +kernel⟩
def spRow : Sp := fun vs H Q _ => ∃ (p : Addr) (many : Int), vs = [.ref p, .int many] ∧ PenAt H p ∧ 1 ≤ many ∧ many ≤ 9 ∧
  ∀ (l : Addr) (zs : List (Addr × En)) (H' : Hp), Kp p H H' → PenAt H' p → H l = none → l ≠ p → H' l = some (.lst (refs zs)) → RowAt H' zs → (zs.length : Int) = many → Q (.ref l) H'
theorem ok_row {f : Addr} {fd : FuncData} {k : Nat} (F : Fun K "_law_row" "_law_row" sRow f fd) (D : DrawD K mg fDr dDr) (B : Bi mg) (mS : mg "set" = none) : FnOk P w K mg base CX0 (k + 2) f fd pRow spRow := by
  have G : FnOk P w K mg base CX0 (k + 1) fDr dDr ["_law_pen_here", "_law_bound"] spDraw := ok_draw D.F
  refine F.ok scRow (fun vs H Q E h => ?_) (fun cdv A outer s H vs Q E hr h => ?_)
  · obtain ⟨p, m, rfl, _⟩ := h
    rfl
  · obtain ⟨p, many, rfl, hP, hm1, hm9, q⟩ := h
    refine ⟨_, pss_cons (ps_set (i := 2) scRow.nd rfl (.inl rfl) (pe_lst pa_nil))
      (pss_cons (ps_for PassesOwn.never rfl (pi_range1 rfl B.range (pa_cons (pv 1) pa_nil)) (pg_name (i := 3) scRow.nd rfl (.inl rfl))
        (pss_cons (ps_set (i := 4) scRow.nd rfl (.inl rfl) (pe_op op_rep (pe_lst (pa_cons (pe_op op_sub (pv 3) pe_int) pa_nil)) (pe_callTy call_int1 (by rfl) B.int (by decide +kernel) (pa_cons (pe_cmpR op_gt (pv 3) pe_int (nomark _)) pa_nil))))
        (pss_cons (ps_if (PW.pt (pw_and (pt_cmpR op_gt (pv 3) pe_int (nomark _)) (pw_and1 (pt_cmpR op_eq (pe_call G hr (by rfl) D.g D.F.kp D.b .nil pass0 (pa_cons (pv 0) (pa_cons pe_int pa_nil))) pe_int (nomark _)))))
          (pss_one (ps_expr (pe_bm PySem.F.plainAttrs_list PySem.F.slot_list_append PySem.F.type_list_append mt_append (pv 4) (pa_cons (pe_call G hr (by rfl) D.g D.F.kp D.b .nil pass0 (pa_cons (pv 0) (pa_cons (pv 3) pa_nil))) pa_nil)))) pss_nil)
        (pss_one (ps_expr (pe_bm PySem.F.plainAttrs_list PySem.F.slot_list_append PySem.F.type_list_append mt_append (pv 2) (pa_cons (pe_tup (pa_cons (pv 3) (pa_cons pe_int (pa_cons pe_int (pa_cons pe_int (pa_cons pe_str (pa_cons pe_int (pa_cons pe_int (pa_cons (pe_callTy call_tuple_of (by rfl) B.tuple (by decide +kernel) (pa_cons (pe_callB (show CallR _ (.builtin "sorted") (rSortedSet w) from cr_sortedSet rfl) (by rfl) B.sorted (by decide +kernel) (pa_cons (pe_callTy (show CallR _ (.type "set") (rSetL K w) from cr_setL rfl) (by rfl) mS (by decide +kernel) (pa_cons (pv 4) pa_nil)) pa_nil)) pa_nil)) (pa_cons (pe_tup pa_nil) pa_nil)))))))))) pa_nil)))))))
      (pss_one (ps_ret (pv 2)))), ?_⟩
    refine ⟨Nat.zero_le _, fun l nl => ?_⟩
    have k1 : Kp p H (upd H l (.lst [])) := Kp.new nl _
    have P1 := hP.new nl (.lst [])
    have npl : l ≠ p := hP.free nl
    have el : (upd H l (.lst [])) l = some (.lst []) := upd_same
    generalize (upd H l (.lst [])) = H1 at k1 P1 el
    refine ⟨_, rfl, _, rfl, by omega, by omega, ?_⟩
    refine for_range (lo := 0) (n := many.toNat) (fun i σ H' => ∃ y3 y4, ∃ zs : List (Addr × En), σ = [some (.ref p), some (.int many), some (.ref l), y3, y4] ∧ Kp p H H' ∧ PenAt H' p ∧ H' l = some (.lst (refs zs)) ∧ RowAt H' zs ∧ zs.length = i) ⟨none, none, [], rfl, k1, P1, el, ⟨(fun _ h => nomatch h), fun i z h => by simp at h⟩, rfl⟩ ?_ ?_
    · rintro i σ H' hi ⟨y3, y4, zs, rfl, k', P', el', hR, hlen⟩
      have hi9 : i < 9 := by omega
      -- the rests
      refine ⟨_, rfl, _, _, rfl, rfl, (by show 1 ≤ sizeLine; decide), fun m nm => ?_⟩
      have k2 : Kp p H' (upd H' m (.lst [.int (0 + (i : Int) - 1)])) := Kp.new nm _
      have P2 := P'.new nm (.lst [.int (0 + (i : Int) - 1)])
      have em : (upd H' m (.lst [.int (0 + (i : Int) - 1)])) m = some (.lst [.int (0 + (i : Int) - 1)]) := upd_same
      generalize (upd H' m (.lst [.int (0 + (i : Int) - 1)])) = H2 at k2 P2 em
      refine ⟨_, rfl, _, _, rfl, rfl, .inr ⟨_, rfl, m, _, _, rfl, rfl, em, ?_, ?_, ?_, fun r nr => ?_⟩⟩
      · split <;> decide
      · split <;> decide
      · split
        · show 1 * 1 ≤ sizeLine
          decide
        · show 1 * 0 ≤ sizeLine
          decide
      obtain ⟨rs0, ers0, hrs0, hl0⟩ : ∃ rs0 : List Int, (List.replicate (if decide (0 + (i : Int) > 0) = true then (1 : Int) else 0).toNat [V.int (0 + (i : Int) - 1)]).flatten = rs0.map V.int ∧ (∀ x ∈ rs0, 0 ≤ x ∧ x < (i : Int)) ∧ rs0.length ≤ 1 := by
        by_cases hc : 0 + (i : Int) > 0
        · rw [decide_eq_true hc]
          refine ⟨[0 + (i : Int) - 1], rfl, fun x hx => ?_, Nat.le_refl _⟩
          rw [List.mem_singleton.mp hx]
          omega
        · rw [decide_eq_false hc]
          exact ⟨[], rfl, (fun _ h => nomatch h), Nat.zero_le _⟩
      dsimp only
      rw [ers0]
      have k3 : Kp p H2 (upd H2 r (.lst (rs0.map V.int))) := Kp.new nr _
      have P3 := P2.new nr (.lst (rs0.map V.int))
      have npr : r ≠ p := P2.free nr
      have er : (upd H2 r (.lst (rs0.map V.int))) r = some (.lst (rs0.map V.int)) := upd_same
      have k13 : Kp p H' (upd H2 r (.lst (rs0.map V.int))) := k2.trans k3
      have nlr : l ≠ r := fun z => by
        have := k2 _ _ npl el'
        rw [z, nr] at this
        cases this
      have nrH : H r = none := by
        cases z : H r with
        | none => rfl
        | some o =>
          rw [(k'.trans k2) _ _ npr z] at nr
          cases nr
      generalize (upd H2 r (.lst (rs0.map V.int))) = H3 at k3 P3 er k13
      -- what comes behind, from whatever rests
      refine ⟨_, rfl, _, _, rfl, rfl, _, rfl, ?_⟩
      refine ite2 (fun c1 => (⟨_, rfl, p, 3, rfl, P3, by decide, by decide, fun v4 H4 k4 P4 a4 b4 => ⟨rfl, _, rfl, ite2 (fun c2 => ?big) (fun c2 => ?sm1)⟩⟩)) (fun c1 => iteF ?sm2)
      case big =>
        have er4 := k4 _ _ npr er
        have hi1 : 1 < 0 + (i : Int) := of_decide_eq_true c1
        refine ⟨_, rfl, .inl ⟨rfl, _, SqL.of er4⟩, _, rfl, _, rfl, p, _, rfl, P4, by omega, by omega, fun v5 H5 k5 P5 a5 b5 => ?_⟩
        have er5 := k5 _ _ npr er4
        refine ⟨r, _, _, rfl, rfl, er5, small1000 (by rw [List.length_map]; omega), ?_⟩
        have P6 := P5.put npr (.lst (rs0.map V.int ++ [.int v5]))
        have er6 : (upd H5 r (.lst (rs0.map V.int ++ [.int v5]))) r = some (.lst ((rs0 ++ [v5]).map V.int)) := by rw [upd_same, List.map_append]; rfl
        have kk : ∀ b o, b ≠ p → b ≠ r → H' b = some o → (upd H5 r (.lst (rs0.map V.int ++ [.int v5]))) b = some o := fun b o n1 n2 e => by
          rw [upd_ne n2]
          exact (k13.trans (k4.trans k5)) _ _ n1 e
        have hk : Kp p H (upd H5 r (.lst (rs0.map V.int ++ [.int v5]))) := (k'.trans (k13.trans (k4.trans k5))).over nrH _
        have hrs : ∀ x ∈ rs0 ++ [v5], 0 ≤ x ∧ x < (i : Int) := fun x hx => by
          rcases List.mem_append.mp hx with hx | hx
          · exact hrs0 x hx
          · rw [List.mem_singleton.mp hx]
            omega
        have hl2 : (rs0 ++ [v5]).length ≤ 2 := by
          rw [List.length_append]
          show rs0.length + 1 ≤ 2
          omega
        generalize (upd H5 r (.lst (rs0.map V.int ++ [.int v5]))) = H6 at P6 er6 kk hk
        generalize rs0 ++ [v5] = rsx at er6 hrs hl2
        have el6 := kk _ _ npl nlr el'
        refine ⟨_, rfl, .inl ⟨rfl, _, SqL.of el6⟩, _, rfl, ?_⟩
        refine ⟨_, rfl, r, rsx, rfl, SqL.of er6, Nat.lt_of_le_of_lt (Nat.succ_le_succ hl2) (by decide), fun se c nse lc => ?_⟩
        have k7 : Kp p H6 (upd H6 se (SetO w se (fun j => decide (j ∈ rsx)) c)) := Kp.new nse _
        have P7 := P6.new nse (SetO w se (fun j => decide (j ∈ rsx)) c)
        have ese : (upd H6 se (SetO w se (fun j => decide (j ∈ rsx)) c)) se = some (SetO w se (fun j => decide (j ∈ rsx)) c) := upd_same
        generalize (upd H6 se (SetO w se (fun j => decide (j ∈ rsx)) c)) = H7 at k7 P7 ese
        refine ⟨se, _, c, rfl, ese, by omega, fun os sl up mem ln nsl => ?_⟩
        have k8 : Kp p H7 (upd H7 sl (.lst (os.map V.int))) := Kp.new nsl _
        have P8 := P7.new nsl (.lst (os.map V.int))
        have esl : (upd H7 sl (.lst (os.map V.int))) sl = some (.lst (os.map V.int)) := upd_same
        generalize (upd H7 sl (.lst (os.map V.int))) = H8 at k8 P8 esl
        refine ⟨sl, _, rfl, .inl ⟨SqL.of esl, fun tr ntr => ?_⟩⟩
        have k9 : Kp p H8 (upd H8 tr (.tup (os.map V.int))) := Kp.new ntr _
        have P9 := P8.new ntr (.tup (os.map V.int))
        have etr : (upd H8 tr (.tup (os.map V.int))) tr = some (.tup (os.map V.int)) := upd_same
        generalize (upd H8 tr (.tup (os.map V.int))) = H9 at k9 P9 etr
        refine ⟨Nat.zero_le _, fun tw ntw => ?_⟩
        have k10 : Kp p H9 (upd H9 tw (.tup [])) := Kp.new ntw _
        have P10 := P9.new ntw (.tup [])
        have etw : (upd H9 tw (.tup [])) tw = some (.tup []) := upd_same
        generalize (upd H9 tw (.tup [])) = H10 at k10 P10 etw
        refine ⟨(by show 9 ≤ sizeLine; decide), fun a na => ?_⟩
        have k11 : Kp p H10 (upd H10 a (.tup [.int (0 + (i : Int)), .int 0, .int 0, .int 0, .str "deed", .int 0, .int 1, .ref tr, .ref tw])) := Kp.new na _
        have P11 := P10.new na (.tup [.int (0 + (i : Int)), .int 0, .int 0, .int 0, .str "deed", .int 0, .int 1, .ref tr, .ref tw])
        have ea : (upd H10 a (.tup [.int (0 + (i : Int)), .int 0, .int 0, .int 0, .str "deed", .int 0, .int 1, .ref tr, .ref tw])) a = some (.tup [.int (0 + (i : Int)), .int 0, .int 0, .int 0, .str "deed", .int 0, .int 1, .ref tr, .ref tw]) := upd_same
        generalize (upd H10 a (.tup [.int (0 + (i : Int)), .int 0, .int 0, .int 0, .str "deed", .int 0, .int 1, .ref tr, .ref tw])) = H11 at k11 P11 ea
        have k611 : Kp p H6 H11 := k7.trans (k8.trans (k9.trans (k10.trans k11)))
        have el11 := k611 _ _ npl el6
        refine ⟨l, _, _, rfl, rfl, el11, small1000 (by rw [List.length_map]; omega), ?_⟩
        have kTl := KpT.lst el11 (.lst (refs zs ++ [.ref a]))
        have kT6 : KpT H' H6 := fun b xs e => kk _ _ (P'.ne e fun _ z => by cases z) (fun z => by
          have e2 := k2.tup P' _ _ e
          rw [z, nr] at e2
          cases e2) e
        have kT : KpT H' (upd H11 l (.lst (refs zs ++ [.ref a]))) := kT6.trans ((k611.tup P6).trans kTl)
        have E11 : EntAt H11 a (rowEn i os) := ⟨tr, tw, by
          have e0 : (0 : Int) + (i : Int) = (i : Int) := by omega
          rw [e0] at ea
          exact ea, (k10.trans k11).tup P9 _ _ etr, k11.tup P10 _ _ etw⟩
        have hos : os.length ≤ 2 := by omega
        refine ⟨_, _, zs ++ [(a, rowEn i os)], rfl, (hk.trans k611).over nl _, P11.put npl _, ?_, ⟨fun z hz => ?_, fun j z hj => ?_⟩, ?_⟩
        · rw [upd_same]
          simp [refs]
        · rcases List.mem_append.mp hz with hz | hz
          · exact (hR.ent z hz).kp kT
          · rw [List.mem_singleton.mp hz]
            exact E11.kp kTl
        · by_cases hjl : j < zs.length
          · rw [List.getElem?_append_left hjl] at hj
            exact hR.each j z hj
          · rw [List.getElem?_append_right (by omega)] at hj
            have hj0 : j - zs.length = 0 := by
              by_cases h0 : j - zs.length = 0
              · exact h0
              · rw [List.getElem?_eq_none (by show 1 ≤ j - zs.length; omega)] at hj
                cases hj
            rw [hj0] at hj
            injection hj with hj
            have hji : j = i := by omega
            subst hji
            refine ⟨os, by rw [← hj], hos, up, fun x hx => hrs x ?_⟩
            have := (mem x).mp hx
            exact of_decide_eq_true this
        · rw [List.length_append, hlen]
          rfl
      case sm1 =>
        have er6 := k4 _ _ npr er
        have P6 := P4
        have kk : ∀ b o, b ≠ p → b ≠ r → H' b = some o → H4 b = some o := fun b o n1 _ e => (k13.trans k4) _ _ n1 e
        have hk : Kp p H H4 := k'.trans (k13.trans k4)
        have hrs := hrs0
        have hl2 : rs0.length ≤ 2 := by omega
        revert er6 P6 kk hk hrs hl2
        generalize H4 = H6
        generalize rs0 = rsx
        intro er6 P6 kk hk hrs hl2
        have el6 := kk _ _ npl nlr el'
        refine ⟨_, rfl, .inl ⟨rfl, _, SqL.of el6⟩, _, rfl, ?_⟩
        refine ⟨_, rfl, r, rsx, rfl, SqL.of er6, Nat.lt_of_le_of_lt (Nat.succ_le_succ hl2) (by decide), fun se c nse lc => ?_⟩
        have k7 : Kp p H6 (upd H6 se (SetO w se (fun j => decide (j ∈ rsx)) c)) := Kp.new nse _
        have P7 := P6.new nse (SetO w se (fun j => decide (j ∈ rsx)) c)
        have ese : (upd H6 se (SetO w se (fun j => decide (j ∈ rsx)) c)) se = some (SetO w se (fun j => decide (j ∈ rsx)) c) := upd_same
        generalize (upd H6 se (SetO w se (fun j => decide (j ∈ rsx)) c)) = H7 at k7 P7 ese
        refine ⟨se, _, c, rfl, ese, by omega, fun os sl up mem ln nsl => ?_⟩
        have k8 : Kp p H7 (upd H7 sl (.lst (os.map V.int))) := Kp.new nsl _
        have P8 := P7.new nsl (.lst (os.map V.int))
        have esl : (upd H7 sl (.lst (os.map V.int))) sl = some (.lst (os.map V.int)) := upd_same
        generalize (upd H7 sl (.lst (os.map V.int))) = H8 at k8 P8 esl
        refine ⟨sl, _, rfl, .inl ⟨SqL.of esl, fun tr ntr => ?_⟩⟩
        have k9 : Kp p H8 (upd H8 tr (.tup (os.map V.int))) := Kp.new ntr _
        have P9 := P8.new ntr (.tup (os.map V.int))
        have etr : (upd H8 tr (.tup (os.map V.int))) tr = some (.tup (os.map V.int)) := upd_same
        generalize (upd H8 tr (.tup (os.map V.int))) = H9 at k9 P9 etr
        refine ⟨Nat.zero_le _, fun tw ntw => ?_⟩
        have k10 : Kp p H9 (upd H9 tw (.tup [])) := Kp.new ntw _
        have P10 := P9.new ntw (.tup [])
        have etw : (upd H9 tw (.tup [])) tw = some (.tup []) := upd_same
        generalize (upd H9 tw (.tup [])) = H10 at k10 P10 etw
        refine ⟨(by show 9 ≤ sizeLine; decide), fun a na => ?_⟩
        have k11 : Kp p H10 (upd H10 a (.tup [.int (0 + (i : Int)), .int 0, .int 0, .int 0, .str "deed", .int 0, .int 1, .ref tr, .ref tw])) := Kp.new na _
        have P11 := P10.new na (.tup [.int (0 + (i : Int)), .int 0, .int 0, .int 0, .str "deed", .int 0, .int 1, .ref tr, .ref tw])
        have ea : (upd H10 a (.tup [.int (0 + (i : Int)), .int 0, .int 0, .int 0, .str "deed", .int 0, .int 1, .ref tr, .ref tw])) a = some (.tup [.int (0 + (i : Int)), .int 0, .int 0, .int 0, .str "deed", .int 0, .int 1, .ref tr, .ref tw]) := upd_same
        generalize (upd H10 a (.tup [.int (0 + (i : Int)), .int 0, .int 0, .int 0, .str "deed", .int 0, .int 1, .ref tr, .ref tw])) = H11 at k11 P11 ea
        have k611 : Kp p H6 H11 := k7.trans (k8.trans (k9.trans (k10.trans k11)))
        have el11 := k611 _ _ npl el6
        refine ⟨l, _, _, rfl, rfl, el11, small1000 (by rw [List.length_map]; omega), ?_⟩
        have kTl := KpT.lst el11 (.lst (refs zs ++ [.ref a]))
        have kT6 : KpT H' H6 := fun b xs e => kk _ _ (P'.ne e fun _ z => by cases z) (fun z => by
          have e2 := k2.tup P' _ _ e
          rw [z, nr] at e2
          cases e2) e
        have kT : KpT H' (upd H11 l (.lst (refs zs ++ [.ref a]))) := kT6.trans ((k611.tup P6).trans kTl)
        have E11 : EntAt H11 a (rowEn i os) := ⟨tr, tw, by
          have e0 : (0 : Int) + (i : Int) = (i : Int) := by omega
          rw [e0] at ea
          exact ea, (k10.trans k11).tup P9 _ _ etr, k11.tup P10 _ _ etw⟩
        have hos : os.length ≤ 2 := by omega
        refine ⟨_, _, zs ++ [(a, rowEn i os)], rfl, (hk.trans k611).over nl _, P11.put npl _, ?_, ⟨fun z hz => ?_, fun j z hj => ?_⟩, ?_⟩
        · rw [upd_same]
          simp [refs]
        · rcases List.mem_append.mp hz with hz | hz
          · exact (hR.ent z hz).kp kT
          · rw [List.mem_singleton.mp hz]
            exact E11.kp kTl
        · by_cases hjl : j < zs.length
          · rw [List.getElem?_append_left hjl] at hj
            exact hR.each j z hj
          · rw [List.getElem?_append_right (by omega)] at hj
            have hj0 : j - zs.length = 0 := by
              by_cases h0 : j - zs.length = 0
              · exact h0
              · rw [List.getElem?_eq_none (by show 1 ≤ j - zs.length; omega)] at hj
                cases hj
            rw [hj0] at hj
            injection hj with hj
            have hji : j = i := by omega
            subst hji
            refine ⟨os, by rw [← hj], hos, up, fun x hx => hrs x ?_⟩
            have := (mem x).mp hx
            exact of_decide_eq_true this
        · rw [List.length_append, hlen]
          rfl
      case sm2 =>
        have er6 := er
        have P6 := P3
        have kk : ∀ b o, b ≠ p → b ≠ r → H' b = some o → H3 b = some o := fun b o n1 _ e => k13 _ _ n1 e
        have hk : Kp p H H3 := k'.trans k13
        have hrs := hrs0
        have hl2 : rs0.length ≤ 2 := by omega
        revert er6 P6 kk hk hrs hl2
        generalize H3 = H6
        generalize rs0 = rsx
        intro er6 P6 kk hk hrs hl2
        have el6 := kk _ _ npl nlr el'
        refine ⟨_, rfl, .inl ⟨rfl, _, SqL.of el6⟩, _, rfl, ?_⟩
        refine ⟨_, rfl, r, rsx, rfl, SqL.of er6, Nat.lt_of_le_of_lt (Nat.succ_le_succ hl2) (by decide), fun se c nse lc => ?_⟩
        have k7 : Kp p H6 (upd H6 se (SetO w se (fun j => decide (j ∈ rsx)) c)) := Kp.new nse _
        have P7 := P6.new nse (SetO w se (fun j => decide (j ∈ rsx)) c)
        have ese : (upd H6 se (SetO w se (fun j => decide (j ∈ rsx)) c)) se = some (SetO w se (fun j => decide (j ∈ rsx)) c) := upd_same
        generalize (upd H6 se (SetO w se (fun j => decide (j ∈ rsx)) c)) = H7 at k7 P7 ese
        refine ⟨se, _, c, rfl, ese, by omega, fun os sl up mem ln nsl => ?_⟩
        have k8 : Kp p H7 (upd H7 sl (.lst (os.map V.int))) := Kp.new nsl _
        have P8 := P7.new nsl (.lst (os.map V.int))
        have esl : (upd H7 sl (.lst (os.map V.int))) sl = some (.lst (os.map V.int)) := upd_same
        generalize (upd H7 sl (.lst (os.map V.int))) = H8 at k8 P8 esl
        refine ⟨sl, _, rfl, .inl ⟨SqL.of esl, fun tr ntr => ?_⟩⟩
        have k9 : Kp p H8 (upd H8 tr (.tup (os.map V.int))) := Kp.new ntr _
        have P9 := P8.new ntr (.tup (os.map V.int))
        have etr : (upd H8 tr (.tup (os.map V.int))) tr = some (.tup (os.map V.int)) := upd_same
        generalize (upd H8 tr (.tup (os.map V.int))) = H9 at k9 P9 etr
        refine ⟨Nat.zero_le _, fun tw ntw => ?_⟩
        have k10 : Kp p H9 (upd H9 tw (.tup [])) := Kp.new ntw _
        have P10 := P9.new ntw (.tup [])
        have etw : (upd H9 tw (.tup [])) tw = some (.tup []) := upd_same
        generalize (upd H9 tw (.tup [])) = H10 at k10 P10 etw
        refine ⟨(by show 9 ≤ sizeLine; decide), fun a na => ?_⟩
        have k11 : Kp p H10 (upd H10 a (.tup [.int (0 + (i : Int)), .int 0, .int 0, .int 0, .str "deed", .int 0, .int 1, .ref tr, .ref tw])) := Kp.new na _
        have P11 := P10.new na (.tup [.int (0 + (i : Int)), .int 0, .int 0, .int 0, .str "deed", .int 0, .int 1, .ref tr, .ref tw])
        have ea : (upd H10 a (.tup [.int (0 + (i : Int)), .int 0, .int 0, .int 0, .str "deed", .int 0, .int 1, .ref tr, .ref tw])) a = some (.tup [.int (0 + (i : Int)), .int 0, .int 0, .int 0, .str "deed", .int 0, .int 1, .ref tr, .ref tw]) := upd_same
        generalize (upd H10 a (.tup [.int (0 + (i : Int)), .int 0, .int 0, .int 0, .str "deed", .int 0, .int 1, .ref tr, .ref tw])) = H11 at k11 P11 ea
        have k611 : Kp p H6 H11 := k7.trans (k8.trans (k9.trans (k10.trans k11)))
        have el11 := k611 _ _ npl el6
        refine ⟨l, _, _, rfl, rfl, el11, small1000 (by rw [List.length_map]; omega), ?_⟩
        have kTl := KpT.lst el11 (.lst (refs zs ++ [.ref a]))
        have kT6 : KpT H' H6 := fun b xs e => kk _ _ (P'.ne e fun _ z => by cases z) (fun z => by
          have e2 := k2.tup P' _ _ e
          rw [z, nr] at e2
          cases e2) e
        have kT : KpT H' (upd H11 l (.lst (refs zs ++ [.ref a]))) := kT6.trans ((k611.tup P6).trans kTl)
        have E11 : EntAt H11 a (rowEn i os) := ⟨tr, tw, by
          have e0 : (0 : Int) + (i : Int) = (i : Int) := by omega
          rw [e0] at ea
          exact ea, (k10.trans k11).tup P9 _ _ etr, k11.tup P10 _ _ etw⟩
        have hos : os.length ≤ 2 := by omega
        refine ⟨_, _, zs ++ [(a, rowEn i os)], rfl, (hk.trans k611).over nl _, P11.put npl _, ?_, ⟨fun z hz => ?_, fun j z hj => ?_⟩, ?_⟩
        · rw [upd_same]
          simp [refs]
        · rcases List.mem_append.mp hz with hz | hz
          · exact (hR.ent z hz).kp kT
          · rw [List.mem_singleton.mp hz]
            exact E11.kp kTl
        · by_cases hjl : j < zs.length
          · rw [List.getElem?_append_left hjl] at hj
            exact hR.each j z hj
          · rw [List.getElem?_append_right (by omega)] at hj
            have hj0 : j - zs.length = 0 := by
              by_cases h0 : j - zs.length = 0
              · exact h0
              · rw [List.getElem?_eq_none (by show 1 ≤ j - zs.length; omega)] at hj
                cases hj
            rw [hj0] at hj
            injection hj with hj
            have hji : j = i := by omega
            subst hji
            refine ⟨os, by rw [← hj], hos, up, fun x hx => hrs x ?_⟩
            have := (mem x).mp hx
            exact of_decide_eq_true this
        · rw [List.length_append, hlen]
          rfl
    · rintro σ H' ⟨y3, y4, zs, rfl, k', P', el', hR, hlen⟩
      exact ⟨_, rfl, q l zs H' k' P' nl npl el' hR (by omega)⟩
end
end Deed

namespace Deed
open PySem PySem.Spec PyProof.Rows L2 LamX
theorem BkOk.snoc {n : Nat} {es : List En} {e : En} (hok : BkOk n es) (hlt : ∀ e' ∈ es, e'.num < e.num) (h0 : 0 ≤ e.num) (h30 : e.num ≤ 30) (hEn : EnOk n (dn es) (an es) e) : BkOk n (es ++ [e]) := by
  have hd : ∀ x ∈ dn es, x ∈ dn (es ++ [e]) := fun x hx => by rw [dn_snoc]; exact List.mem_append_left _ hx
  have ha : ∀ x ∈ an es, x ∈ an (es ++ [e]) := fun x hx => by rw [an_snoc]; exact List.mem_append_left _ hx
  refine ⟨?_, fun e' he' => ?_, fun e' he' => ?_⟩
  · rw [List.map_append]
    refine List.nodup_append.mpr ⟨hok.nd, List.pairwise_singleton _ _, fun x hx y hy => ?_⟩
    obtain ⟨e', he', rfl⟩ := List.mem_map.mp hx
    have hy' : y = e.num := by simpa using hy
    rw [hy']
    exact Int.ne_of_lt (hlt e' he')
  · rcases List.mem_append.mp he' with he' | he'
    · exact hok.rng e' he'
    · rw [List.mem_singleton.mp he']
      exact ⟨h0, h30⟩
  · rcases List.mem_append.mp he' with he' | he'
    · exact (hok.ok e' he').mono hd ha
    · rw [List.mem_singleton.mp he']
      exact hEn.mono hd ha
end Deed

namespace Deed
open PySem PySem.Spec PyProof.Rows L2 LamX
/-! ### the row's books -/
theorem row_bk {H : Hp} {zs : List (Addr × En)} (h : RowAt H zs) {n : Nat} (hn : 2 ≤ n) (hl : zs.length ≤ 9) : ∀ i, i ≤ zs.length → BkOk n (ens (zs.take i)) ∧ (∀ e ∈ ens (zs.take i), e.isDeed = true ∧ 0 ≤ e.num ∧ e.num < (i : Int)) ∧ ∀ r : Int, 0 ≤ r → r < (i : Int) → r ∈ dn (ens (zs.take i)) := by
  intro i
  induction i with
  | zero =>
    intro _
    exact ⟨⟨List.nodup_nil, (fun _ h => nomatch h), (fun _ h => nomatch h)⟩, (fun _ h => nomatch h), fun r h1 h2 => by omega⟩
  | succ i ih =>
    intro hi
    obtain ⟨h1, h2, h3⟩ := ih (by omega)
    have hz : zs[i]? = some zs[i] := List.getElem?_eq_getElem (by omega)
    obtain ⟨rs, e1, e2, e3, e4⟩ := h.each i _ hz
    have et : ens (zs.take (i + 1)) = ens (zs.take i) ++ [rowEn i rs] := by
      rw [take_more hz, ← e1]
      show List.map (·.2) (zs.take i ++ [zs[i]]) = _
      rw [List.map_append]
      rfl
    have okE : EnOk n (dn (ens (zs.take i))) (an (ens (zs.take i))) (rowEn i rs) := by
      refine ⟨⟨?_, ?_⟩, ⟨?_, ?_⟩, ⟨?_, ?_⟩, ⟨?_, ?_⟩, ⟨?_, ?_⟩, ?_, e2, e3, fun r hr => ⟨h3 r (e4 r hr).1 (e4 r hr).2, (e4 r hr).2⟩, ?_, .nil, fun _ h => nomatch h⟩
      · show (0 : Int) ≤ 0; decide
      · show (0 : Int) ≤ 9999; decide
      · show (0 : Int) ≤ 0; decide
      · show (0 : Int) ≤ 9999; decide
      · show (0 : Int) ≤ 0; decide
      · show (0 : Int) ≤ 3; decide
      · decide
      · show (0 : Int) < n; omega
      · decide
      · show (1 : Int) < n; omega
      · decide
      · show 0 ≤ 3; decide
    rw [et]
    refine ⟨h1.snoc (fun e' he' => (h2 e' he').2.2) ?_ ?_ okE, fun e he => ?_, fun r hr0 hr1 => ?_⟩
    · show (0 : Int) ≤ (i : Int); omega
    · show (i : Int) ≤ 30; omega
    · rcases List.mem_append.mp he with he | he
      · have := h2 e he
        exact ⟨this.1, this.2.1, by omega⟩
      · rw [List.mem_singleton.mp he]
        refine ⟨rfl, ?_, ?_⟩
        · show (0 : Int) ≤ (i : Int); omega
        · show (i : Int) < ((i + 1 : Nat) : Int); omega
    · rw [dn_snoc]
      by_cases hri : r = (i : Int)
      · rw [hri]
        exact List.mem_append_right _ List.mem_cons_self
      · exact List.mem_append_left _ (h3 r hr0 (by omega))
/-- the three acts -/
def a10 (D at' : Int) : En := ⟨10, D, 0, 0, .act "void" at'⟩
def a11 (D at' : Int) : En := ⟨11, D, 0, 0, .act "paid" at'⟩
def a12 (D : Int) : En := ⟨12, D + 3, 0, 0, .act "undone" 10⟩
section
variable {H : Hp} {zs : List (Addr × En)} {n : Nat} {D at' : Int}
theorem bk10 (h : RowAt H zs) (hn : 2 ≤ n) (hl : zs.length ≤ 9) (hD : 1 ≤ D ∧ D ≤ 9) (ha : 0 ≤ at' ∧ at' < zs.length) : BkOk n (ens zs ++ [a10 D at']) := by
  obtain ⟨h1, h2, h3⟩ := row_bk h hn hl zs.length (Nat.le_refl _)
  rw [List.take_length] at h1 h2 h3
  refine h1.snoc (fun e he => ?_) (by show (0 : Int) ≤ 10; decide) (by show (10 : Int) ≤ 30; decide) ⟨⟨?_, ?_⟩, ⟨?_, ?_⟩, ⟨?_, ?_⟩, .inr ⟨.inr rfl, h3 at' ha.1 ha.2⟩, ?_⟩
  · have := h2 e he
    show e.num < 10
    omega
  · show 0 ≤ D; omega
  · show D ≤ 9999; omega
  · show (0 : Int) ≤ 0; decide
  · show (0 : Int) ≤ 9999; decide
  · show (0 : Int) ≤ 0; decide
  · show (0 : Int) ≤ 3; decide
  · show at' < 10; omega
theorem bk11 (h : RowAt H zs) (hn : 2 ≤ n) (hl : zs.length ≤ 9) (hD : 1 ≤ D ∧ D ≤ 9) (ha : 0 ≤ at' ∧ at' < zs.length) : BkOk n (ens zs ++ [a11 D at']) := by
  obtain ⟨h1, h2, h3⟩ := row_bk h hn hl zs.length (Nat.le_refl _)
  rw [List.take_length] at h1 h2 h3
  refine h1.snoc (fun e he => ?_) (by show (0 : Int) ≤ 11; decide) (by show (11 : Int) ≤ 30; decide) ⟨⟨?_, ?_⟩, ⟨?_, ?_⟩, ⟨?_, ?_⟩, .inr ⟨.inl rfl, h3 at' ha.1 ha.2⟩, ?_⟩
  · have := h2 e he
    show e.num < 11
    omega
  · show 0 ≤ D; omega
  · show D ≤ 9999; omega
  · show (0 : Int) ≤ 0; decide
  · show (0 : Int) ≤ 9999; decide
  · show (0 : Int) ≤ 0; decide
  · show (0 : Int) ≤ 3; decide
  · show at' < 11; omega
theorem bk3 (h : RowAt H zs) (hn : 2 ≤ n) (hl : zs.length ≤ 9) (hD : 1 ≤ D ∧ D ≤ 9) (ha : 0 ≤ at' ∧ at' < zs.length) : BkOk n ((ens zs ++ [a10 D at']) ++ [a11 D at'] ++ [a12 D]) := by
  obtain ⟨h1, h2, h3⟩ := row_bk h hn hl zs.length (Nat.le_refl _)
  rw [List.take_length] at h1 h2 h3
  have b1 := bk10 h hn hl hD ha
  have b2 : BkOk n ((ens zs ++ [a10 D at']) ++ [a11 D at']) := by
    refine b1.snoc (fun e he => ?_) (by show (0 : Int) ≤ 11; decide) (by show (11 : Int) ≤ 30; decide) ⟨⟨?_, ?_⟩, ⟨?_, ?_⟩, ⟨?_, ?_⟩, .inr ⟨.inl rfl, ?_⟩, ?_⟩
    · rcases List.mem_append.mp he with he | he
      · have := h2 e he
        show e.num < 11
        omega
      · rw [List.mem_singleton.mp he]
        show (10 : Int) < 11
        decide
    · show 0 ≤ D; omega
    · show D ≤ 9999; omega
    · show (0 : Int) ≤ 0; decide
    · show (0 : Int) ≤ 9999; decide
    · show (0 : Int) ≤ 0; decide
    · show (0 : Int) ≤ 3; decide
    · rw [dn_snoc]
      exact List.mem_append_left _ (h3 at' ha.1 ha.2)
    · show at' < 11; omega
  refine b2.snoc (fun e he => ?_) (by show (0 : Int) ≤ 12; decide) (by show (12 : Int) ≤ 30; decide) ⟨⟨?_, ?_⟩, ⟨?_, ?_⟩, ⟨?_, ?_⟩, .inl ⟨rfl, ?_⟩, ?_⟩
  · rcases List.mem_append.mp he with he | he
    · rcases List.mem_append.mp he with he | he
      · have := h2 e he
        show e.num < 12
        omega
      · rw [List.mem_singleton.mp he]
        show (10 : Int) < 12
        decide
    · rw [List.mem_singleton.mp he]
      show (11 : Int) < 12
      decide
  · show 0 ≤ D + 3; omega
  · show D + 3 ≤ 9999; omega
  · show (0 : Int) ≤ 0; decide
  · show (0 : Int) ≤ 9999; decide
  · show (0 : Int) ≤ 0; decide
  · show (0 : Int) ≤ 3; decide
  · rw [an_snoc, an_snoc]
    exact List.mem_append_left _ (List.mem_append_right _ List.mem_cons_self)
  · show (10 : Int) < 12; decide
/-- what each deed is by a book of the row and these acts -/
theorem row_st {acts es : List En} (h : RowAt H zs) (hl : zs.length ≤ 9) (hn : 2 ≤ n) (hB : BkOk n es) (hm : ∀ x, x ∈ es ↔ x ∈ ens zs ∨ x ∈ acts) (hact : ∀ u ∈ acts, u.isDeed = false) {d k : Int} (hd : 0 ≤ d) (hk : 0 ≤ k) {v pd : Bool} {G : Int → Bool} (hG : G at' = true) (hg : ∀ e ∈ ens zs, e.num ≠ at' → G e.num = e.rests.any G)
    (hv : ∀ m : Int, (acts.any fun u => isOn "void" m u && frc es d k u) = (decide (m = at') && v)) (hp : ∀ m : Int, (acts.any fun u => isOn "paid" m u && frc es d k u) = (decide (m = at') && pd)) : ∀ e ∈ ens zs, st es d k e = rowWord v pd at' G e.num := by
  obtain ⟨_, h2, _⟩ := row_bk h hn hl zs.length (Nat.le_refl _)
  rw [List.take_length] at h2
  have hr : ∀ e ∈ ens zs, e.isDeed = true := fun e he => (h2 e he).1
  have hin : ∀ e ∈ es, e.isDeed = true → e ∈ ens zs := fun e he hd => by
    rcases (hm e).mp he with h' | h'
    · exact h'
    · rw [hact e h'] at hd
      cases hd
  intro e he
  refine st_row hB hG (fun e' he' hd' => ?_) (fun e' he' hd' => ?_) (fun e' he' hd' => ?_) (fun e' he' hd' hne => hg e' (hin e' he' hd') hne) (e.num.toNat + 1) e (by omega) ((hm e).mpr (.inl he)) (hr e he)
  · rw [anyF_acts hB hm hr (by decide), hv]
  · rw [anyF_acts hB hm hr (by decide), hp]
  · obtain ⟨z, hz, rfl⟩ := List.mem_map.mp (hin e' he' hd')
    obtain ⟨i, hi, ei⟩ := List.mem_iff_getElem.mp hz
    obtain ⟨rs, e1, _⟩ := h.each i z (by rw [List.getElem?_eq_getElem hi, ei])
    rw [e1]
    exact ⟨hk, hd⟩
end
/-- a dict with the words of 0 to m - 1 -/
abbrev dictR (F : Int → Str) (m : Nat) : List (Key × V) := (List.range m).map fun i => ((Sum.inl ((i : Nat) : Int) : Key), V.str (F (i : Int)))
theorem range_nd (m : Nat) : ((List.range m).map fun i : Nat => (i : Int)).Nodup := List.pairwise_map.mpr (List.nodup_range.imp fun h e => h (Int.ofNat.inj e))
theorem dictR_nd (F : Int → Str) (m : Nat) : ((dictR F m).map (·.1)).Nodup := by
  have e : (dictR F m).map (·.1) = ((List.range m).map fun i : Nat => (i : Int)).map (Sum.inl : Int → Key) := by simp [dictR, List.map_map, Function.comp_def]
  rw [e]
  exact List.pairwise_map.mpr ((range_nd m).imp fun hne e => hne (Sum.inl.inj e))
theorem dictR_at (F : Int → Str) {m i : Nat} (h : i < m) : valV (dictR F m) (.inl (i : Int)) = some (.str (F (i : Int))) := valV_map (f := fun i : Nat => (i : Int)) (g := fun i : Nat => V.str (F (i : Int))) (range_nd m) (List.mem_range.mpr h)
theorem dictR_put (F : Int → Str) (m : Nat) (a : Int) (x : Str) (h0 : 0 ≤ a) (h1 : a < m) : putK (dictR F m) (.inl a) (.str x) = dictR (fun j => if j = a then x else F j) m := by
  unfold putK
  have hex : ((dictR F m).any fun kv => decide (kv.1 = (Sum.inl a : Key))) = true := by
    rw [List.any_eq_true]
    refine ⟨(Sum.inl a, V.str (F a)), List.mem_map.mpr ⟨a.toNat, List.mem_range.mpr (by omega), ?_⟩, decide_eq_true rfl⟩
    have : ((a.toNat : Nat) : Int) = a := by omega
    rw [this]
  rw [if_pos hex, List.map_map]
  refine List.map_congr_left fun i _ => ?_
  show (if (Sum.inl ((i : Nat) : Int) : Key) = Sum.inl a then ((Sum.inl ((i : Nat) : Int) : Key), V.str x) else (Sum.inl ((i : Nat) : Int), V.str (F (i : Int)))) = (Sum.inl ((i : Nat) : Int), V.str (if (i : Int) = a then x else F (i : Int)))
  by_cases h : (i : Int) = a
  · rw [if_pos (by rw [h]), if_pos h]
  · rw [if_neg (fun z => h (Sum.inl.inj z)), if_neg h]
/-- what all_standing tells is that dict -/
theorem row_cmp {H : Hp} {zs zsB ys : List (Addr × En)} (h : RowAt H zs) (hl : zs.length ≤ 9) {d k : Int} {F : Int → Str} (hY : DeedsUp zsB ys) (hz : ∀ x, (x ∈ ens zsB ∧ x.isDeed = true) ↔ x ∈ ens zs) (hF : ∀ e ∈ ens zs, st (ens zsB) d k e = F e.num) :
    (wdE (ens zsB) d k (ens ys)).length = (dictR F zs.length).length ∧ ∀ p ∈ wdE (ens zsB) d k (ens ys), valV (dictR F zs.length) p.1 = some p.2 ∧ flatB p.2 = true := by
  have hup : DeedsUp zsB zs := by
    refine ⟨?_, fun x => (hz x).symm, by omega⟩
    rw [List.pairwise_iff_getElem]
    intro i j hi hj hij
    obtain ⟨_, e1, _⟩ := h.each i _ (List.getElem?_eq_getElem hi)
    obtain ⟨_, e2, _⟩ := h.each j _ (List.getElem?_eq_getElem hj)
    rw [e1, e2]
    show (i : Int) < (j : Int)
    omega
  rw [wds_one hY hup]
  refine ⟨by simp [wdE, dictR], fun p hp => ?_⟩
  obtain ⟨e, he, rfl⟩ := List.mem_map.mp hp
  obtain ⟨z, hz', rfl⟩ := List.mem_map.mp he
  obtain ⟨i, hi, ei⟩ := List.mem_iff_getElem.mp hz'
  obtain ⟨rs, e1, _⟩ := h.each i z (by rw [List.getElem?_eq_getElem hi, ei])
  have en : z.2.num = (i : Int) := by rw [e1]; rfl
  refine ⟨?_, rfl⟩
  show valV (dictR F zs.length) (.inl z.2.num) = some (.str (st (ens zsB) d k z.2))
  rw [hF z.2 he, en]
  exact dictR_at F hi
end Deed

namespace Deed
open PySem PySem.Spec PyProof.Rows L2 LamX
theorem nw_void_undone : (Str.ofString "void" = Str.ofString "undone") = False := eq_false (by decide +kernel)
theorem nw_paid_undone : (Str.ofString "paid" = Str.ofString "undone") = False := eq_false (by decide +kernel)
theorem nw_void_paid : (Str.ofString "void" = Str.ofString "paid") = False := eq_false (by decide +kernel)
theorem nw_paid_void : (Str.ofString "paid" = Str.ofString "void") = False := eq_false (by decide +kernel)
theorem nw_undone_void : (Str.ofString "undone" = Str.ofString "void") = False := eq_false (by decide +kernel)
theorem nw_undone_paid : (Str.ofString "undone" = Str.ofString "paid") = False := eq_false (by decide +kernel)
theorem and_cm (a b : Int) (v : Bool) : (decide (a = b) && v) = (decide (b = a) && v) := by
  have : decide (a = b) = decide (b = a) := decide_eq_decide.mpr ⟨Eq.symm, Eq.symm⟩
  rw [this]
section
variable {H : Hp} {zs : List (Addr × En)} {n : Nat} {D at' : Int} {G : Int → Bool}
theorem deeds_row (h : RowAt H zs) : ∀ e ∈ ens zs, e.isDeed = true := fun e he => by
  obtain ⟨z, hz, rfl⟩ := List.mem_map.mp he
  obtain ⟨i, hi, ei⟩ := List.mem_iff_getElem.mp hz
  obtain ⟨rs, e1, _⟩ := h.each i z (by rw [List.getElem?_eq_getElem hi, ei])
  rw [e1]
  rfl
theorem w_one (h : RowAt H zs) (hn : 2 ≤ n) (hl : zs.length ≤ 9) (hD : 1 ≤ D ∧ D ≤ 9) (ha : 0 ≤ at' ∧ at' < zs.length) (hG : G at' = true) (hg : ∀ e ∈ ens zs, e.num ≠ at' → G e.num = e.rests.any G) {d : Int} (hd : 0 ≤ d) : ∀ e ∈ ens zs, st (ens zs ++ [a10 D at']) d 0 e = rowWord (decide (D ≤ d)) false at' G e.num := by
  have hB := bk10 h hn hl hD ha
  have hm : ∀ x, x ∈ ens zs ++ [a10 D at'] ↔ x ∈ ens zs ∨ x ∈ [a10 D at'] := fun x => List.mem_append
  have f10 : frc (ens zs ++ [a10 D at']) d 0 (a10 D at') = decide (D ≤ d) := by
    rw [frc_acts hB hm (deeds_row h) d 0 (List.mem_append_right _ List.mem_cons_self)]
    simp [isOpen, isOn, En.word, En.of, a10, nw_void_undone, nw_paid_undone, nw_void_paid, nw_paid_void, nw_undone_void, nw_undone_paid] <;> rfl
  refine row_st h hl hn hB hm ?_ hd (Int.le_refl 0) hG hg ?_ ?_
  · intro u hu
    rw [List.mem_singleton.mp hu]
    rfl
  · intro m
    rw [List.any_cons, f10]
    simp only [isOn, En.word, En.of, a10, List.any_nil, Bool.or_false, decide_true, Bool.true_and]
    exact and_cm _ _ _
  · intro m
    rw [List.any_cons, f10]
    simp [isOn, En.word, En.of, a10, nw_void_undone, nw_paid_undone, nw_void_paid, nw_paid_void, nw_undone_void, nw_undone_paid] <;> rfl
theorem w_paid (h : RowAt H zs) (hn : 2 ≤ n) (hl : zs.length ≤ 9) (hD : 1 ≤ D ∧ D ≤ 9) (ha : 0 ≤ at' ∧ at' < zs.length) (hG : G at' = true) (hg : ∀ e ∈ ens zs, e.num ≠ at' → G e.num = e.rests.any G) {d : Int} (hd : 0 ≤ d) : ∀ e ∈ ens zs, st (ens zs ++ [a11 D at']) d 0 e = rowWord false (decide (D ≤ d)) at' G e.num := by
  have hB := bk11 h hn hl hD ha
  have hm : ∀ x, x ∈ ens zs ++ [a11 D at'] ↔ x ∈ ens zs ∨ x ∈ [a11 D at'] := fun x => List.mem_append
  have f11 : frc (ens zs ++ [a11 D at']) d 0 (a11 D at') = decide (D ≤ d) := by
    rw [frc_acts hB hm (deeds_row h) d 0 (List.mem_append_right _ List.mem_cons_self)]
    simp [isOpen, isOn, En.word, En.of, a11, nw_void_undone, nw_paid_undone, nw_void_paid, nw_paid_void, nw_undone_void, nw_undone_paid] <;> rfl
  refine row_st h hl hn hB hm ?_ hd (Int.le_refl 0) hG hg ?_ ?_
  · intro u hu
    rw [List.mem_singleton.mp hu]
    rfl
  · intro m
    rw [List.any_cons, f11]
    simp [isOn, En.word, En.of, a11, nw_void_undone, nw_paid_undone, nw_void_paid, nw_paid_void, nw_undone_void, nw_undone_paid] <;> rfl
  · intro m
    rw [List.any_cons, f11]
    simp only [isOn, En.word, En.of, a11, List.any_nil, Bool.or_false, decide_true, Bool.true_and]
    exact and_cm _ _ _
theorem bkB (h : RowAt H zs) (hn : 2 ≤ n) (hl : zs.length ≤ 9) (hD : 1 ≤ D ∧ D ≤ 9) (ha : 0 ≤ at' ∧ at' < zs.length) : BkOk n ([a10 D at', a11 D at', a12 D] ++ ens zs) := by
  refine (bk3 h hn hl hD ha).perm ?_
  have e : (ens zs ++ [a10 D at']) ++ [a11 D at'] ++ [a12 D] = ens zs ++ [a10 D at', a11 D at', a12 D] := by simp
  rw [e]
  exact List.perm_append_comm
theorem w_both (h : RowAt H zs) (hn : 2 ≤ n) (hl : zs.length ≤ 9) (hD : 1 ≤ D ∧ D ≤ 9) (ha : 0 ≤ at' ∧ at' < zs.length) (hG : G at' = true) (hg : ∀ e ∈ ens zs, e.num ≠ at' → G e.num = e.rests.any G) {d k : Int} (hd : 0 ≤ d) (hk : 0 ≤ k) : ∀ e ∈ ens zs, st ([a10 D at', a11 D at', a12 D] ++ ens zs) d k e = rowWord (decide (D ≤ d) && !decide (D + 3 ≤ d)) (decide (D ≤ d)) at' G e.num := by
  have hB := bkB h hn hl hD ha
  have hm : ∀ x, x ∈ [a10 D at', a11 D at', a12 D] ++ ens zs ↔ x ∈ ens zs ∨ x ∈ [a10 D at', a11 D at', a12 D] := fun x => List.mem_append.trans Or.comm
  have m10 : a10 D at' ∈ [a10 D at', a11 D at', a12 D] ++ ens zs := List.mem_append_left _ List.mem_cons_self
  have m11 : a11 D at' ∈ [a10 D at', a11 D at', a12 D] ++ ens zs := List.mem_append_left _ (List.mem_cons_of_mem _ List.mem_cons_self)
  have m12 : a12 D ∈ [a10 D at', a11 D at', a12 D] ++ ens zs := List.mem_append_left _ (List.mem_cons_of_mem _ (List.mem_cons_of_mem _ List.mem_cons_self))
  have f12 : frc ([a10 D at', a11 D at', a12 D] ++ ens zs) d k (a12 D) = decide (D + 3 ≤ d) := by
    rw [frc_acts hB hm (deeds_row h) d k m12]
    simp [isOpen, isOn, En.word, En.of, a10, a11, a12, hk, nw_void_undone, nw_paid_undone, nw_void_paid, nw_paid_void, nw_undone_void, nw_undone_paid] <;> rfl
  have f11 : frc ([a10 D at', a11 D at', a12 D] ++ ens zs) d k (a11 D at') = decide (D ≤ d) := by
    rw [frc_acts hB hm (deeds_row h) d k m11]
    simp [isOpen, isOn, En.word, En.of, a10, a11, a12, hk, nw_void_undone, nw_paid_undone, nw_void_paid, nw_paid_void, nw_undone_void, nw_undone_paid] <;> rfl
  have f10 : frc ([a10 D at', a11 D at', a12 D] ++ ens zs) d k (a10 D at') = (decide (D ≤ d) && !decide (D + 3 ≤ d)) := by
    rw [frc_acts hB hm (deeds_row h) d k m10]
    simp only [List.all_cons, List.all_nil, f12]
    simp [isOpen, isOn, En.word, En.of, a10, a11, a12, hk, nw_void_undone, nw_paid_undone, nw_void_paid, nw_paid_void, nw_undone_void, nw_undone_paid] <;> rfl
  refine row_st h hl hn hB hm ?_ hd hk hG hg ?_ ?_
  · intro u hu
    rcases List.mem_cons.mp hu with rfl | hu
    · rfl
    · rcases List.mem_cons.mp hu with rfl | hu
      · rfl
      · rw [List.mem_singleton.mp hu]
        rfl
  · intro m
    rw [List.any_cons, List.any_cons, List.any_cons, f10, f11, f12, and_cm m at']
    simp [isOn, En.word, En.of, a10, a11, a12, nw_void_undone, nw_paid_undone, nw_void_paid, nw_paid_void, nw_undone_void, nw_undone_paid] <;> rfl
  · intro m
    rw [List.any_cons, List.any_cons, List.any_cons, f10, f11, f12, and_cm m at']
    simp [isOn, En.word, En.of, a10, a11, a12, nw_void_undone, nw_paid_undone, nw_void_paid, nw_paid_void, nw_undone_void, nw_undone_paid] <;> rfl
end
theorem rw_ff (at' : Int) (G : Int → Bool) (m : Int) : rowWord false false at' G m = "stands" := by
  unfold rowWord
  split <;> rfl
theorem rw_t (pd : Bool) (at' : Int) (G : Int → Bool) (m : Int) : rowWord true pd at' G m = (if m = at' then ("void" : Str) else if G m = true then ("fallen" : Str) else ("stands" : Str)) := by
  unfold rowWord
  rw [Bool.true_and]
  rfl
theorem rw_ft (at' : Int) (G : Int → Bool) (m : Int) : rowWord false true at' G m = (if m = at' then ("paid" : Str) else ("stands" : Str)) := by
  unfold rowWord
  rw [Bool.false_and]
  rfl
theorem Kp.lstT {g : Addr} {H H' : Hp} {xs : List V} (k : Kp g H H') (e : H g = some (.lst xs)) : KpT H H' := fun b ys h => k _ _ (fun z => by rw [z, e] at h; cases h) h
theorem Kp.dictT {g : Addr} {H H' : Hp} {xs : List (Key × V)} (k : Kp g H H') (e : H g = some (.dK xs)) : KpT H H' := fun b ys h => k _ _ (fun z => by rw [z, e] at h; cases h) h
/-- the deeds of a book of the row and acts are the row's -/
theorem row_dz {H : Hp} {zs : List (Addr × En)} (h : RowAt H zs) {acts es : List En} (hm : ∀ x, x ∈ es ↔ x ∈ ens zs ∨ x ∈ acts) (hact : ∀ u ∈ acts, u.isDeed = false) : ∀ x, (x ∈ es ∧ x.isDeed = true) ↔ x ∈ ens zs := fun x => by
  constructor
  · rintro ⟨h1, h2⟩
    rcases (hm x).mp h1 with h3 | h3
    · exact h3
    · rw [hact x h3] at h2
      cases h2
  · intro hx
    exact ⟨(hm x).mpr (.inl hx), deeds_row h x hx⟩
/-! ### who falls with it -/
structure GOk (zs : List (Addr × En)) (at' : Int) (gs : List Int) (b : Int) : Prop where
  at_ : at' ∈ gs
  rng : ∀ x ∈ gs, at' ≤ x ∧ x < b
  ok : ∀ e ∈ ens zs, e.num ≠ at' → e.num < b → decide (e.num ∈ gs) = e.rests.any fun r => decide (r ∈ gs)
theorem row_rest {H : Hp} {zs : List (Addr × En)} (h : RowAt H zs) : ∀ e ∈ ens zs, ∀ r ∈ e.rests, r < e.num := fun e he r hr => by
  obtain ⟨z, hz, rfl⟩ := List.mem_map.mp he
  obtain ⟨i, hi, ei⟩ := List.mem_iff_getElem.mp hz
  obtain ⟨rs, e1, _, _, e4⟩ := h.each i z (by rw [List.getElem?_eq_getElem hi, ei])
  rw [e1] at hr ⊢
  exact (e4 r hr).2
theorem GOk.init {zs : List (Addr × En)} {at' : Int} (hr : ∀ e ∈ ens zs, ∀ r ∈ e.rests, r < e.num) : GOk zs at' [at'] (at' + 1) := by
  refine ⟨List.mem_cons_self, fun x hx => ?_, fun e he hn hb => ?_⟩
  · rw [List.mem_singleton.mp hx]
    omega
  · rw [decide_eq_false (fun z => hn (List.mem_singleton.mp z))]
    symm
    rw [List.any_eq_false]
    intro r hr0 hc
    have h1 := hr e he r hr0
    have h2 := List.mem_singleton.mp (of_decide_eq_true hc)
    omega
theorem GOk.step {zs : List (Addr × En)} {at' b : Int} {gs : List Int} (h : GOk zs at' gs b) (hr : ∀ e ∈ ens zs, ∀ r ∈ e.rests, r < e.num) {e : En} (he : e ∈ ens zs) (hn : e.num = b) (hab : at' < b) (uq : ∀ e' ∈ ens zs, e'.num = b → e' = e) {c : Bool} (hc : (e.rests.any fun r => decide (r ∈ gs)) = c) : GOk zs at' (if c = true then gs ++ [b] else gs) (b + 1) := by
  have nb : b ∉ gs := fun z => by
    have := (h.rng b z).2
    omega
  have m1 : ∀ x, x < b → (decide (x ∈ (if c = true then gs ++ [b] else gs))) = decide (x ∈ gs) := fun x hx => by
    cases c with
    | false => rfl
    | true =>
      refine decide_eq_decide.mpr ⟨fun z => ?_, fun z => List.mem_append_left _ z⟩
      rcases List.mem_append.mp z with z | z
      · exact z
      · have := List.mem_singleton.mp z
        omega
  refine ⟨?_, fun x hx => ?_, fun e' he' hn' hb' => ?_⟩
  · cases c with
    | false => exact h.at_
    | true => exact List.mem_append_left _ h.at_
  · cases c with
    | false =>
      have := h.rng x hx
      omega
    | true =>
      rcases List.mem_append.mp hx with hx | hx
      · have := h.rng x hx
        omega
      · rw [List.mem_singleton.mp hx]
        omega
  · have ea : (e'.rests.any fun r => decide (r ∈ (if c = true then gs ++ [b] else gs))) = e'.rests.any fun r => decide (r ∈ gs) := any_congr fun r hr0 => m1 r (by have := hr e' he' r hr0; omega)
    rw [ea]
    by_cases hq : e'.num = b
    · have := uq e' he' hq
      subst this
      rw [hc, hq]
      cases c with
      | false => exact decide_eq_false nb
      | true => exact decide_eq_true (List.mem_append_right _ List.mem_cons_self)
    · rw [m1 _ (by omega)]
      exact h.ok e' he' hn' (by omega)
theorem row_uq {H : Hp} {zs : List (Addr × En)} (h : RowAt H zs) {m : Nat} {z : Addr × En} (hz : zs[m]? = some z) : ∀ e' ∈ ens zs, e'.num = (m : Int) → e' = z.2 := fun e' he' hn => by
  obtain ⟨z', hz', rfl⟩ := List.mem_map.mp he'
  obtain ⟨i, hi, ei⟩ := List.mem_iff_getElem.mp hz'
  have hzi : zs[i]? = some z' := by rw [List.getElem?_eq_getElem hi, ei]
  obtain ⟨rs, e1, _⟩ := h.each i z' hzi
  have : (i : Int) = (m : Int) := by
    rw [e1] at hn
    exact hn
  have : i = m := by omega
  subst this
  rw [hz] at hzi
  injection hzi with q
  rw [q]
/-! ### what is held in the law's body -/
theorem sNew {H : Hp} {p : Addr} (n : H p = none) (o : HO) : Same H (upd H p o) := fun b u e => by rw [upd_ne (ne_of_none e n)]; exact e
structure Sc8 (T : List (Addr × Str)) (H' : Hp) (l A g t b1 b2 b3 : Addr) (n : Nat) (zs : List (Addr × En)) (gs : List Int) (D at' : Int) (Hc : Hp) : Prop where
  x : ExtN H' Hc
  tb : Tabs T Hc
  l_ : Hc l = some (.lst (refs zs))
  A_ : Hc A = some (.lst [.ref b1, .ref b2, .ref b3])
  g_ : Hc g = some (.lst (gs.map V.int))
  row : RowAt Hc zs
  e1 : EntAt Hc b1 (a10 D at')
  e2 : EntAt Hc b2 (a11 D at')
  e3 : EntAt Hc b3 (a12 D)
  fk : FolkAt Hc t n
section
variable {T : List (Addr × Str)} {H' Hc Hd : Hp} {l A g t b1 b2 b3 : Addr} {n : Nat} {zs : List (Addr × En)} {gs : List Int} {D at' : Int}
theorem Sc8.ext (h : Sc8 T H' l A g t b1 b2 b3 n zs gs D at' Hc) (e : ExtN Hc Hd) (tb : Tabs T Hd) : Sc8 T H' l A g t b1 b2 b3 n zs gs D at' Hd :=
  ⟨h.x.trans e, tb, e _ _ h.l_ (fun ps z => by cases z), e _ _ h.A_ (fun ps z => by cases z), e _ _ h.g_ (fun ps z => by cases z), h.row.kp (ExtN.tup e), h.e1.kp (ExtN.tup e), h.e2.kp (ExtN.tup e), h.e3.kp (ExtN.tup e), h.fk.kpT (ExtN.tup e)⟩
theorem Sc8.same (h : Sc8 T H' l A g t b1 b2 b3 n zs gs D at' Hc) (s : Same Hc Hd) : Sc8 T H' l A g t b1 b2 b3 n zs gs D at' Hd := h.ext (.of s) (h.tb.ext s)
theorem Sc8.gput (h : Sc8 T H' l A g t b1 b2 b3 n zs gs D at' Hc) (f : Fresh H' g) (nl : l ≠ g) (nA : A ≠ g) (gs' : List Int) : Sc8 T H' l A g t b1 b2 b3 n zs gs' D at' (upd Hc g (.lst (gs'.map V.int))) := by
  have k := KpT.lst h.g_ (.lst (gs'.map V.int))
  exact ⟨ExtN.put h.x f _, Tabs.put h.tb h.g_ _, by rw [upd_ne nl]; exact h.l_, by rw [upd_ne nA]; exact h.A_, upd_same, h.row.kp k, h.e1.kp k, h.e2.kp k, h.e3.kp k, h.fk.kpT k⟩
theorem KpT.dk {H : Hp} {l : Addr} {xs : List (Key × V)} (e : H l = some (.dK xs)) (o : HO) : KpT H (upd H l o) := fun b ys h => by
  rw [upd_ne (fun z => by rw [z, e] at h; cases h)]
  exact h
theorem Tabs.dk {T : List (Addr × Str)} {H : Hp} (t : Tabs T H) {d : Addr} {kvs : List (Key × V)} (e : H d = some (.dK kvs)) (o : HO) : Tabs T (upd H d o) := fun q0 hq0 => by
  obtain ⟨ps, h1, h2, h3⟩ := t q0 hq0
  have n1 : q0.1 ≠ d := fun z0 => by
    rw [z0, e] at h1
    cases h1
  refine ⟨ps, by rw [upd_ne n1]; exact h1, h2, fun pos cv hcv => ?_⟩
  obtain ⟨c0, e1, e2⟩ := h3 pos cv hcv
  refine ⟨c0, e1, ?_⟩
  have n2 : c0 ≠ d := fun z0 => by
    rw [z0, e] at e2
    unfold CodeO at e2
    cases e2
  rw [upd_ne n2]
  exact e2
theorem Sc8.dput (h : Sc8 T H' l A g t b1 b2 b3 n zs gs D at' Hc) {d : Addr} {kvs : List (Key × V)} (f : Fresh H' d) (e : Hc d = some (.dK kvs)) (o : HO) : Sc8 T H' l A g t b1 b2 b3 n zs gs D at' (upd Hc d o) := by
  have k := KpT.dk e o
  have ne : ∀ {b : Addr} {xs : List V}, Hc b = some (.lst xs) → b ≠ d := fun hb z => by
    rw [z, e] at hb
    cases hb
  exact ⟨ExtN.put h.x f _, Tabs.dk h.tb e _, by rw [upd_ne (ne h.l_)]; exact h.l_, by rw [upd_ne (ne h.A_)]; exact h.A_, by rw [upd_ne (ne h.g_)]; exact h.g_, h.row.kp k, h.e1.kp k, h.e2.kp k, h.e3.kp k, h.fk.kpT k⟩
end
end Deed

namespace Deed
open PySem PySem.Spec PyProof.Rows L2 LamX
/-- all but the pen and the tables is as it was -/
def XP (p : Addr) (H H' : Hp) : Prop := ∀ b o, b ≠ p → H b = some o → (∀ ps, o ≠ .tbl ps) → H' b = some o
theorem XP.refl (p : Addr) (H : Hp) : XP p H H := fun _ _ _ h _ => h
theorem XP.trans {p : Addr} {H H1 H2 : Hp} (a : XP p H H1) (b : XP p H1 H2) : XP p H H2 := fun c o n h t => b c o n (a c o n h t) t
theorem XP.ofN {p : Addr} {H H' : Hp} (e : ExtN H H') : XP p H H' := fun b o _ h t => e b o h t
theorem XP.ofK {p : Addr} {H H' : Hp} (k : Kp p H H') : XP p H H' := fun b o n h _ => k b o n h
theorem XP.ofS {p : Addr} {H H' : Hp} (s : Same H H') : XP p H H' := fun b o _ h _ => s b o h
theorem XP.tup {p : Addr} {H H' : Hp} (x : XP p H H') (P : PenAt H p) : KpT H H' := fun b xs e => x _ _ (P.ne e fun _ z => by cases z) e fun ps z => by cases z
theorem XP.toN {p : Addr} {H0 H H' : Hp} (e : ExtN H0 H) (n : H0 p = none) (x : XP p H H') : ExtN H0 H' := fun b o h t => x b o (ne_of_none h n) (e b o h t) t
theorem EdAt.xp {p : Addr} {H H' : Hp} {ed : Addr} {n : Nat} {zs : List (Addr × En)} (h : EdAt H ed n zs) (x : XP p H H') (P : PenAt H p) : EdAt H' ed n zs :=
  ⟨x _ _ (P.ne h.at_ fun _ z => by cases z) h.at_ fun ps z => (by cases z), fun z hz => (h.ent z hz).kp (x.tup P), h.ok, h.len⟩
theorem EdAt.extN {H H' : Hp} {ed : Addr} {n : Nat} {zs : List (Addr × En)} (h : EdAt H ed n zs) (e : ExtN H H') : EdAt H' ed n zs :=
  ⟨e _ _ h.at_ fun ps z => (by cases z), fun z hz => (h.ent z hz).kp (ExtN.tup e), h.ok, h.len⟩
section
variable (K : PySem.W.Frag) (mg : Str → Option Value)
abbrev CellD := Df K mg "_law_cell_at" sCell ["_law_script", "_law_k"]
abbrev PenD := Df K mg "_law_pen" sPen ["_law_cell"]
abbrev BookD := Df K mg "_law_book" sBook ["_law_pen_here", "_law_most"]
end
/-- how many cells are looked at -/
theorem turns3 (m : Nat) : ∃ tn : Int, (if (if 3 < (m : Int) then 3 else (m : Int)) > 1 then (if 3 < (m : Int) then 3 else (m : Int)) else 1) = tn ∧ 0 ≤ tn ∧ tn ≤ 3 := ⟨_, rfl, by split <;> split <;> omega, by split <;> split <;> omega⟩
end Deed

namespace Deed
open PySem PySem.Spec PyProof.Rows L2 LamX
section
variable {P : Program} {w : World} {K : PySem.W.Frag} {mg : Str → Option Value} {base : Heap} {T : List (Addr × Str)}
abbrev sLaw : Stmt := topS 45
abbrev nLaw : List Str := ["_law_script", "_law_k", "_law_pen_here", "_law_folk_here", "_law_many", "_law_rows", "_law_at", "_law_day_here", "_law_acts", "_law_gone", "_law_number", "_law_book_here", "_law_due", "_law_still", "_law_both", "_law_paid", "_law_rest"]
theorem scLaw : FnScope nLaw ["_law_script"] (defScope sLaw) := ⟨rfl, rfl, rfl, by decide +kernel, rfl, by decide +kernel, by decide +kernel⟩
def spLaw (K : PySem.W.Frag) (T : List (Addr × Str)) : Sp := fun vs H Q _ => ∃ (a : Addr) (ns : List Int), vs = [.ref a] ∧ SqL K H a (ns.map V.int) ∧ ns.length ≤ 63 ∧ Tabs T H ∧ ∀ H', Q (.bl true) H'
abbrev rInt1 : List V → Hp → VK → Prop := fun xs H Q => (∃ i, xs = [.int i] ∧ Q (.int i) H) ∨ ∃ k, xs = [.bl k] ∧ Q (.int (if k then 1 else 0)) H
structure All08 (P : Program) (w : World) (K : PySem.W.Frag) (mg : Str → Option Value) (base : Heap) (T : List (Addr × Str)) (L : Nat) (fCe fPe fDr fFk fRo fAl : Addr) (dCe dPe dDr dFk dRo dAl : FuncData) : Prop where
  B : Bi mg
  md : mg "dict" = none
  ce : CellD K mg fCe dCe
  pe : PenD K mg fPe dPe
  dr : DrawD K mg fDr dDr
  fk : Df K mg "_law_folk" sFolk ["_law_pen_here", "_law_least"] fFk dFk
  ro : Df K mg "_law_row" sRow pRow fRo dRo
  gAl : mg "all_standing" = some (.ref fAl)
  kAl : PySem.W.keepIn K (.ref fAl) = true
  bAl : Binds K dAl pAllSt []
  gce : FnOk P w K mg base CX0 L fCe dCe ["_law_script", "_law_k"] (spCell K)
  gpe : FnOk P w K mg base CX0 L fPe dPe ["_law_cell"] spPen
  gdr : FnOk P w K mg base CX0 L fDr dDr ["_law_pen_here", "_law_bound"] spDraw
  gfk : FnOk P w K mg base CX0 L fFk dFk ["_law_pen_here", "_law_least"] spFolk
  gro : FnOk P w K mg base CX0 L fRo dRo pRow spRow
  gal : FnOk P w K mg base CX0 L fAl dAl pAllSt (spAllSt T)
theorem ok_law {L : Nat} {f fCe fPe fDr fFk fRo fAl : Addr} {fd dCe dPe dDr dFk dRo dAl : FuncData} (F : Fun K "law" "law" sLaw f fd) (A8 : All08 P w K mg base T L fCe fPe fDr fFk fRo fAl dCe dPe dDr dFk dRo dAl) : FnOk P w K mg base CX0 (L + 1) f fd ["_law_script"] (spLaw K T) := by
  obtain ⟨B, MD, CE, PE', DR, FK, RO, gAl, kAl, bAl, GCE, GPE, GDR, GFK, GRO, GAL⟩ := A8
  refine F.ok scLaw (fun vs H Q E h => ?_) (fun cdv A outer s H vs Q E hr h => ?_)
  · obtain ⟨a, ns, rfl, _⟩ := h
    rfl
  · obtain ⟨a, ns, rfl, hS, h63, hT, q⟩ := h
    have nd := scLaw.nd
    have hu := hu_of hr
    refine ⟨_, pss_cons (ps_for PassesOwn.never rfl (pi_range1 rfl B.range (pa_cons (pe_callB (call_max2 rfl) (by rfl) B.max (by decide +kernel) (pa_cons pe_int (pa_cons (pe_callB (call_min2 rfl) (by rfl) B.min (by decide +kernel) (pa_cons (pe_callB call_len_seq (by rfl) B.len PySem.boot_len (pa_cons (pv 0) pa_nil)) (pa_cons pe_int pa_nil))) pa_nil))) pa_nil)) (pg_name (i := 1) nd rfl (.inl rfl))
        (pss_cons (ps_set (i := 2) nd rfl (.inl rfl) (pe_call GPE hr (by rfl) PE'.g PE'.F.kp PE'.b .nil pass0 (pa_cons (pe_call GCE hr (by rfl) CE.g CE.F.kp CE.b .nil pass0 (pa_cons (pv 0) (pa_cons (pv 1) pa_nil))) pa_nil)))
        (pss_cons (ps_par (i := 3) (j := 4) (by rfl) nd rfl rfl (by decide) rfl rfl (pa_cons (pe_call GFK hr (by rfl) FK.g FK.F.kp FK.b .nil pass0 (pa_cons (pv 2) (pa_cons pe_int pa_nil))) (pa_cons (pe_op op_add pe_int (pe_call GDR hr (by rfl) DR.g DR.F.kp DR.b .nil pass0 (pa_cons (pv 2) (pa_cons pe_int pa_nil)))) pa_nil)) (by rfl))
        (pss_cons (ps_set (i := 5) nd rfl (.inl rfl) (pe_call GRO hr (by rfl) RO.g RO.F.kp RO.b .nil pass0 (pa_cons (pv 2) (pa_cons (pv 4) pa_nil))))
        (pss_cons (ps_par (i := 6) (j := 7) (by rfl) nd rfl rfl (by decide) rfl rfl (pa_cons (pe_call GDR hr (by rfl) DR.g DR.F.kp DR.b .nil pass0 (pa_cons (pv 2) (pa_cons (pv 4) pa_nil))) (pa_cons (pe_op op_add pe_int (pe_call GDR hr (by rfl) DR.g DR.F.kp DR.b .nil pass0 (pa_cons (pv 2) (pa_cons pe_int pa_nil)))) pa_nil)) (by rfl))
        (pss_cons (ps_set (i := 8) nd rfl (.inl rfl) (pe_lst (pa_cons (pe_tup (pa_cons pe_int (pa_cons (pv 7) (pa_cons pe_int (pa_cons pe_int (pa_cons pe_str (pa_cons (pv 6) pa_nil))))))) (pa_cons (pe_tup (pa_cons pe_int (pa_cons (pv 7) (pa_cons pe_int (pa_cons pe_int (pa_cons pe_str (pa_cons (pv 6) pa_nil))))))) (pa_cons (pe_tup (pa_cons pe_int (pa_cons (pe_op op_add (pv 7) pe_int) (pa_cons pe_int (pa_cons pe_int (pa_cons pe_str (pa_cons pe_int pa_nil))))))) pa_nil)))))
        (pss_cons (ps_set (i := 9) nd rfl (.inr rfl) (pe_lst (pa_cons (pv 6) pa_nil)))
        (pss_cons (ps_for PassesOwn.never rfl (pi_range2 rfl B.range (pa_cons (pe_op op_add (pv 6) pe_int) (pa_cons (pv 4) pa_nil))) (pg_name (i := 10) nd rfl (.inl rfl))
          (pss_one (ps_if (pt_cmpR (op_neD hr.units) (pe_lc (own := [("_law_rest", 16)]) (g := gName 16) (by rfl) nd (pi_tup (pe_ix ix_tup (pe_ix ix_list (pv 5) (pv 10) (fun _ _ => rfl)) pe_int (fun _ _ => rfl))) (blkOk_by (own := [("_law_rest", 16)]) (N := nLaw) (sc := defScope sLaw) (by decide +kernel)) (fun _ _ _ _ _ => pg_name (i := 16) nd rfl (Or.inl rfl))
              (fun _ _ _ _ _ => show PTs _ _ (tTest (tOp (rIn K false) (tVar 16) (tVar 9))) from pts_one (pt_cmpR op_in_seq (pv 16) (pv 9) (by rfl))) (fun _ _ _ _ _ => pv 16)) (pe_lst pa_nil) (nomark _))
            (pss_one (ps_expr (pe_bm PySem.F.plainAttrs_list PySem.F.slot_list_append PySem.F.type_list_append mt_append (pv 9) (pa_cons (pv 10) pa_nil)))) pss_nil)))
        (pss_cons (ps_set (i := 11) nd rfl (.inl rfl) (pe_tup (pa_cons (pv 3) (pa_cons pe_int (pa_cons (pe_callTy call_tuple_of (by rfl) B.tuple (by decide +kernel) (pa_cons (pe_op op_cat (pv 5) (pe_slice sl_list (pv 8) po_none (po_some pe_int))) pa_nil)) pa_nil)))))
        (pss_cons (ps_set (i := 12) nd rfl (.inl rfl) (pe_callTy (call_dictP rfl) (by rfl) MD (by decide +kernel) (pa_cons (pe_lc (own := [("_law_number", 10)]) (g := gName 10) (by rfl) nd (pi_range1 rfl B.range (pa_cons (pv 4) pa_nil)) (blkOk_by (own := [("_law_number", 10)]) (N := nLaw) (sc := defScope sLaw) (by decide +kernel)) (fun _ _ _ _ _ => pg_name (i := 10) nd rfl (Or.inl rfl)) (fun _ _ _ _ _ => pts_nil)
            (fun _ _ _ _ _ => show PE _ _ (tTup (tCons (tVar 10) (tCons (tOp (rIxL K) (tLst (tCons (tC (.str "stands")) (tCons (tC (.str "fallen")) tNil))) (tCB rInt1 (tCons (tOp (rIn K false) (tVar 10) (tVar 9)) tNil))) tNil))) from pe_tup (pa_cons (pv 10) (pa_cons (pe_ix ix_list (pe_lst (pa_cons pe_str (pa_cons pe_str pa_nil))) (pe_callTy call_int1 (by rfl) B.int (by decide +kernel) (pa_cons (pe_cmpR op_in_seq (pv 10) (pv 9) (by rfl)) pa_nil)) (fun _ _ => rfl)) pa_nil)))) pa_nil)))
        (pss_cons (ps_dput hu (pv 12) (pv 6) pe_str rfl)
        (pss_cons (ps_set (i := 13) nd rfl (.inl rfl) (pe_callTy (call_dictP rfl) (by rfl) MD (by decide +kernel) (pa_cons (pe_lc (own := [("_law_number", 10)]) (g := gName 10) (by rfl) nd (pi_range1 rfl B.range (pa_cons (pv 4) pa_nil)) (blkOk_by (own := [("_law_number", 10)]) (N := nLaw) (sc := defScope sLaw) (by decide +kernel)) (fun _ _ _ _ _ => pg_name (i := 10) nd rfl (Or.inl rfl)) (fun _ _ _ _ _ => pts_nil)
            (fun _ _ _ _ _ => show PE _ _ (tTup (tCons (tVar 10) (tCons (tC (.str "stands")) tNil))) from pe_tup (pa_cons (pv 10) (pa_cons pe_str pa_nil)))) pa_nil)))
        (pss_cons (ps_if (PW.pt (pw_or (pt_cmpR (op_ne_dictA (Nat.lt_of_succ_lt hu)) (pe_call GAL hr (by rfl) gAl kAl bAl .nil pass0 (pa_cons (pv 11) (pa_cons (pe_op op_sub (pv 7) pe_int) (pa_cons pe_int pa_nil)))) (pv 13) (nomark _)) (pw_or1 (pt_cmpR (op_ne_dictA (Nat.lt_of_succ_lt hu)) (pe_call GAL hr (by rfl) gAl kAl bAl .nil pass0 (pa_cons (pv 11) (pa_cons (pv 7) (pa_cons pe_int pa_nil)))) (pv 12) (nomark _))))) (pss_one (ps_ret pe_bl)) pss_nil)
        (pss_cons (ps_set (i := 14) nd rfl (.inl rfl) (pe_tup (pa_cons (pv 3) (pa_cons pe_int (pa_cons (pe_callTy call_tuple_of (by rfl) B.tuple (by decide +kernel) (pa_cons (pe_op op_cat (pv 8) (pv 5)) pa_nil)) pa_nil)))))
        (pss_cons (ps_if (pt_cmpR (op_ne_dictA (Nat.lt_of_succ_lt hu)) (pe_call GAL hr (by rfl) gAl kAl bAl .nil pass0 (pa_cons (pv 14) (pa_cons (pe_op op_add (pv 7) pe_int) (pa_cons pe_int pa_nil)))) (pv 12) (nomark _)) (pss_one (ps_ret pe_bl)) pss_nil)
        (pss_cons (ps_dput hu (pv 13) (pv 6) pe_str rfl)
        (pss_cons (ps_set (i := 15) nd rfl (.inl rfl) (pe_tup (pa_cons (pv 3) (pa_cons pe_int (pa_cons (pe_callTy call_tuple_of (by rfl) B.tuple (by decide +kernel) (pa_cons (pe_op op_cat (pv 5) (pe_slice sl_list (pv 8) (po_some pe_int) (po_some pe_int))) pa_nil)) pa_nil)))))
        (pss_one (ps_if (PW.pt (pw_or (pt_cmpR (op_ne_dictA (Nat.lt_of_succ_lt hu)) (pe_call GAL hr (by rfl) gAl kAl bAl .nil pass0 (pa_cons (pv 14) (pa_cons (pe_op op_add (pv 7) pe_int) (pa_cons pe_int pa_nil)))) (pv 13) (nomark _)) (pw_or1 (pt_cmpR (op_ne_dictA (Nat.lt_of_succ_lt hu)) (pe_call GAL hr (by rfl) gAl kAl bAl .nil pass0 (pa_cons (pv 15) (pa_cons (pv 7) (pa_cons pe_int pa_nil)))) (pv 13) (nomark _))))) (pss_one (ps_ret pe_bl)) pss_nil)))))))))))))))))))
      (pss_one (ps_ret pe_bl)), ?_⟩
    have hl : (ns.map V.int).length = ns.length := List.length_map _
    refine ⟨_, rfl, a, _, rfl, .inl hS, _, _, rfl, _, _, rfl, ?_⟩
    rw [hl]
    obtain ⟨tn, etn, ht0, ht3⟩ := turns3 ns.length
    rw [etn]
    refine ⟨_, rfl, by omega, by omega, ?_⟩
    refine for_range (lo := 0) (n := tn.toNat) (fun i σ H' => ∃ r, σ = some (.ref a) :: r ∧ r.length = 16 ∧ ExtN H H' ∧ Tabs T H') ⟨_, rfl, rfl, ExtN.refl H, hT⟩ ?_ ?_
    · rintro i σ H' hi ⟨r, rfl, hrl, eN, T'⟩
      obtain ⟨y1, y2, y3, y4, y5, y6, y7, y8, y9, y10, y11, y12, y13, y14, y15, y16, rfl⟩ : ∃ y1 y2 y3 y4 y5 y6 y7 y8 y9 y10 y11 y12 y13 y14 y15 y16, r = [y1, y2, y3, y4, y5, y6, y7, y8, y9, y10, y11, y12, y13, y14, y15, y16] := by
        match r, hrl with
        | [a, b, c, d, e, f, g, h, i, j, k, l, m, n, o, p], _ => exact ⟨a, b, c, d, e, f, g, h, i, j, k, l, m, n, o, p, rfl⟩
      refine ⟨_, rfl, _, rfl, a, ns, _, rfl, ExtN.sqL eN hS, by omega, fun cv => ?_⟩
      refine ⟨cv, rfl, fun p H1 s1 np P1 => ?_⟩
      refine ⟨_, rfl, p, 2, rfl, P1, by decide, by decide, fun t n H2 k2 P2 hF2 hn2 hn6 => ?_⟩
      -- many
      refine ⟨_, rfl, p, 9, rfl, P2, by decide, by decide, fun v3 H3 k3 P3 a3 b3 => ⟨_, _, rfl, rfl, .ref t, .int (1 + v3), rfl, ?_⟩⟩
      refine ⟨_, rfl, _, rfl, p, _, rfl, P3, by omega, by omega, fun l zs H4 k4 P4 nl4 nlp e4 hR4 hlen => ?_⟩
      refine ⟨_, rfl, _, rfl, p, _, rfl, P4, by omega, by omega, fun at' H5 k5 P5 a5 b5 => ⟨_, rfl, p, 9, rfl, P5, by decide, by decide, fun v6 H6 k6 P6 a6 b6 => ⟨_, _, rfl, rfl, .int at', .int (1 + v6), rfl, ?_⟩⟩⟩
      have T6 : Tabs T H6 := Tabs.kp (Tabs.kp (Tabs.kp (Tabs.kp (Tabs.kp (T'.ext s1) k2 P1) k3 P2) k4 P3) k5 P4) k6 P5
      have x6 : ExtN H' H6 := ExtN.kp (.of s1) np (k2.trans (k3.trans (k4.trans (k5.trans k6))))
      have hF6 : FolkAt H6 t n := hF2.kp (k3.trans (k4.trans (k5.trans k6))) P2
      have e6 : H6 l = some (.lst (refs zs)) := (k5.trans k6) _ _ nlp e4
      have hR6 := hR4.kp (Kp.tup (k5.trans k6) P4)
      generalize hD : 1 + v6 = D
      have hD1 : 1 ≤ D ∧ D ≤ 9 := by omega
      generalize hM : 1 + v3 = many at hlen b5 ⊢
      have hM9 : 1 ≤ many ∧ many ≤ 9 := by omega
      -- acts
      refine ⟨_, rfl, _, rfl, (by show 6 ≤ sizeLine; decide), fun b1 n1 => ?_⟩
      have s7 := sNew n1 (.tup [.int 10, .int D, .int 0, .int 0, .str "void", .int at'])
      have eb1 : (upd H6 b1 (.tup [.int 10, .int D, .int 0, .int 0, .str "void", .int at'])) b1 = some (.tup [.int 10, .int D, .int 0, .int 0, .str "void", .int at']) := upd_same
      generalize (upd H6 b1 (.tup [.int 10, .int D, .int 0, .int 0, .str "void", .int at'])) = H7 at s7 eb1
      refine ⟨_, rfl, _, rfl, (by show 6 ≤ sizeLine; decide), fun b2 n2 => ?_⟩
      have s8 := sNew n2 (.tup [.int 11, .int D, .int 0, .int 0, .str "paid", .int at'])
      have eb2 : (upd H7 b2 (.tup [.int 11, .int D, .int 0, .int 0, .str "paid", .int at'])) b2 = some (.tup [.int 11, .int D, .int 0, .int 0, .str "paid", .int at']) := upd_same
      generalize (upd H7 b2 (.tup [.int 11, .int D, .int 0, .int 0, .str "paid", .int at'])) = H8 at s8 eb2
      refine ⟨_, rfl, _, _, rfl, rfl, (by show 6 ≤ sizeLine; decide), fun b3 n3 => ?_⟩
      dsimp only
      have s9 := sNew n3 (.tup [.int 12, .int (D + 3), .int 0, .int 0, .str "undone", .int 10])
      have eb3 : (upd H8 b3 (.tup [.int 12, .int (D + 3), .int 0, .int 0, .str "undone", .int 10])) b3 = some (.tup [.int 12, .int (D + 3), .int 0, .int 0, .str "undone", .int 10]) := upd_same
      generalize (upd H8 b3 (.tup [.int 12, .int (D + 3), .int 0, .int 0, .str "undone", .int 10])) = H9 at s9 eb3
      refine ⟨(by show 3 ≤ sizeLine; decide), fun A' nA => ?_⟩
      have s10 := sNew nA (.lst [.ref b1, .ref b2, .ref b3])
      have eA : (upd H9 A' (.lst [.ref b1, .ref b2, .ref b3])) A' = some (.lst [.ref b1, .ref b2, .ref b3]) := upd_same
      generalize (upd H9 A' (.lst [.ref b1, .ref b2, .ref b3])) = H10 at s10 eA
      refine ⟨_, rfl, (by show 1 ≤ sizeLine; decide), fun g ng => ?_⟩
      have s11 := sNew ng (.lst [.int at'])
      have eg : (upd H10 g (.lst [.int at'])) g = some (.lst [.int at']) := upd_same
      have s610 : Same H6 H10 := s7.trans (s8.trans (s9.trans s10))
      have nlg : l ≠ g := ne_of_none (s610 _ _ e6) ng
      have nAg : A' ≠ g := ne_of_none eA ng
      have frg : Fresh H' g := Fresh.of (x6.trans (.of s610)) ng
      generalize (upd H10 g (.lst [.int at'])) = H11 at s11 eg
      have s611 : Same H6 H11 := s610.trans s11
      have Z11 : Sc8 T H' l A' g t b1 b2 b3 n zs [at'] D at' H11 := ⟨x6.trans (.of s611), T6.ext s611, s611 _ _ e6, s11 _ _ eA, eg, hR6.kp (Same.tup s611), (s8.trans (s9.trans (s10.trans s11))) _ _ eb1, (s9.trans (s10.trans s11)) _ _ eb2, (s10.trans s11) _ _ eb3, hF6.kpT (Same.tup s611)⟩
      have hrest := row_rest hR6
      -- who falls
      refine ⟨_, rfl, _, _, rfl, rfl, _, rfl, _, _, rfl, ⟨by omega, by omega, by omega, by omega⟩, ?_⟩
      refine for_range (lo := at' + 1) (n := (many - (at' + 1)).toNat) (fun j σ Hc => ∃ y10 y16, ∃ gs : List Int, σ = [some (.ref a), some (.int (0 + (i : Int))), some (.ref p), some (.ref t), some (.int many), some (.ref l), some (.int at'), some (.int D), some (.ref A'), some (.ref g), y10, y11, y12, y13, y14, y15, y16] ∧ Sc8 T H' l A' g t b1 b2 b3 n zs gs D at' Hc ∧ gs.length ≤ j + 1 ∧ GOk zs at' gs (at' + 1 + (j : Int))) ⟨y10, y16, [at'], rfl, Z11, Nat.le_refl _, by
        have := GOk.init (at' := at') hrest
        rw [show at' + 1 + ((0 : Nat) : Int) = at' + 1 from by omega]
        exact this⟩ ?_ ?_
      · rintro j σ Hc hj ⟨z10, z16, gs, rfl, Zc, hgl, hGo⟩
        obtain ⟨m, em⟩ : ∃ m : Nat, at' + 1 + (j : Int) = (m : Int) := ⟨(at' + 1 + (j : Int)).toNat, by omega⟩
        have hml : m < zs.length := by omega
        have hz : zs[m]? = some zs[m] := List.getElem?_eq_getElem hml
        generalize zs[m] = z at hz
        have hzm : z ∈ zs := List.mem_of_getElem? hz
        have hze : z.2 ∈ ens zs := List.mem_map.mpr ⟨z, hzm, rfl⟩
        obtain ⟨xs, rr, ex, g7, er⟩ := (Zc.row.ent z hzm).seven (deeds_row Zc.row z.2 hze)
        have ga : atI (refs zs) (at' + 1 + (j : Int)) = some (.ref z.1) := by
          rw [em]
          exact atI_nat (by rw [List.getElem?_map, hz]; rfl)
        have hnum : z.2.num = at' + 1 + (j : Int) := by
          obtain ⟨rs, e1, _⟩ := Zc.row.each m z hz
          rw [e1, em]
          rfl
        have hrl : z.2.rests.length ≤ 2 := by
          obtain ⟨rs, e1, e2, _⟩ := Zc.row.each m z hz
          rw [e1]
          exact e2
        refine ⟨_, rfl, _, rfl, l, _, _, _, rfl, rfl, SqL.of Zc.l_, ga, z.1, xs, 7, _, rfl, rfl, SqT.of ex, g7, rr, rfl, ⟨_, SqT.of er⟩, fun Dd nD => ?_⟩
        refine lc_tup (K := K) (a := rr) (xs := z.2.rests.map V.int) (fun i2 H2 => H2 Dd = some (.lst (((z.2.rests.take i2).filter fun r => decide (r ∈ gs)).map V.int)) ∧ Same Hc H2) ⟨upd_same, sNew nD _⟩ (fun i2 H2 _ h2 => SqT.of (h2.2 _ _ er)) ?_ ?_
        · rintro i2 x H2 hx ⟨eD, s2⟩
          rw [List.getElem?_map] at hx
          cases hq : z.2.rests[i2]? with
          | none => rw [hq] at hx; cases hx
          | some rx =>
            rw [hq] at hx
            injection hx with hx
            subst hx
            refine ⟨rfl, _, rfl, _, rfl, g, _, rfl, .inl (SqL.of (s2 _ _ Zc.g_)), rfl, flat_ints gs, _, rfl, ?_⟩
            rw [mem_inV, take_more hq, List.filter_append]
            have hl2 : ((z.2.rests.take i2).filter fun r => decide (r ∈ gs)).length ≤ 2 := Nat.le_trans (List.length_filter_le _ _) (by rw [List.length_take]; omega)
            refine ite2 (fun c => ?_) (fun c => ?_)
            · have c' : decide (rx ∈ gs) = true := c
              refine ⟨_, rfl, _, eD, small1000 (by rw [List.length_map]; omega), ?_, fun b o e => by rw [upd_ne (ne_of_none e nD)]; exact s2 _ _ e⟩
              rw [upd_same, List.filter_cons, if_pos c', List.map_append]
              rfl
            · have c' : ¬ decide (rx ∈ gs) = true := c
              refine ⟨?_, s2⟩
              rw [List.filter_cons, if_neg c']
              simpa using eD
        · rintro H2 ⟨eD, s2⟩
          rw [show (z.2.rests.map V.int).length = z.2.rests.length from List.length_map _, List.take_length] at eD
          refine ⟨Nat.zero_le _, fun w0 nw => ?_⟩
          have s3 := sNew nw (.lst [])
          have ew : (upd H2 w0 (.lst [])) w0 = some (.lst (([] : List Int).map V.int)) := upd_same
          generalize (upd H2 w0 (.lst [])) = H3' at s3 ew
          refine ⟨.list ((z.2.rests.filter fun r => decide (r ∈ gs)).map .int), .list (([] : List Int).map .int), .lst (SqL.of (s3 _ _ eD)) (dp_ints _), .lst (SqL.of ew) (dp_ints []), shaped_ints _, shaped_ints [], _, rfl, ?_⟩
          rw [eqv_ints]
          have Z3 := Zc.same (s2.trans s3)
          have uq : ∀ e' ∈ ens zs, e'.num = at' + 1 + (j : Int) → e' = z.2 := fun e' he' hn' => row_uq Zc.row hz e' he' (by rw [hn', em])
          have hany : (z.2.rests.any fun r => decide (r ∈ gs)) = !decide (z.2.rests.filter (fun r => decide (r ∈ gs)) = []) := by
            rw [Bool.eq_iff_iff, List.any_eq_true, Bool.not_eq_true', decide_eq_false_iff_not, List.filter_eq_nil_iff]
            constructor
            · rintro ⟨r, h1, h2⟩ h3
              exact h3 r h1 h2
            · intro h3
              exact Classical.byContradiction fun h4 => h3 fun r h1 h2 => h4 ⟨r, h1, h2⟩
          have st8 := hGo.step hrest hze hnum (by omega) uq hany
          have ej : at' + 1 + ((j + 1 : Nat) : Int) = at' + 1 + (j : Int) + 1 := by omega
          refine ite2 (fun c => ?_) (fun c => ?_)
          · have c' : (!decide (z.2.rests.filter (fun r => decide (r ∈ gs)) = [])) = true := c
            rw [if_pos c'] at st8
            refine ⟨_, rfl, .inl ⟨rfl, _, SqL.of Z3.g_⟩, _, rfl, g, _, _, rfl, rfl, Z3.g_, small1000 (by rw [List.length_map]; omega), ?_⟩
            have Z4 := Z3.gput frg nlg nAg (gs ++ [at' + 1 + (j : Int)])
            rw [List.map_append] at Z4
            refine ⟨_, _, gs ++ [at' + 1 + (j : Int)], rfl, Z4, ?_, ?_⟩
            · rw [List.length_append]
              show gs.length + 1 ≤ j + 1 + 1
              omega
            · rw [ej]
              exact st8
          · have c' : ¬ (!decide (z.2.rests.filter (fun r => decide (r ∈ gs)) = [])) = true := c
            rw [if_neg c'] at st8
            refine ⟨_, _, gs, rfl, Z3, by omega, ?_⟩
            rw [ej]
            exact st8
      · rintro σ Hc ⟨z10, z16, gs, rfl, Z, hgl, hGo⟩
        have hb : at' + 1 + (((many - (at' + 1)).toNat : Nat) : Int) = many := by omega
        rw [hb] at hGo
        have hgl9 : gs.length ≤ 9 := by omega
        have hzl : (refs zs).length = zs.length := List.length_map _
        have hat : 0 ≤ at' ∧ at' < zs.length := ⟨a5, by omega⟩
        have hzl9 : zs.length ≤ 9 := by omega
        have hn2' : 2 ≤ n := by omega
        have hR := Z.row
        have hGa : (fun x => decide (x ∈ gs)) at' = true := decide_eq_true hGo.at_
        have hGg : ∀ e ∈ ens zs, e.num ≠ at' → (fun x => decide (x ∈ gs)) e.num = e.rests.any fun x => decide (x ∈ gs) := fun e he hne => hGo.ok e he hne (by
          obtain ⟨z, hz, rfl⟩ := List.mem_map.mp he
          obtain ⟨i', hi', ei'⟩ := List.mem_iff_getElem.mp hz
          obtain ⟨rs, e1, _⟩ := hR.each i' z (by rw [List.getElem?_eq_getElem hi', ei'])
          rw [e1]
          show (i' : Int) < many
          omega)
        have hmz : many.toNat = zs.length := by omega
        -- the book
        refine ⟨_, rfl, _, rfl, _, rfl, _, rfl, A', _, rfl, SqL.of Z.A_, fun c1 nc1 => ?_⟩
        rw [show cutV [V.ref b1, V.ref b2, V.ref b3] none (some 1) = [V.ref b1] from rfl]
        have sc1 := sNew nc1 (.lst [V.ref b1])
        have ec1 : (upd Hc c1 (.lst [V.ref b1])) c1 = some (.lst [V.ref b1]) := upd_same
        generalize (upd Hc c1 (.lst [V.ref b1])) = Hc1 at sc1 ec1
        refine ⟨l, c1, _, _, rfl, rfl, sc1 _ _ Z.l_, ec1, Nat.le_of_lt (small1000 (by rw [hzl]; show zs.length + 1 ≤ 1000; omega)), fun c2 nc2 => ?_⟩
        have sc2 := sNew nc2 (.lst (refs zs ++ [V.ref b1]))
        have ec2 : (upd Hc1 c2 (.lst (refs zs ++ [V.ref b1]))) c2 = some (.lst (refs zs ++ [V.ref b1])) := upd_same
        generalize (upd Hc1 c2 (.lst (refs zs ++ [V.ref b1]))) = Hc2 at sc2 ec2
        refine ⟨c2, _, rfl, .inl ⟨SqL.of ec2, fun tt1 ntt1 => ?_⟩⟩
        have sc3 := sNew ntt1 (.tup (refs zs ++ [V.ref b1]))
        have ett1 : (upd Hc2 tt1 (.tup (refs zs ++ [V.ref b1]))) tt1 = some (.tup (refs zs ++ [V.ref b1])) := upd_same
        generalize (upd Hc2 tt1 (.tup (refs zs ++ [V.ref b1]))) = Hc3 at sc3 ett1
        refine ⟨(by show 3 ≤ sizeLine; decide), fun bk1 nbk1 => ?_⟩
        have sc4 := sNew nbk1 (.tup [.ref t, .int 0, .ref tt1])
        have ebk1 : (upd Hc3 bk1 (.tup [.ref t, .int 0, .ref tt1])) bk1 = some (.tup [.ref t, .int 0, .ref tt1]) := upd_same
        generalize (upd Hc3 bk1 (.tup [.ref t, .int 0, .ref tt1])) = Hd at sc4 ebk1
        have Zd := Z.same (sc1.trans (sc2.trans (sc3.trans sc4)))
        have B1 : BookAt Hd bk1 t tt1 n 0 (zs ++ [(b1, a10 D at')]) := by
          refine ⟨ebk1, Zd.fk, hn2', hn6, Int.le_refl 0, by decide, ?_, fun z hz => ?_, ?_, ?_⟩
          · rw [sc4 _ _ ett1]
            simp [refs]
          · rcases List.mem_append.mp hz with hz | hz
            · exact Zd.row.ent z hz
            · rw [List.mem_singleton.mp hz]
              exact Zd.e1
          · have := bk10 hR hn2' hzl9 hD1 hat
            simpa [ens] using this
          · rw [List.length_append]
            show zs.length + 1 ≤ 16
            omega
        clear sc1 sc2 sc3 sc4 ec1 ec2 ett1 ebk1
        -- due
        refine ⟨_, rfl, _, rfl, by omega, by omega, fun Dd nD => ?_⟩
        refine lc_range (lo := 0) (n := many.toNat) (fun i2 H2 => ∃ ps : List Addr, H2 Dd = some (.lst (ps.map V.ref)) ∧ Same Hd H2 ∧ ps.length = i2 ∧ Paired (fun p (kv : Key × V) => H2 p = some (.tup [kV kv.1, kv.2])) ps (dictR (fun x => if decide (x ∈ gs) = true then ("fallen" : Str) else ("stands" : Str)) i2)) ⟨[], upd_same, sNew nD _, rfl, .nil⟩ ?_ ?_
        · rintro i2 H2 hi2 ⟨ps, eD, s2, hpl, hpr⟩
          refine ⟨rfl, ?_⟩
          unfold tYes
          dsimp only
          rw [if_pos rfl]
          refine ⟨_, rfl, (by show 2 ≤ sizeLine; decide), fun m2 nm2 => ?_⟩
          have s3 := sNew nm2 (.lst [V.str "stands", V.str "fallen"])
          have em2 : (upd H2 m2 (.lst [V.str "stands", V.str "fallen"])) m2 = some (.lst [V.str "stands", V.str "fallen"]) := upd_same
          generalize (upd H2 m2 (.lst [V.str "stands", V.str "fallen"])) = H3' at s3 em2
          have ga : atI [V.str "stands", V.str "fallen"] (if inV (.int (0 + (i2 : Int))) (gs.map V.int) = true then 1 else 0) = some (V.str (if decide ((i2 : Int) ∈ gs) = true then ("fallen" : Str) else ("stands" : Str))) := by
            rw [mem_inV, show (0 : Int) + (i2 : Int) = (i2 : Int) from by omega]
            cases decide ((i2 : Int) ∈ gs) with
            | true => exact atI_nat (j := 1) rfl
            | false => exact atI_nat (j := 0) rfl
          refine ⟨_, rfl, _, rfl, g, _, rfl, .inl (SqL.of ((s2.trans s3) _ _ Zd.g_)), rfl, flat_ints gs, .inr ⟨_, rfl, m2, _, _, _, rfl, rfl, SqL.of em2, ga, (by show 2 ≤ sizeLine; decide), fun r nr => ?_⟩⟩
          have nrD : Dd ≠ r := ne_of_none (s3 _ _ eD) nr
          refine ⟨_, by rw [upd_ne nrD]; exact s3 _ _ eD, small1000 (by rw [List.length_map]; omega), ps ++ [r], ?_, fun b o e => ?_, ?_, ?_⟩
          · rw [upd_same, List.map_append]
            rfl
          · rw [upd_ne (ne_of_none e nD), upd_ne (ne_of_none (s3 _ _ (s2 _ _ e)) nr)]
            exact s3 _ _ (s2 _ _ e)
          · rw [List.length_append, hpl]
            rfl
          · rw [show dictR (fun x => if decide (x ∈ gs) = true then ("fallen" : Str) else ("stands" : Str)) (i2 + 1) = dictR (fun x => if decide (x ∈ gs) = true then ("fallen" : Str) else ("stands" : Str)) i2 ++ [(Sum.inl (i2 : Int), V.str (if decide ((i2 : Int) ∈ gs) = true then ("fallen" : Str) else ("stands" : Str)))] from by simp [dictR, List.range_succ]]
            refine Paired.snoc (paired_mono hpr fun p kv hp => ?_) ?_
            · rw [upd_ne (fun z0 => by rw [z0, eD] at hp; cases hp), upd_ne (ne_of_none (s3 _ _ hp) nr)]
              exact s3 _ _ hp
            · rw [upd_ne nrD.symm, upd_same, show (0 : Int) + (i2 : Int) = (i2 : Int) from by omega]
              rfl
        rintro H2 ⟨ps, eD, s2, hpl, hpr⟩
        rw [hmz] at hpr
        refine ⟨Dd, ps, _, rfl, SqL.of eD, paired_mono hpr fun p kv hp => SqT.of hp, fun du ndu => ?_⟩
        rw [mergeK_new _ [] (by rw [List.nil_append]; exact dictR_nd _ _), List.nil_append]
        have s3 := sNew ndu (.dK (dictR (fun x => if decide (x ∈ gs) = true then ("fallen" : Str) else ("stands" : Str)) zs.length))
        have edu : (upd H2 du (.dK (dictR (fun x => if decide (x ∈ gs) = true then ("fallen" : Str) else ("stands" : Str)) zs.length))) du = some (.dK (dictR (fun x => if decide (x ∈ gs) = true then ("fallen" : Str) else ("stands" : Str)) zs.length)) := upd_same
        generalize (upd H2 du (.dK (dictR (fun x => if decide (x ∈ gs) = true then ("fallen" : Str) else ("stands" : Str)) zs.length))) = He' at s3 edu
        have frd : Fresh H' du := Fresh.of (Zd.x.trans (.of s2)) ndu
        have Ze := Zd.same (s2.trans s3)
        have B1e := B1.kp (Same.tup (s2.trans s3))
        refine ⟨_, rfl, _, rfl, du, _, rfl, DPut.k (k := Sum.inl at') edu (small1000 (by rw [List.length_map, List.length_range]; omega)), ?_⟩
        rw [dictR_put _ _ _ _ hat.1 hat.2]
        have Zf := Ze.dput frd edu (.dK (dictR (fun j => if j = at' then ("void" : Str) else if decide (j ∈ gs) = true then ("fallen" : Str) else ("stands" : Str)) zs.length))
        have B1f := B1e.kp (KpT.dk edu (.dK (dictR (fun j => if j = at' then ("void" : Str) else if decide (j ∈ gs) = true then ("fallen" : Str) else ("stands" : Str)) zs.length)))
        have eduf : (upd He' du (.dK (dictR (fun j => if j = at' then ("void" : Str) else if decide (j ∈ gs) = true then ("fallen" : Str) else ("stands" : Str)) zs.length))) du = some (.dK (dictR (fun j => if j = at' then ("void" : Str) else if decide (j ∈ gs) = true then ("fallen" : Str) else ("stands" : Str)) zs.length)) := upd_same
        generalize (upd He' du (.dK (dictR (fun j => if j = at' then ("void" : Str) else if decide (j ∈ gs) = true then ("fallen" : Str) else ("stands" : Str)) zs.length))) = Hf at Zf B1f eduf
        clear hpr eD s2 s3 hpl edu Ze B1e Zd B1
        -- still
        refine ⟨_, rfl, _, rfl, by omega, by omega, fun Dd nD => ?_⟩
        refine lc_range (lo := 0) (n := many.toNat) (fun i2 H2 => ∃ ps : List Addr, H2 Dd = some (.lst (ps.map V.ref)) ∧ Same Hf H2 ∧ ps.length = i2 ∧ Paired (fun p (kv : Key × V) => H2 p = some (.tup [kV kv.1, kv.2])) ps (dictR (fun _ => ("stands" : Str)) i2)) ⟨[], upd_same, sNew nD _, rfl, .nil⟩ ?_ ?_
        · rintro i2 H2 hi2 ⟨ps, eD, s2, hpl, hpr⟩
          refine ⟨rfl, ?_⟩
          unfold tYes
          dsimp only
          rw [if_pos rfl]
          refine ⟨_, rfl, (by show 2 ≤ sizeLine; decide), fun r nr => ?_⟩
          have nrD : Dd ≠ r := ne_of_none eD nr
          refine ⟨_, by rw [upd_ne nrD]; exact eD, small1000 (by rw [List.length_map]; omega), ps ++ [r], ?_, fun b o e => ?_, ?_, ?_⟩
          · rw [upd_same, List.map_append]
            rfl
          · rw [upd_ne (ne_of_none e nD), upd_ne (ne_of_none (s2 _ _ e) nr)]
            exact s2 _ _ e
          · rw [List.length_append, hpl]
            rfl
          · rw [show dictR (fun _ => ("stands" : Str)) (i2 + 1) = dictR (fun _ => ("stands" : Str)) i2 ++ [(Sum.inl (i2 : Int), V.str ("stands" : Str))] from by simp [dictR, List.range_succ]]
            refine Paired.snoc (paired_mono hpr fun p kv hp => ?_) ?_
            · rw [upd_ne (fun z0 => by rw [z0, eD] at hp; cases hp), upd_ne (ne_of_none hp nr)]
              exact hp
            · rw [upd_ne nrD.symm, upd_same, show (0 : Int) + (i2 : Int) = (i2 : Int) from by omega]
              rfl
        rintro H2 ⟨ps, eD, s2, hpl, hpr⟩
        rw [hmz] at hpr
        refine ⟨Dd, ps, _, rfl, SqL.of eD, paired_mono hpr fun p kv hp => SqT.of hp, fun sl nsl => ?_⟩
        rw [mergeK_new _ [] (by rw [List.nil_append]; exact dictR_nd _ _), List.nil_append]
        have s3 := sNew nsl (.dK (dictR (fun _ => ("stands" : Str)) zs.length))
        have esl : (upd H2 sl (.dK (dictR (fun _ => ("stands" : Str)) zs.length))) sl = some (.dK (dictR (fun _ => ("stands" : Str)) zs.length)) := upd_same
        generalize (upd H2 sl (.dK (dictR (fun _ => ("stands" : Str)) zs.length))) = Hg at s3 esl
        have frs : Fresh H' sl := Fresh.of (Zf.x.trans (.of s2)) nsl
        have nds : du ≠ sl := ne_of_none (s2 _ _ eduf) nsl
        have Zg := Zf.same (s2.trans s3)
        have B1g := B1f.kp (Same.tup (s2.trans s3))
        have edug := (s2.trans s3) _ _ eduf
        clear hpr eD s2 s3 hpl Zf B1f eduf
        have nk : ∀ kv : List (Key × V), ∀ ps, HO.dK kv ≠ .tbl ps := fun xs ps z => by cases z
        have ensB : ens (zs ++ [(b1, a10 D at')]) = ens zs ++ [a10 D at'] := by simp [ens]
        -- ahead of the day
        refine ⟨_, rfl, _, rfl, _, _, rfl, rfl, bk1, t, tt1, n, 0, _, D - 1, 0, rfl, B1g, Zg.tb, ⟨by omega, by omega⟩, ⟨by decide, by decide⟩, fun fo ys Hh xh Th frh efo hY => ?_⟩
        have hdz1 : ∀ x, (x ∈ ens (zs ++ [(b1, a10 D at')]) ∧ x.isDeed = true) ↔ x ∈ ens zs := row_dz hR (acts := [a10 D at']) (fun x => by rw [ensB]; exact List.mem_append) (fun u hu => by rw [List.mem_singleton.mp hu]; rfl)
        have c1 := row_cmp (d := D - 1) (k := 0) (F := (fun _ => ("stands" : Str))) hR hzl9 hY hdz1 (fun e he => by
          rw [ensB, w_one (G := fun x => decide (x ∈ gs)) hR hn2' hzl9 hD1 hat hGa hGg (by omega) e he, decide_eq_false (by omega)]
          exact rw_ff _ _ _)
        refine ⟨_, rfl, fo, sl, _, _, rfl, rfl, efo, xh _ _ esl (nk _), c1.1, c1.2, _, rfl, ?_⟩
        refine iteF ?_
        have Zh := Zg.ext xh Th
        have B1h := B1g.kp (ExtN.tup xh)
        have eslh := xh _ _ esl (nk _)
        have eduh := xh _ _ edug (nk _)
        clear c1 efo hY Zg B1g edug esl
        -- on the day
        refine ⟨_, rfl, _, rfl, bk1, t, tt1, n, 0, _, D, 0, rfl, B1h, Zh.tb, ⟨by omega, by omega⟩, ⟨by decide, by decide⟩, fun fo2 ys2 Hi xi Ti fri efo2 hY2 => ?_⟩
        have c2 := row_cmp (d := D) (k := 0) (F := (fun j => if j = at' then ("void" : Str) else if decide (j ∈ gs) = true then ("fallen" : Str) else ("stands" : Str))) hR hzl9 hY2 hdz1 (fun e he => by
          rw [ensB, w_one (G := fun x => decide (x ∈ gs)) hR hn2' hzl9 hD1 hat hGa hGg (by omega) e he, decide_eq_true (Int.le_refl D)]
          exact rw_t _ _ _ _)
        refine ⟨_, rfl, fo2, du, _, _, rfl, rfl, efo2, xi _ _ eduh (nk _), c2.1, c2.2, _, rfl, ?_⟩
        refine iteF ?_
        have Zi := Zh.ext xi Ti
        have esli := xi _ _ eslh (nk _)
        have edui := xi _ _ eduh (nk _)
        clear c2 efo2 hY2 Zh B1h eslh eduh
        -- both
        refine ⟨_, rfl, _, rfl, _, rfl, A', l, _, _, rfl, rfl, Zi.A_, Zi.l_, Nat.le_of_lt (small1000 (by rw [hzl]; show 3 + zs.length ≤ 1000; omega)), fun c3 nc3 => ?_⟩
        have sc1 := sNew nc3 (.lst ([V.ref b1, V.ref b2, V.ref b3] ++ refs zs))
        have ec3 : (upd Hi c3 (.lst ([V.ref b1, V.ref b2, V.ref b3] ++ refs zs))) c3 = some (.lst ([V.ref b1, V.ref b2, V.ref b3] ++ refs zs)) := upd_same
        generalize (upd Hi c3 (.lst ([V.ref b1, V.ref b2, V.ref b3] ++ refs zs))) = Hi1 at sc1 ec3
        refine ⟨c3, _, rfl, .inl ⟨SqL.of ec3, fun tt2 ntt2 => ?_⟩⟩
        have sc2 := sNew ntt2 (.tup ([V.ref b1, V.ref b2, V.ref b3] ++ refs zs))
        have ett2 : (upd Hi1 tt2 (.tup ([V.ref b1, V.ref b2, V.ref b3] ++ refs zs))) tt2 = some (.tup ([V.ref b1, V.ref b2, V.ref b3] ++ refs zs)) := upd_same
        generalize (upd Hi1 tt2 (.tup ([V.ref b1, V.ref b2, V.ref b3] ++ refs zs))) = Hi2 at sc2 ett2
        refine ⟨(by show 3 ≤ sizeLine; decide), fun bk2 nbk2 => ?_⟩
        have sc3 := sNew nbk2 (.tup [.ref t, .int 0, .ref tt2])
        have ebk2 : (upd Hi2 bk2 (.tup [.ref t, .int 0, .ref tt2])) bk2 = some (.tup [.ref t, .int 0, .ref tt2]) := upd_same
        generalize (upd Hi2 bk2 (.tup [.ref t, .int 0, .ref tt2])) = Hj at sc3 ebk2
        have sij := sc1.trans (sc2.trans sc3)
        have Zj := Zi.same sij
        have eslj := sij _ _ esli
        have eduj := sij _ _ edui
        have B2 : BookAt Hj bk2 t tt2 n 0 ([(b1, a10 D at'), (b2, a11 D at'), (b3, a12 D)] ++ zs) := by
          refine ⟨ebk2, Zj.fk, hn2', hn6, Int.le_refl 0, by decide, ?_, fun z hz => ?_, ?_, ?_⟩
          · rw [sc3 _ _ ett2]
            simp [refs]
          · rcases List.mem_append.mp hz with hz | hz
            · rcases List.mem_cons.mp hz with rfl | hz
              · exact Zj.e1
              · rcases List.mem_cons.mp hz with rfl | hz
                · exact Zj.e2
                · rw [List.mem_singleton.mp hz]
                  exact Zj.e3
            · exact Zj.row.ent z hz
          · have := bkB hR hn2' hzl9 hD1 hat
            simpa [ens] using this
          · rw [List.length_append]
            show 3 + zs.length ≤ 16
            omega
        have ensB2 : ens ([(b1, a10 D at'), (b2, a11 D at'), (b3, a12 D)] ++ zs) = [a10 D at', a11 D at', a12 D] ++ ens zs := by simp [ens]
        have hdz2 : ∀ x, (x ∈ ens ([(b1, a10 D at'), (b2, a11 D at'), (b3, a12 D)] ++ zs) ∧ x.isDeed = true) ↔ x ∈ ens zs := row_dz hR (acts := [a10 D at', a11 D at', a12 D]) (fun x => by rw [ensB2]; exact List.mem_append.trans Or.comm) (fun u hu => by
          rcases List.mem_cons.mp hu with rfl | hu
          · rfl
          · rcases List.mem_cons.mp hu with rfl | hu
            · rfl
            · rw [List.mem_singleton.mp hu]
              rfl)
        clear sc1 sc2 sc3 ec3 ett2 ebk2 sij Zi esli edui
        refine ⟨_, rfl, _, rfl, _, _, rfl, rfl, bk2, t, tt2, n, 0, _, D + 2, 5, rfl, B2, Zj.tb, ⟨by omega, by omega⟩, ⟨by decide, by decide⟩, fun fo3 ys3 Hk xk Tk frk efo3 hY3 => ?_⟩
        have c3' := row_cmp (d := D + 2) (k := 5) (F := (fun j => if j = at' then ("void" : Str) else if decide (j ∈ gs) = true then ("fallen" : Str) else ("stands" : Str))) hR hzl9 hY3 hdz2 (fun e he => by
          rw [ensB2, w_both (G := fun x => decide (x ∈ gs)) hR hn2' hzl9 hD1 hat hGa hGg (by omega) (by decide) e he, decide_eq_true (show D ≤ D + 2 by omega), decide_eq_false (show ¬ D + 3 ≤ D + 2 by omega)]
          exact rw_t _ _ _ _)
        refine ⟨_, rfl, fo3, du, _, _, rfl, rfl, efo3, xk _ _ eduj (nk _), c3'.1, c3'.2, _, rfl, ?_⟩
        refine iteF ?_
        have Zk := Zj.ext xk Tk
        have B2k := B2.kp (ExtN.tup xk)
        have eslk := xk _ _ eslj (nk _)
        clear c3' efo3 hY3 Zj B2 eslj eduj
        -- paid
        refine ⟨_, rfl, _, rfl, sl, _, rfl, DPut.k (k := Sum.inl at') eslk (small1000 (by rw [List.length_map, List.length_range]; omega)), ?_⟩
        rw [dictR_put _ _ _ _ hat.1 hat.2]
        have Zl := Zk.dput frs eslk (.dK (dictR (fun j => if j = at' then ("paid" : Str) else ("stands" : Str)) zs.length))
        have B2l := B2k.kp (KpT.dk eslk (.dK (dictR (fun j => if j = at' then ("paid" : Str) else ("stands" : Str)) zs.length)))
        have esll : (upd Hk sl (.dK (dictR (fun j => if j = at' then ("paid" : Str) else ("stands" : Str)) zs.length))) sl = some (.dK (dictR (fun j => if j = at' then ("paid" : Str) else ("stands" : Str)) zs.length)) := upd_same
        generalize (upd Hk sl (.dK (dictR (fun j => if j = at' then ("paid" : Str) else ("stands" : Str)) zs.length))) = Hl at Zl B2l esll
        clear Zk B2k eslk
        refine ⟨_, rfl, _, rfl, _, rfl, _, rfl, _, rfl, A', _, rfl, SqL.of Zl.A_, fun c1 nc1 => ?_⟩
        rw [show cutV [V.ref b1, V.ref b2, V.ref b3] (some 1) (some 2) = [V.ref b2] from rfl]
        have sc1 := sNew nc1 (.lst [V.ref b2])
        have ec1 : (upd Hl c1 (.lst [V.ref b2])) c1 = some (.lst [V.ref b2]) := upd_same
        generalize (upd Hl c1 (.lst [V.ref b2])) = Hl1 at sc1 ec1
        refine ⟨l, c1, _, _, rfl, rfl, sc1 _ _ Zl.l_, ec1, Nat.le_of_lt (small1000 (by rw [hzl]; show zs.length + 1 ≤ 1000; omega)), fun c2 nc2 => ?_⟩
        have sc2 := sNew nc2 (.lst (refs zs ++ [V.ref b2]))
        have ec2 : (upd Hl1 c2 (.lst (refs zs ++ [V.ref b2]))) c2 = some (.lst (refs zs ++ [V.ref b2])) := upd_same
        generalize (upd Hl1 c2 (.lst (refs zs ++ [V.ref b2]))) = Hl2 at sc2 ec2
        refine ⟨c2, _, rfl, .inl ⟨SqL.of ec2, fun tt3 ntt3 => ?_⟩⟩
        have sc3 := sNew ntt3 (.tup (refs zs ++ [V.ref b2]))
        have ett3 : (upd Hl2 tt3 (.tup (refs zs ++ [V.ref b2]))) tt3 = some (.tup (refs zs ++ [V.ref b2])) := upd_same
        generalize (upd Hl2 tt3 (.tup (refs zs ++ [V.ref b2]))) = Hl3 at sc3 ett3
        refine ⟨(by show 3 ≤ sizeLine; decide), fun bk3' nbk3 => ?_⟩
        have sc4 := sNew nbk3 (.tup [.ref t, .int 0, .ref tt3])
        have ebk3 : (upd Hl3 bk3' (.tup [.ref t, .int 0, .ref tt3])) bk3' = some (.tup [.ref t, .int 0, .ref tt3]) := upd_same
        generalize (upd Hl3 bk3' (.tup [.ref t, .int 0, .ref tt3])) = Hm at sc4 ebk3
        have slm := sc1.trans (sc2.trans (sc3.trans sc4))
        have Zm := Zl.same slm
        have B2m := B2l.kp (Same.tup slm)
        have eslm := slm _ _ esll
        have B3 : BookAt Hm bk3' t tt3 n 0 (zs ++ [(b2, a11 D at')]) := by
          refine ⟨ebk3, Zm.fk, hn2', hn6, Int.le_refl 0, by decide, ?_, fun z hz => ?_, ?_, ?_⟩
          · rw [sc4 _ _ ett3]
            simp [refs]
          · rcases List.mem_append.mp hz with hz | hz
            · exact Zm.row.ent z hz
            · rw [List.mem_singleton.mp hz]
              exact Zm.e2
          · have := bk11 hR hn2' hzl9 hD1 hat
            simpa [ens] using this
          · rw [List.length_append]
            show zs.length + 1 ≤ 16
            omega
        have ensB3 : ens (zs ++ [(b2, a11 D at')]) = ens zs ++ [a11 D at'] := by simp [ens]
        have hdz3 : ∀ x, (x ∈ ens (zs ++ [(b2, a11 D at')]) ∧ x.isDeed = true) ↔ x ∈ ens zs := row_dz hR (acts := [a11 D at']) (fun x => by rw [ensB3]; exact List.mem_append) (fun u hu => by rw [List.mem_singleton.mp hu]; rfl)
        clear sc1 sc2 sc3 sc4 ec1 ec2 ett3 ebk3 slm Zl B2l esll
        refine ⟨_, rfl, _, rfl, _, _, rfl, rfl, bk2, t, tt2, n, 0, _, D + 3, 0, rfl, B2m, Zm.tb, ⟨by omega, by omega⟩, ⟨by decide, by decide⟩, fun fo4 ys4 Hn xn Tn frn efo4 hY4 => ?_⟩
        have c4 := row_cmp (d := D + 3) (k := 0) (F := (fun j => if j = at' then ("paid" : Str) else ("stands" : Str))) hR hzl9 hY4 hdz2 (fun e he => by
          rw [ensB2, w_both (G := fun x => decide (x ∈ gs)) hR hn2' hzl9 hD1 hat hGa hGg (by omega) (by decide) e he, decide_eq_true (show D ≤ D + 3 by omega), decide_eq_true (Int.le_refl (D + 3))]
          exact rw_ft _ _ _)
        refine ⟨_, rfl, fo4, sl, _, _, rfl, rfl, efo4, xn _ _ eslm (nk _), c4.1, c4.2, _, rfl, ?_⟩
        refine iteF ?_
        have Zn := Zm.ext xn Tn
        have B3n := B3.kp (ExtN.tup xn)
        have esln := xn _ _ eslm (nk _)
        refine ⟨_, rfl, _, rfl, bk3', t, tt3, n, 0, _, D, 0, rfl, B3n, Zn.tb, ⟨by omega, by omega⟩, ⟨by decide, by decide⟩, fun fo5 ys5 Ho xo To fro efo5 hY5 => ?_⟩
        have c5 := row_cmp (d := D) (k := 0) (F := (fun j => if j = at' then ("paid" : Str) else ("stands" : Str))) hR hzl9 hY5 hdz3 (fun e he => by
          rw [ensB3, w_paid (G := fun x => decide (x ∈ gs)) hR hn2' hzl9 hD1 hat hGa hGg (by omega) e he, decide_eq_true (Int.le_refl D)]
          exact rw_ft _ _ _)
        refine ⟨_, rfl, fo5, sl, _, _, rfl, rfl, efo5, xo _ _ esln (nk _), c5.1, c5.2, _, rfl, ?_⟩
        refine iteF ?_
        have Zo := Zn.ext xo To
        exact ⟨_, rfl, rfl, eN.trans Zo.x, Zo.tb⟩
    · rintro σ H' _
      exact q H'
end
end Deed

namespace Deed
open PySem PySem.Spec PyProof.Rows L2 LamX
/-! ### the end: the facts by names -/
def mkD (x : Str) (st : Stmt) : He.DefD := ⟨(x, none), x, x, defArgs st, defBody st, defScope st, [], []⟩
def mkDd (x : Str) (st : Stmt) (dfl : List He.Dv) : He.DefD := ⟨(x, none), x, x, defArgs st, defBody st, defScope st, dfl, []⟩
def fnAll : List He.DefD := [mkD "_law_cell_at" sCell, mkD "_law_pen" sPen, mkD "_law_draw" sDraw, mkD "_law_folk" sFolk, mkD "_law_row" sRow, mkD "entries_rising" sRising, mkD "deed_entries" sDeedE, mkD "act_entries" sActE, mkD "is_whole" sWhole, mkD "is_within" sWithin, mkD "is_day" sIsDay, mkD "check_day" sCheckDay, mkD "open_acts" sOpenA, mkD "acts_on" sActsOn, mkD "acts_in_force" sForced, mkD "word_of_deed" sWordOf, mkDd "all_standing" sAllSt [.int 9999], mkD "law" sLaw]
def faAll : List He.Fa := [.glo "_law_cell_at", .glo "_law_pen", .glo "_law_draw", .glo "_law_folk", .glo "_law_row", .glo "entries_rising", .glo "deed_entries", .glo "act_entries", .glo "is_whole", .glo "is_within", .glo "is_day", .glo "check_day", .glo "open_acts", .glo "acts_on", .glo "acts_in_force", .glo "word_of_deed", .glo "all_standing", .glo "law", .free "range", .free "min", .free "max", .free "tuple", .free "list", .free "len", .free "sorted", .free "int", .free "isinstance", .free "bool", .free "dict", .free "any", .free "set", .int "NUMBER" 0, .int "WORD" 4, .int "DAY" 1, .int "WRITTEN" 2, .int "OF" 5, .int "RESTS" 7, .int "LAST_DAY" 9999, .glo "CARRYING"]
def tfAll : List He.Defn := [("entries_rising", none)]
abbrev tsAll : List He.Tab := []
def exAll (K : PySem.W.Frag) : Bool := He.tupB K "CARRYING" [.str "stands", .str "paid"]
abbrev rowR : PySem.W.OpenRow := PySem.W.OpenLaw.row PySem.Challenge.rw_deedsheaf_k08_rows_of_deeds_that_fall
abbrev hk : PySem.W.Hook := He.hookX 4 faAll fnAll tsAll tfAll exAll
def ob (s : PySem.W.SharedT) : He.AlX := He.obsX 4 faAll fnAll tsAll tfAll exAll (HandSHeadRun.getT s)
theorem ob_eq (s : PySem.W.SharedT) : ob s = hk.obs s.abs := He.obsX_eq (HandSHeadRun.getT_eq s)
def looseAll : List Str := (["NUMBER", "DAY", "WRITTEN", "WORD", "OF", "RESTS", "LAST_DAY", "is_whole", "is_within", "is_day", "entries_rising", "deed_entries"] : List Str) ++ (["act_entries", "SheafError", "NoDay", "check_day", "CARRYING", "open_acts", "acts_on", "acts_in_force", "word_of_deed", "all_standing", "_law_cell_at", "_law_pen"] : List Str) ++ (["_law_draw", "_law_day", "_law_folk", "_law_few", "_law_deed", "_law_entry", "_law_mixed", "_law_book", "_law_open", "_law_of", "_law_force", "_law_any"] : List Str) ++ (["_law_words", "_law_entries", "_law_days", "_law_row"] : List Str)
theorem run (w : World) : HandSHeadRun.RunEq rowR (PySem.W.view rowR.prog [45]) hk ob 9000 looseAll w := by
  intro os
  kernel_rfl
theorem funOf {K : PySem.W.Frag} {x : Str} {st : Stmt} {f : Addr} {fd : FuncData} (F : FunD K x x (defArgs st) (defBody st) (defScope st) [] [] f fd) : Fun K x x st f fd := by
  obtain ⟨oc, od, dV, kV, doc, pm, an, cdv, ct, osl, e, lk, hcd, hD, hK⟩ := F.ex
  rcases hD with ⟨_, hD⟩ | ⟨hD, _⟩
  · subst hD
    exact ⟨⟨oc, od, kV, doc, pm, an, cdv, ct, osl, e, lk, hcd⟩, F.kp⟩
  · exact absurd rfl hD
theorem codeAt {K : PySem.W.Frag} {x : Str} {st : Stmt} {p : He.Defn} {fd : FuncData} (F : Fun K x x st (He.fAd K p) fd) : fd.code = .ref (He.cT K p).1 := by
  obtain ⟨oc, od, kV, doc, pm, an, cdv, ct, osl, e, lk, hcd⟩ := F.ex
  obtain ⟨c, ec⟩ := He.codeIn_ref hcd
  have e2 : fd.code = .ref c := by rw [e, ← ec]
  rw [show (He.cT K p).1 = c from He.codeOf_eq lk e2]
  exact e2
theorem facts {l : PySem.W.OpenLaw} {w : World} {K : PySem.W.Frag} {h : Heap} {mg : Str → Option Value} {f : Addr} (X : K.In h) (G : h.Ns mainGlobals mg) (hfa : mg ("law" : Str) = some (.ref f)) (c : He.SaysX faAll fnAll tsAll tfAll exAll w h K) : LawAtS l w K CX0 36 63 "_law_script" mg f h := by
  obtain ⟨d0, F0'⟩ := c.t.d.def_ 0 (d := mkD "_law_cell_at" sCell) rfl
  have g0 := He.glo_ok X G (c.t.d.fact 0 (f := .glo "_law_cell_at") rfl)
  have F0 : Fun K "_law_cell_at" "_law_cell_at" sCell (He.fAd K ("_law_cell_at", none)) d0 := funOf F0'
  have D0 : Df K mg "_law_cell_at" sCell ["_law_script", "_law_k"] _ d0 := ⟨F0, F0.binds (ps := ["_law_script", "_law_k"]) (fun _ _ _ _ _ _ us hl => match us, hl with | [_, _], _ => rfl), g0⟩
  obtain ⟨d1, F1'⟩ := c.t.d.def_ 1 (d := mkD "_law_pen" sPen) rfl
  have g1 := He.glo_ok X G (c.t.d.fact 1 (f := .glo "_law_pen") rfl)
  have F1 : Fun K "_law_pen" "_law_pen" sPen (He.fAd K ("_law_pen", none)) d1 := funOf F1'
  have D1 : Df K mg "_law_pen" sPen ["_law_cell"] _ d1 := ⟨F1, F1.binds (ps := ["_law_cell"]) (fun _ _ _ _ _ _ us hl => match us, hl with | [_], _ => rfl), g1⟩
  obtain ⟨d2, F2'⟩ := c.t.d.def_ 2 (d := mkD "_law_draw" sDraw) rfl
  have g2 := He.glo_ok X G (c.t.d.fact 2 (f := .glo "_law_draw") rfl)
  have F2 : Fun K "_law_draw" "_law_draw" sDraw (He.fAd K ("_law_draw", none)) d2 := funOf F2'
  have D2 : Df K mg "_law_draw" sDraw ["_law_pen_here", "_law_bound"] _ d2 := ⟨F2, F2.binds (ps := ["_law_pen_here", "_law_bound"]) (fun _ _ _ _ _ _ us hl => match us, hl with | [_, _], _ => rfl), g2⟩
  obtain ⟨d3, F3'⟩ := c.t.d.def_ 3 (d := mkD "_law_folk" sFolk) rfl
  have g3 := He.glo_ok X G (c.t.d.fact 3 (f := .glo "_law_folk") rfl)
  have F3 : Fun K "_law_folk" "_law_folk" sFolk (He.fAd K ("_law_folk", none)) d3 := funOf F3'
  have D3 : Df K mg "_law_folk" sFolk ["_law_pen_here", "_law_least"] _ d3 := ⟨F3, F3.binds (ps := ["_law_pen_here", "_law_least"]) (fun _ _ _ _ _ _ us hl => match us, hl with | [_, _], _ => rfl), g3⟩
  obtain ⟨d4, F4'⟩ := c.t.d.def_ 4 (d := mkD "_law_row" sRow) rfl
  have g4 := He.glo_ok X G (c.t.d.fact 4 (f := .glo "_law_row") rfl)
  have F4 : Fun K "_law_row" "_law_row" sRow (He.fAd K ("_law_row", none)) d4 := funOf F4'
  have D4 : Df K mg "_law_row" sRow ["_law_pen_here", "_law_many"] _ d4 := ⟨F4, F4.binds (ps := ["_law_pen_here", "_law_many"]) (fun _ _ _ _ _ _ us hl => match us, hl with | [_, _], _ => rfl), g4⟩
  obtain ⟨d5, F5'⟩ := c.t.d.def_ 5 (d := mkD "entries_rising" sRising) rfl
  have g5 := He.glo_ok X G (c.t.d.fact 5 (f := .glo "entries_rising") rfl)
  have F5 : Fun K "entries_rising" "entries_rising" sRising (He.fAd K ("entries_rising", none)) d5 := funOf F5'
  have D5 : Df K mg "entries_rising" sRising ["book"] _ d5 := ⟨F5, F5.binds (ps := ["book"]) (fun _ _ _ _ _ _ us hl => match us, hl with | [_], _ => rfl), g5⟩
  obtain ⟨d6, F6'⟩ := c.t.d.def_ 6 (d := mkD "deed_entries" sDeedE) rfl
  have g6 := He.glo_ok X G (c.t.d.fact 6 (f := .glo "deed_entries") rfl)
  have F6 : Fun K "deed_entries" "deed_entries" sDeedE (He.fAd K ("deed_entries", none)) d6 := funOf F6'
  have D6 : Df K mg "deed_entries" sDeedE ["book"] _ d6 := ⟨F6, F6.binds (ps := ["book"]) (fun _ _ _ _ _ _ us hl => match us, hl with | [_], _ => rfl), g6⟩
  obtain ⟨d7, F7'⟩ := c.t.d.def_ 7 (d := mkD "act_entries" sActE) rfl
  have g7 := He.glo_ok X G (c.t.d.fact 7 (f := .glo "act_entries") rfl)
  have F7 : Fun K "act_entries" "act_entries" sActE (He.fAd K ("act_entries", none)) d7 := funOf F7'
  have D7 : Df K mg "act_entries" sActE ["book"] _ d7 := ⟨F7, F7.binds (ps := ["book"]) (fun _ _ _ _ _ _ us hl => match us, hl with | [_], _ => rfl), g7⟩
  obtain ⟨d8, F8'⟩ := c.t.d.def_ 8 (d := mkD "is_whole" sWhole) rfl
  have g8 := He.glo_ok X G (c.t.d.fact 8 (f := .glo "is_whole") rfl)
  have F8 : Fun K "is_whole" "is_whole" sWhole (He.fAd K ("is_whole", none)) d8 := funOf F8'
  have D8 : Df K mg "is_whole" sWhole ["thing"] _ d8 := ⟨F8, F8.binds (ps := ["thing"]) (fun _ _ _ _ _ _ us hl => match us, hl with | [_], _ => rfl), g8⟩
  obtain ⟨d9, F9'⟩ := c.t.d.def_ 9 (d := mkD "is_within" sWithin) rfl
  have g9 := He.glo_ok X G (c.t.d.fact 9 (f := .glo "is_within") rfl)
  have F9 : Fun K "is_within" "is_within" sWithin (He.fAd K ("is_within", none)) d9 := funOf F9'
  have D9 : Df K mg "is_within" sWithin ["thing", "low", "high"] _ d9 := ⟨F9, F9.binds (ps := ["thing", "low", "high"]) (fun _ _ _ _ _ _ us hl => match us, hl with | [_, _, _], _ => rfl), g9⟩
  obtain ⟨d10, F10'⟩ := c.t.d.def_ 10 (d := mkD "is_day" sIsDay) rfl
  have g10 := He.glo_ok X G (c.t.d.fact 10 (f := .glo "is_day") rfl)
  have F10 : Fun K "is_day" "is_day" sIsDay (He.fAd K ("is_day", none)) d10 := funOf F10'
  have D10 : Df K mg "is_day" sIsDay ["thing"] _ d10 := ⟨F10, F10.binds (ps := ["thing"]) (fun _ _ _ _ _ _ us hl => match us, hl with | [_], _ => rfl), g10⟩
  obtain ⟨d11, F11'⟩ := c.t.d.def_ 11 (d := mkD "check_day" sCheckDay) rfl
  have g11 := He.glo_ok X G (c.t.d.fact 11 (f := .glo "check_day") rfl)
  have F11 : Fun K "check_day" "check_day" sCheckDay (He.fAd K ("check_day", none)) d11 := funOf F11'
  have D11 : Df K mg "check_day" sCheckDay ["thing"] _ d11 := ⟨F11, F11.binds (ps := ["thing"]) (fun _ _ _ _ _ _ us hl => match us, hl with | [_], _ => rfl), g11⟩
  obtain ⟨d12, F12'⟩ := c.t.d.def_ 12 (d := mkD "open_acts" sOpenA) rfl
  have g12 := He.glo_ok X G (c.t.d.fact 12 (f := .glo "open_acts") rfl)
  have F12 : Fun K "open_acts" "open_acts" sOpenA (He.fAd K ("open_acts", none)) d12 := funOf F12'
  have D12 : Df K mg "open_acts" sOpenA ["book", "d", "k"] _ d12 := ⟨F12, F12.binds (ps := ["book", "d", "k"]) (fun _ _ _ _ _ _ us hl => match us, hl with | [_, _, _], _ => rfl), g12⟩
  obtain ⟨d13, F13'⟩ := c.t.d.def_ 13 (d := mkD "acts_on" sActsOn) rfl
  have g13 := He.glo_ok X G (c.t.d.fact 13 (f := .glo "acts_on") rfl)
  have F13 : Fun K "acts_on" "acts_on" sActsOn (He.fAd K ("acts_on", none)) d13 := funOf F13'
  have D13 : Df K mg "acts_on" sActsOn ["acts", "word", "number"] _ d13 := ⟨F13, F13.binds (ps := ["acts", "word", "number"]) (fun _ _ _ _ _ _ us hl => match us, hl with | [_, _, _], _ => rfl), g13⟩
  obtain ⟨d14, F14'⟩ := c.t.d.def_ 14 (d := mkD "acts_in_force" sForced) rfl
  have g14 := He.glo_ok X G (c.t.d.fact 14 (f := .glo "acts_in_force") rfl)
  have F14 : Fun K "acts_in_force" "acts_in_force" sForced (He.fAd K ("acts_in_force", none)) d14 := funOf F14'
  have D14 : Df K mg "acts_in_force" sForced ["acts"] _ d14 := ⟨F14, F14.binds (ps := ["acts"]) (fun _ _ _ _ _ _ us hl => match us, hl with | [_], _ => rfl), g14⟩
  obtain ⟨d15, F15'⟩ := c.t.d.def_ 15 (d := mkD "word_of_deed" sWordOf) rfl
  have g15 := He.glo_ok X G (c.t.d.fact 15 (f := .glo "word_of_deed") rfl)
  have F15 : Fun K "word_of_deed" "word_of_deed" sWordOf (He.fAd K ("word_of_deed", none)) d15 := funOf F15'
  have D15 : Df K mg "word_of_deed" sWordOf ["deed", "forced", "words", "d", "k"] _ d15 := ⟨F15, F15.binds (ps := ["deed", "forced", "words", "d", "k"]) (fun _ _ _ _ _ _ us hl => match us, hl with | [_, _, _, _, _], _ => rfl), g15⟩
  obtain ⟨d16, F16'⟩ := c.t.d.def_ 16 (d := mkDd "all_standing" sAllSt [.int 9999]) rfl
  have g16 := He.glo_ok X G (c.t.d.fact 16 (f := .glo "all_standing") rfl)
  have F16 : FunD K "all_standing" "all_standing" (defArgs sAllSt) (defBody sAllSt) (defScope sAllSt) [V.int 9999] [] (He.fAd K ("all_standing", none)) d16 := F16'
  obtain ⟨ds16, hv16, b16⟩ := FunD.binds1 (ps := ["book", "d", "k"]) F16 3 1 (by decide) rfl (fun T kV doc pm an cdv ct us its h1 h2 => match us, its, h1, h2 with | [_, _, _], [_], _, _ => ⟨_, rfl, rfl⟩)
  cases hv16
  obtain ⟨d17, F17'⟩ := c.t.d.def_ 17 (d := mkD "law" sLaw) rfl
  have g17 := He.glo_ok X G (c.t.d.fact 17 (f := .glo "law") rfl)
  have F17 : Fun K "law" "law" sLaw (He.fAd K ("law", none)) d17 := funOf F17'
  have m_range := He.free_ok X G (c.t.d.fact 18 (f := .free "range") rfl)
  have m_min := He.free_ok X G (c.t.d.fact 19 (f := .free "min") rfl)
  have m_max := He.free_ok X G (c.t.d.fact 20 (f := .free "max") rfl)
  have m_tuple := He.free_ok X G (c.t.d.fact 21 (f := .free "tuple") rfl)
  have m_list := He.free_ok X G (c.t.d.fact 22 (f := .free "list") rfl)
  have m_len := He.free_ok X G (c.t.d.fact 23 (f := .free "len") rfl)
  have m_sorted := He.free_ok X G (c.t.d.fact 24 (f := .free "sorted") rfl)
  have m_int := He.free_ok X G (c.t.d.fact 25 (f := .free "int") rfl)
  have m_isinstance := He.free_ok X G (c.t.d.fact 26 (f := .free "isinstance") rfl)
  have m_bool := He.free_ok X G (c.t.d.fact 27 (f := .free "bool") rfl)
  have m_dict := He.free_ok X G (c.t.d.fact 28 (f := .free "dict") rfl)
  have m_any := He.free_ok X G (c.t.d.fact 29 (f := .free "any") rfl)
  have m_set := He.free_ok X G (c.t.d.fact 30 (f := .free "set") rfl)
  have i_NUMBER : MgInt mg "NUMBER" 0 := He.int_ok X G (c.t.d.fact 31 (f := .int "NUMBER" 0) rfl)
  have i_WORD : MgInt mg "WORD" 4 := He.int_ok X G (c.t.d.fact 32 (f := .int "WORD" 4) rfl)
  have i_DAY : MgInt mg "DAY" 1 := He.int_ok X G (c.t.d.fact 33 (f := .int "DAY" 1) rfl)
  have i_WRITTEN : MgInt mg "WRITTEN" 2 := He.int_ok X G (c.t.d.fact 34 (f := .int "WRITTEN" 2) rfl)
  have i_OF : MgInt mg "OF" 5 := He.int_ok X G (c.t.d.fact 35 (f := .int "OF" 5) rfl)
  have i_RESTS : MgInt mg "RESTS" 7 := He.int_ok X G (c.t.d.fact 36 (f := .int "RESTS" 7) rfl)
  have i_LAST_DAY : MgInt mg "LAST_DAY" 9999 := He.int_ok X G (c.t.d.fact 37 (f := .int "LAST_DAY" 9999) rfl)
  have e := hfa.symm.trans g17
  cases e
  have b := FunD.bindsA (ps := ["_law_script"]) F17' fun _ _ _ _ _ _ us hl => match us, hl with | [_], _ => rfl
  have B : Bi mg := ⟨m_range, m_min, m_max, m_tuple, m_list, m_len, m_sorted, m_int⟩
  have t0 : (("entries_rising", none) : He.Defn) ∈ tfAll := List.mem_cons_self
  have gCar := He.glo_ok X G (c.t.d.fact 38 (f := .glo "CARRYING") rfl)
  have cCar : CarryAt K mg := ⟨_, gCar, fun H => He.tupB_ok c.more H⟩
  refine ⟨d17, tfAll.map (He.cT K), spLaw K [((He.cT K ("entries_rising", none)).2, qRis)], fun p hp => ?_, fun p hp => ?_, fun p hp => ?_, fun s v => b s [v] rfl, fun H a ns hl _ hH hS => ?_, fun base hK hG hTB => ?_⟩
  · obtain ⟨q, hq, rfl⟩ := List.mem_map.mp hp
    exact c.empty q hq
  · obtain ⟨q, hq, rfl⟩ := List.mem_map.mp hp
    exact c.out q hq
  · obtain ⟨q, hq, rfl⟩ := List.mem_map.mp hp
    exact PySem.W.codeHd_of_K X (c.hd q hq)
  · refine ⟨a, ns, rfl, hS, hl, fun p hp => ?_, fun _ => rfl⟩
    rw [List.mem_singleton.mp hp]
    exact TabS.nil (hH _ (List.mem_map.mpr ⟨_, t0, rfl⟩))
  · have tb0 := hTB _ (List.mem_map.mpr ⟨_, t0, rfl⟩)
    have R : RisD K mg base [((He.cT K ("entries_rising", none)).2, qRis)] _ d5 := ⟨D5, ⟨_, _, codeAt F5, tb0, List.mem_cons_self, fun p hp e => by rw [List.mem_singleton.mp hp]⟩, m_sorted, i_NUMBER⟩
    have GAE : ∀ k, FnOk l.prog w K mg base CX0 (k + 3) _ d7 ["book"] (spPick (fun e => !e.isDeed) _) := fun k => ok_actE (k := k) D7.F R i_WORD
    have GDE : ∀ k, FnOk l.prog w K mg base CX0 (k + 3) _ d6 ["book"] (spPick (·.isDeed) _) := fun k => ok_deedE (k := k) D6.F R i_WORD
    have GCD : ∀ k, FnOk l.prog w K mg base CX0 (k + 4) _ d11 ["thing"] spCkDay := fun k => ok_ckDay (k := k) D11.F D10 D9 D8 m_isinstance m_int m_bool i_LAST_DAY
    have GOA : ∀ k, FnOk l.prog w K mg base CX0 (k + 4) _ d12 ["book", "d", "k"] (spOpenA _) := fun k => ok_openA (k := k) D12.F D7 (GAE k) i_WRITTEN i_DAY
    have GFO : ∀ k, FnOk l.prog w K mg base CX0 (k + 2) _ d14 ["acts"] spForced := fun k => ok_forced (k := k) D14.F D13 i_WORD i_OF i_NUMBER
    have GWO : ∀ k, FnOk l.prog w K mg base CX0 (k + 2) _ d15 ["deed", "forced", "words", "d", "k"] spWordOf := fun k => ok_wordOf (k := k) D15.F D13 i_WORD i_OF i_NUMBER i_WRITTEN i_DAY i_RESTS m_any cCar
    have GAL : ∀ k, FnOk l.prog w K mg base CX0 (k + 5) _ d16 ["book", "d", "k"] (spAllSt _) := fun k => ok_allSt (k := k + 4) F16 i_NUMBER D11 (GCD k) D12 (GOA k) D14 (GFO (k + 2)) D6 (GDE (k + 1)) D15 (GWO (k + 2))
    exact ok_law (L := 35) F17 ⟨B, m_dict, D0, D1, D2, D3, D4, g16, F16.kp, b16, ok_cell D0.F m_len, ok_pen D1.F m_int, ok_draw D2.F, ok_folk (k := 33) D3.F D2 m_range m_min m_tuple, ok_row (k := 33) D4.F D2 B m_set, GAL 30⟩
end Deed
open PySem PySem.W PySem.Calls PyProof.Rows
theorem PySem.Challenge.cw_deedsheaf_k08_rows_of_deeds_that_fall_holds : PySem.Challenge.rw_deedsheaf_k08_rows_of_deeds_that_fall.Holds := by
  w_on; o_law
  refine HandSHeadRun.head_any (r := OpenLaw.row PySem.Challenge.rw_deedsheaf_k08_rows_of_deeds_that_fall) (q := view (OpenLaw.row PySem.Challenge.rw_deedsheaf_k08_rows_of_deeds_that_fall).prog [45]) (H := Deed.hk) (ob := Deed.ob) (M := 9000) (loose := Deed.looseAll) (d := HandSHeadRun.topDef (OpenLaw.row PySem.Challenge.rw_deedsheaf_k08_rows_of_deeds_that_fall).prog 45) (kwd := []) Deed.ob_eq
    (by kernel_rfl) (fun s => by kernel_rfl) Deed.run (by kernel_rfl) (by kernel_rfl) (by kernel_rfl) (by rfl) (by first | assumption | decide +kernel) (by decide +kernel) ⟨rfl, rfl, rfl, rfl, rfl, by decide +kernel⟩ ?hw ?hc
  case hw => w_witness2
  case hc =>
    refine LamX.walk_ofTsE (l := PySem.Challenge.rw_deedsheaf_k08_rows_of_deeds_that_fall) (n := 63) (k := 36) (x := "_law_script") (CX := fun _ => L2.CX0) rfl (by decide) (by kernel_rfl) ⟨rfl, by decide, by decide⟩ ?F (fun _ _ _ _ _ z => z)
    intro w mg fa h Y G hmg0
    obtain ⟨K, KX, c⟩ := Y
    have hmg : mg ("law" : PySem.Str) = some (.ref fa) := by
      have e : (HandSHeadRun.topDef (OpenLaw.row PySem.Challenge.rw_deedsheaf_k08_rows_of_deeds_that_fall).prog 45).name = ("law" : PySem.Str) := by kernel_rfl
      rw [← e]
      exact hmg0
    exact ⟨K, KX, Deed.facts KX G hmg c⟩
