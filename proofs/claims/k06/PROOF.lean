import PyProof.Rows.All
import Wide.All
import OpenK.AllK
import Wide.FinOn
import KE.SortKeyHeap
import KE.KLam
import HandS.ForMost
import HandS.Flow
import HandS.Style
import HandS.SortInts
import HandS.SortKw
import HandS.TupAny
import HandS.Lambda
import HandS.EndTab
import HandS.Head2
import HandS.HeadEnd
import HandS.HeadHook4
import HandS.HeadWalk
import HandS.Walk
import HandS.IsInst
import HandS.Defaults
import HandS.More
import HandS.DictComp
import HandS.ListItems
import HandS.SetFor
import HandS.Strs
import HandS.Zip
import HandS.TupSets
import KE.SortData
import HandS.Conv
import HandS.WordsDict
import PySem.Challenge.RW_deedsheaf_k06_acts_in_force
set_option Elab.async false
set_option linter.all false
set_option maxRecDepth 100000
set_option maxHeartbeats 0

namespace Deed
open PySem PySem.Spec PyProof.Rows L2
def topS (i : Nat) : Stmt := PySem.Challenge.pw_deedsheaf_k06_acts_in_force.main.body.getD i (.Pass ⟨0, 0, 0, 0⟩)
/-! ### heaps: all but the pen at p is as it was -/
def Kp (p : Addr) (H H' : Hp) : Prop := ∀ b o, b ≠ p → H b = some o → H' b = some o
theorem Kp.refl (p : Addr) (H : Hp) : Kp p H H := fun _ _ _ h => h
theorem Kp.trans {p : Addr} {H H1 H2 : Hp} (a : Kp p H H1) (b : Kp p H1 H2) : Kp p H H2 := fun c o n h => b c o n (a c o n h)
theorem Kp.new {p q : Addr} {H : Hp} (n : H q = none) (o : HO) : Kp p H (upd H q o) := fun b u _ e => by
  rw [upd_ne (ne_of_none e n)]
  exact e
theorem Kp.put {p : Addr} {H : Hp} (o : HO) : Kp p H (upd H p o) := fun b u n e => by
  rw [upd_ne n]
  exact e
theorem Kp.same {p : Addr} {H H' : Hp} (h : Same H H') : Kp p H H' := fun b o _ e => h b o e
/-- the pen: four whole numbers, the last one a rest -/
def PenAt (H : Hp) (p : Addr) : Prop := ∃ a f c e : Int, H p = some (.lst [.int a, .int f, .int c, .int e]) ∧ 0 ≤ e ∧ e < 1000000007
theorem PenAt.new {p q : Addr} {H : Hp} (h : PenAt H p) (n : H q = none) (o : HO) : PenAt (upd H q o) p := by
  obtain ⟨a, f, c, e, h1, h2⟩ := h
  refine ⟨a, f, c, e, ?_, h2⟩
  rw [upd_ne (ne_of_none h1 n)]
  exact h1
theorem PenAt.ne {p q : Addr} {H : Hp} {o : HO} (h : PenAt H p) (e : H q = some o) (no : ∀ xs, o ≠ .lst xs) : q ≠ p := fun z => by
  obtain ⟨a, f, c, e', h1, _⟩ := h
  rw [z, h1] at e
  exact no _ (Option.some.inj e).symm
theorem PenAt.free {p q : Addr} {H : Hp} (h : PenAt H p) (n : H q = none) : q ≠ p := fun z => by
  obtain ⟨a, f, c, e', h1, _⟩ := h
  rw [z, h1] at n
  cases n
section
variable {P : Program} {w : World} {K : PySem.W.Frag} {mg : Str → Option Value} {base : Heap}
/-! ### the script's cell -/
abbrev sCell : Stmt := topS 26
theorem scCell : FnScope ["_law_script", "_law_k"] ["_law_script", "_law_k"] (defScope sCell) := ⟨rfl, rfl, rfl, by decide +kernel, rfl, by decide +kernel, by decide +kernel⟩
def spCell (K : PySem.W.Frag) : Sp := fun vs H Q _ => ∃ (a : Addr) (ns : List Int) (k : Int), vs = [.ref a, .int k] ∧ SqL K H a (ns.map V.int) ∧ 0 ≤ k ∧ ∀ v : Int, Q (.int v) H
theorem ok_cell {f : Addr} {fd : FuncData} {k : Nat} (F : Fun K "_law_cell_at" "_law_cell_at" sCell f fd) (ml : mg "len" = none) : FnOk P w K mg base CX0 (k + 1) f fd ["_law_script", "_law_k"] (spCell K) := by
  refine F.ok scCell (fun vs H Q E h => ?_) (fun cdv A outer s H vs Q E hr h => ?_)
  · obtain ⟨a, ns, k, rfl, _⟩ := h
    rfl
  · obtain ⟨a, ns, k, rfl, hS, h0, q⟩ := h
    refine ⟨_, pss_cons (ps_if (pt_cmpR op_lt (pv 1) (pe_callB call_len_seq (by rfl) ml PySem.boot_len (pa_cons (pv 0) pa_nil)) (nomark _)) (pss_one (ps_ret (pe_ix ix_list (pv 0) (pv 1) (fun _ _ => rfl)))) pss_nil)
      (pss_one (ps_ret pe_int)), ?_⟩
    have hl : (ns.map V.int).length = ns.length := List.length_map _
    refine ⟨_, rfl, _, rfl, a, _, rfl, .inl hS, _, _, rfl, rfl, _, rfl, ?_⟩
    refine ite2 (fun c => ?_) (fun c => ?_)
    · have c' : k < (((ns.map V.int).length : Nat) : Int) := of_decide_eq_true c
      rw [hl] at c'
      have hk : k.toNat < ns.length := by omega
      have ek : k = ((k.toNat : Nat) : Int) := by omega
      refine ⟨_, rfl, _, rfl, a, _, _, .int ns[k.toNat], rfl, rfl, hS, ?_, q _⟩
      exact at_of ek (by rw [List.getElem?_map, List.getElem?_eq_getElem hk] <;> rfl)
    · exact q 0
/-! ### the pen -/
abbrev sPen : Stmt := topS 27
theorem scPen : FnScope ["_law_cell"] ["_law_cell"] (defScope sPen) := ⟨rfl, rfl, rfl, by decide +kernel, rfl, by decide +kernel, by decide +kernel⟩
def spPen : Sp := fun vs H Q _ => ∃ (c : Int), vs = [.int c] ∧ ∀ p H', Same H H' → H p = none → PenAt H' p → Q (.ref p) H'
theorem ok_pen {f : Addr} {fd : FuncData} {k : Nat} (F : Fun K "_law_pen" "_law_pen" sPen f fd) (mi : mg "int" = none) : FnOk P w K mg base CX0 (k + 1) f fd ["_law_cell"] spPen := by
  refine F.ok scPen (fun vs H Q E h => ?_) (fun cdv A outer s H vs Q E hr h => ?_)
  · obtain ⟨c, rfl, _⟩ := h
    rfl
  · obtain ⟨c, rfl, q⟩ := h
    refine ⟨_, pss_one (ps_ret (pe_lst (pa_cons (pv 0) (pa_cons (pe_callTy call_int1 (by rfl) mi (by decide +kernel) (pa_cons (pe_cmpR op_ge (pv 0) (pe_op op_pow pe_int pe_int) (nomark _)) pa_nil)) (pa_cons pe_int (pa_cons (pe_op op_mod (pv 0) pe_int) pa_nil)))))), ?_⟩
    refine ⟨_, rfl, _, rfl, _, _, rfl, rfl, ⟨by decide, by decide, by decide⟩, _, _, rfl, rfl, .inr ⟨_, rfl, ?_⟩⟩
    refine ⟨_, rfl, _, _, rfl, rfl, (by show (0 : Int) < 1000000007; decide), (by show 4 ≤ sizeLine; decide), fun p hp => ?_⟩
    refine q p _ (fun b o e => ?_) hp ⟨_, _, _, _, upd_same, Int.emod_nonneg _ (by decide), Int.emod_lt_of_pos _ (by decide)⟩
    rw [upd_ne (ne_of_none e hp)]
    exact e
/-! ### a draw -/
abbrev sDraw : Stmt := topS 28
theorem scDraw : FnScope ["_law_pen_here", "_law_bound", "_law_found", "_law_stir"] ["_law_pen_here", "_law_bound"] (defScope sDraw) := ⟨rfl, rfl, rfl, by decide +kernel, rfl, by decide +kernel, by decide +kernel⟩
def spDraw : Sp := fun vs H Q _ => ∃ (p : Addr) (b : Int), vs = [.ref p, .int b] ∧ PenAt H p ∧ 0 < b ∧ b < 1073741824 ∧ ∀ v H', Kp p H H' → PenAt H' p → 0 ≤ v → v < b → Q (.int v) H'
theorem ok_draw {f : Addr} {fd : FuncData} {k : Nat} (F : Fun K "_law_draw" "_law_draw" sDraw f fd) : FnOk P w K mg base CX0 (k + 1) f fd ["_law_pen_here", "_law_bound"] spDraw := by
  refine F.ok scDraw (fun vs H Q E h => ?_) (fun cdv A outer s H vs Q E hr h => ?_)
  · obtain ⟨p, b, rfl, _⟩ := h
    rfl
  · obtain ⟨p, b, rfl, ⟨x, y, c, e, hp, he0, he1⟩, hb0, hb1, q⟩ := h
    refine ⟨_, pss_cons (ps_if (PW.pt (pw_and (pt_cmpR op_eq (pe_ix ix_list (pv 0) pe_int (fun _ _ => rfl)) pe_int (nomark _)) (pw_and1 (pt_cmpR op_gt (pe_ix ix_list (pv 0) pe_int (fun _ _ => rfl)) pe_int (nomark _)))))
        (pss_cons (ps_set (i := 2) scDraw.nd rfl (.inl rfl) (pe_op op_mod (pe_ix ix_list (pv 0) pe_int (fun _ _ => rfl)) (pv 1)))
        (pss_cons (ps_asg (pe_op op_fdiv (pe_ix ix_list (pv 0) pe_int (fun _ _ => rfl)) (pv 1)) (pg_sub (pv 0) pe_int set_list))
        (pss_one (ps_ret (pv 2))))) pss_nil)
      (pss_cons (ps_asg (pe_op op_add (pe_ix ix_list (pv 0) pe_int (fun _ _ => rfl)) pe_int) (pg_sub (pv 0) pe_int set_list))
      (pss_cons (ps_set (i := 3) scDraw.nd rfl (.inl rfl) (pe_op op_mod (pe_op op_mul (pe_op op_add (pe_ix ix_list (pv 0) pe_int (fun _ _ => rfl)) pe_int) (pe_op op_add pe_int (pe_op op_mul pe_int (pe_ix ix_list (pv 0) pe_int (fun _ _ => rfl))))) pe_int))
      (pss_cons (ps_set (i := 3) scDraw.nd rfl (.inl rfl) (pe_op op_mod (pe_op op_add (pe_op op_add (pe_op op_mul (pv 3) (pv 3)) (pe_op op_mul pe_int (pe_ix ix_list (pv 0) pe_int (fun _ _ => rfl)))) pe_int) pe_int))
      (pss_one (ps_ret (pe_op op_mod (pe_op op_fdiv (pe_op op_mod (pe_op op_mul (pv 3) pe_int) pe_int) pe_int) (pv 1))))))), ?_⟩
    have i0 : ∀ u : V, ∀ r : List V, atI (u :: r) 0 = some u := fun u r => atI_nat (j := 0) rfl
    have i1 : ∀ u v : V, ∀ r : List V, atI (u :: v :: r) 1 = some v := fun u v r => atI_nat (j := 1) rfl
    have i2 : ∀ u v w : V, ∀ r : List V, atI (u :: v :: w :: r) 2 = some w := fun u v w r => atI_nat (j := 2) rfl
    have i3 : ∀ u v w z : V, ∀ r : List V, atI (u :: v :: w :: z :: r) 3 = some z := fun u v w z r => atI_nat (j := 3) rfl
    have hS : SqL K H p [.int x, .int y, .int c, .int e] := SqL.of hp
    refine ⟨_, rfl, p, _, _, _, rfl, rfl, hS, i1 _ _ _, rfl, _, rfl, ?_⟩
    refine ite2 (fun c1 => ?_) (fun c1 => ?slow1)
    refine ⟨_, rfl, p, _, _, _, rfl, rfl, hS, i0 _ _, _, _, rfl, rfl, _, rfl, ?_⟩
    refine ite2 (fun c2 => ?_) (fun c2 => ?slow2)
    · refine ⟨_, rfl, p, _, _, _, rfl, rfl, hS, i0 _ _, _, rfl, _, _, rfl, rfl, hb0, ?_⟩
      refine ⟨_, rfl, p, _, _, _, rfl, rfl, hS, i0 _ _, _, rfl, _, _, rfl, rfl, ⟨hb0, hb1⟩, _, rfl, p, _, 0, 0, rfl, rfl, hp, rfl, ?_⟩
      exact ⟨_, rfl, q _ _ (Kp.put _) ⟨_, _, _, _, upd_same, he0, he1⟩ (Int.emod_nonneg _ (by omega)) (Int.emod_lt_of_pos _ hb0)⟩
    all_goals
      refine ⟨_, rfl, p, _, _, _, rfl, rfl, hS, i2 _ _ _ _, _, _, rfl, rfl, _, rfl, p, _, 2, 2, rfl, rfl, hp, rfl, ?_⟩
      have hp1 : (upd H p (.lst [.int x, .int y, .int (c + 1), .int e])) p = some (.lst [.int x, .int y, .int (c + 1), .int e]) := upd_same
      have hS1 : SqL K (upd H p (.lst [.int x, .int y, .int (c + 1), .int e])) p [.int x, .int y, .int (c + 1), .int e] := SqL.of hp1
      refine ⟨_, rfl, p, _, _, _, rfl, rfl, hS1, i3 _ _ _ _ _, _, _, rfl, rfl, _, rfl, p, _, _, _, rfl, rfl, hS1, i2 _ _ _ _, _, _, rfl, rfl, .inl ⟨by decide, by decide⟩, _, _, rfl, rfl, _, _, rfl, rfl, .inl ⟨by omega, by omega⟩, _, _, rfl, rfl, (by show (0 : Int) < 2147483647; decide), ?_⟩
      have r1 := Int.emod_nonneg ((e + 17) * (69621 + 2 * (c + 1))) (b := 2147483647) (by decide)
      have r2 := Int.emod_lt_of_pos ((e + 17) * (69621 + 2 * (c + 1))) (b := 2147483647) (by decide)
      generalize (e + 17) * (69621 + 2 * (c + 1)) % 2147483647 = st at r1 r2
      refine ⟨_, rfl, _, rfl, _, _, rfl, rfl, .inl ⟨by omega, by omega⟩, _, rfl, p, _, _, _, rfl, rfl, hS1, i2 _ _ _ _, _, _, rfl, rfl, .inl ⟨by decide, by decide⟩, _, _, rfl, rfl, _, _, rfl, rfl, _, _, rfl, rfl, (by show (0 : Int) < 2147483629; decide), ?_⟩
      refine ⟨_, rfl, _, _, rfl, rfl, .inr ⟨by decide, by decide⟩, _, _, rfl, rfl, (by show (0 : Int) < 2147483647; decide), _, _, rfl, rfl, ⟨by decide, by decide⟩, _, rfl, _, _, rfl, rfl, hb0, ?_⟩
      exact q _ _ (Kp.put _) ⟨_, _, _, _, upd_same, he0, he1⟩ (Int.emod_nonneg _ (by omega)) (Int.emod_lt_of_pos _ hb0)
end
end Deed

namespace Deed
open PySem PySem.Spec PyProof.Rows L2
/-- a def of the top: where it stands, how its arguments come, its name -/
structure Df (K : PySem.W.Frag) (mg : Str → Option Value) (x : Str) (st : Stmt) (ps : List Str) (f : Addr) (fd : FuncData) : Prop where
  F : Fun K x x st f fd
  b : Binds K fd ps []
  g : mg x = some (.ref f)
theorem am0 {φ : V → Prop} : ∀ y ∈ ([] : List V), φ y := fun _ h => nomatch h
theorem am1 {φ : V → Prop} {x : V} {xs : List V} (h : φ x) (r : ∀ y ∈ xs, φ y) : ∀ y ∈ x :: xs, φ y := fun y hy => (List.mem_cons.mp hy).elim (fun e => e ▸ h) (r y)
/-- an item of a written list at an open place -/
theorem pick {xs : List V} {i : Int} (φ : V → Prop) (h0 : 0 ≤ i) (h1 : i < (xs.length : Int)) (hx : ∀ x ∈ xs, φ x) : ∃ v, atI xs i = some v ∧ φ v := by
  have hk : i.toNat < xs.length := by omega
  exact ⟨xs[i.toNat], at_of (j := i.toNat) (by omega) (List.getElem?_eq_getElem hk), hx _ (List.getElem_mem hk)⟩
/-- an int within bounds -/
def Within (lo hi : Int) (x : V) : Prop := ∃ n : Int, x = .int n ∧ lo ≤ n ∧ n ≤ hi
section
variable {P : Program} {w : World} {K : PySem.W.Frag} {mg : Str → Option Value} {base : Heap} {fDr : Addr} {dDr : FuncData}
abbrev DrawD (K : PySem.W.Frag) (mg : Str → Option Value) := Df K mg "_law_draw" sDraw ["_law_pen_here", "_law_bound"]
/-! ### a day -/
abbrev sDay : Stmt := topS 29
theorem scDay : FnScope ["_law_pen_here", "_law_far"] ["_law_pen_here"] (defScope sDay) := ⟨rfl, rfl, rfl, by decide +kernel, rfl, by decide +kernel, by decide +kernel⟩
def spDay : Sp := fun vs H Q _ => ∃ (p : Addr), vs = [.ref p] ∧ PenAt H p ∧ ∀ v H', Kp p H H' → PenAt H' p → 0 ≤ v → v ≤ 9999 → Q (.int v) H'
theorem ok_day {f : Addr} {fd : FuncData} {k : Nat} (F : Fun K "_law_day" "_law_day" sDay f fd) (D : DrawD K mg fDr dDr) : FnOk P w K mg base CX0 (k + 2) f fd ["_law_pen_here"] spDay := by
  have G : FnOk P w K mg base CX0 (k + 1) fDr dDr ["_law_pen_here", "_law_bound"] spDraw := ok_draw D.F
  refine F.ok scDay (fun vs H Q E h => ?_) (fun cdv A outer s H vs Q E hr h => ?_)
  · obtain ⟨p, rfl, _⟩ := h
    rfl
  · obtain ⟨p, rfl, hP, q⟩ := h
    refine ⟨_, pss_cons (ps_set (i := 1) scDay.nd rfl (.inl rfl) (pe_ix ix_list (pe_lst (pa_cons pe_int (pa_cons (pe_call G hr (by rfl) D.g D.F.kp D.b .nil pass0 (pa_cons (pv 0) (pa_cons pe_int pa_nil))) pa_nil))) (pe_call G hr (by rfl) D.g D.F.kp D.b .nil pass0 (pa_cons (pv 0) (pa_cons pe_int pa_nil))) (fun _ _ => rfl)))
      (pss_one (ps_ret (pe_ix ix_list (pe_lst (pa_cons (pe_call G hr (by rfl) D.g D.F.kp D.b .nil pass0 (pa_cons (pv 0) (pa_cons pe_int pa_nil))) (pa_cons (pe_call G hr (by rfl) D.g D.F.kp D.b .nil pass0 (pa_cons (pv 0) (pa_cons pe_int pa_nil))) (pa_cons (pe_call G hr (by rfl) D.g D.F.kp D.b .nil pass0 (pa_cons (pv 0) (pa_cons pe_int pa_nil))) (pa_cons (pv 1) pa_nil))))) (pe_call G hr (by rfl) D.g D.F.kp D.b .nil pass0 (pa_cons (pv 0) (pa_cons pe_int pa_nil))) (fun _ _ => rfl)))), ?_⟩
    refine ⟨_, rfl, p, 10000, rfl, hP, by decide, by decide, fun v1 H1 k1 P1 a1 b1 => ?_⟩
    refine ⟨(by show 2 ≤ sizeLine; decide), fun l hl => ?_⟩
    refine ⟨_, rfl, p, 2, rfl, P1.new hl _, by decide, by decide, fun v2 H2 k2 P2 a2 b2 => ?_⟩
    obtain ⟨v3, g3, n3, rfl, a3, b3⟩ := pick (xs := [.int 9999, .int v1]) (Within 0 9999) a2 b2 (am1 ⟨9999, rfl, by decide, by decide⟩ (am1 ⟨v1, rfl, a1, by omega⟩ am0))
    refine ⟨l, _, v2, _, rfl, rfl, SqL.of (k2 _ _ (P1.free hl) upd_same), g3, ?_⟩
    have kA : Kp p H H2 := (k1.trans (Kp.new hl _)).trans k2
    refine ⟨_, rfl, p, 6, rfl, P2, by decide, by decide, fun v4 H4 k4 P4 a4 b4 => ?_⟩
    refine ⟨_, rfl, p, 6, rfl, P4, by decide, by decide, fun v5 H5 k5 P5 a5 b5 => ?_⟩
    refine ⟨_, rfl, p, 40, rfl, P5, by decide, by decide, fun v6 H6 k6 P6 a6 b6 => ?_⟩
    refine ⟨_, rfl, (by show 4 ≤ sizeLine; decide), fun m hm => ?_⟩
    refine ⟨_, rfl, p, 4, rfl, P6.new hm _, by decide, by decide, fun v7 H7 k7 P7 a7 b7 => ?_⟩
    obtain ⟨v8, g8, n8, rfl, a8, b8⟩ := pick (xs := [.int v4, .int v5, .int v6, .int n3]) (Within 0 9999) a7 b7 (am1 ⟨_, rfl, by omega, by omega⟩ (am1 ⟨_, rfl, by omega, by omega⟩ (am1 ⟨_, rfl, by omega, by omega⟩ (am1 ⟨_, rfl, by omega, by omega⟩ am0))))
    refine ⟨m, _, v7, _, rfl, rfl, SqL.of (k7 _ _ (P6.free hm) upd_same), g8, ?_⟩
    exact q n8 _ (kA.trans (k4.trans (k5.trans (k6.trans ((Kp.new hm _).trans k7))))) P7 a8 b8
/-! ### folk -/
abbrev sFolk : Stmt := topS 30
theorem scFolk : FnScope ["_law_pen_here", "_law_least", "_law_found", "_law_k", "_law_born", "_law_died"] ["_law_pen_here", "_law_least"] (defScope sFolk) := ⟨rfl, rfl, rfl, by decide +kernel, rfl, by decide +kernel, by decide +kernel⟩
/-- a person at x -/
def PersonAt (H : Hp) (x : V) : Prop := ∃ (a : Addr) (b : Int) (d : V), x = .ref a ∧ H a = some (.tup [.int b, d]) ∧ -9999 ≤ b ∧ b ≤ 9998 ∧ (d = .non ∨ ∃ i : Int, d = .int i ∧ b < i ∧ i ≤ 9999)
theorem PersonAt.kp {p : Addr} {H H' : Hp} {x : V} (h : PersonAt H x) (k : Kp p H H') (P : PenAt H p) : PersonAt H' x := by
  obtain ⟨a, b, d, e, h1, r⟩ := h
  exact ⟨a, b, d, e, k _ _ (P.ne h1 fun _ z => by cases z) h1, r⟩
def FolkAt (H : Hp) (t : Addr) (n : Nat) : Prop := ∃ xs : List V, H t = some (.tup xs) ∧ xs.length = n ∧ ∀ x ∈ xs, PersonAt H x
theorem FolkAt.kp {p : Addr} {H H' : Hp} {t : Addr} {n : Nat} (h : FolkAt H t n) (k : Kp p H H') (P : PenAt H p) : FolkAt H' t n := by
  obtain ⟨xs, h1, h2, h3⟩ := h
  exact ⟨xs, k _ _ (P.ne h1 fun _ z => by cases z) h1, h2, fun x hx => (h3 x hx).kp k P⟩
def spFolk : Sp := fun vs H Q _ => ∃ (p : Addr) (least : Int), vs = [.ref p, .int least] ∧ PenAt H p ∧ 1 ≤ least ∧ least ≤ 6 ∧ ∀ t (n : Nat) H', Kp p H H' → PenAt H' p → FolkAt H' t n → least ≤ n → n ≤ 6 → Q (.ref t) H'
theorem ok_folk {f : Addr} {fd : FuncData} {k : Nat} (F : Fun K "_law_folk" "_law_folk" sFolk f fd) (D : DrawD K mg fDr dDr) (mr : mg "range" = none) (mm : mg "min" = none) (mt : mg "tuple" = none) : FnOk P w K mg base CX0 (k + 2) f fd ["_law_pen_here", "_law_least"] spFolk := by
  have G : FnOk P w K mg base CX0 (k + 1) fDr dDr ["_law_pen_here", "_law_bound"] spDraw := ok_draw D.F
  refine F.ok scFolk (fun vs H Q E h => ?_) (fun cdv A outer s H vs Q E hr h => ?_)
  · obtain ⟨p, l, rfl, _⟩ := h
    rfl
  · obtain ⟨p, least, rfl, hP, hl1, hl6, q⟩ := h
    refine ⟨_, pss_cons (ps_set (i := 2) scFolk.nd rfl (.inl rfl) (pe_lst pa_nil))
      (pss_cons (ps_for PassesOwn.never rfl (pi_range1 rfl mr (pa_cons (pe_op op_add (pv 1) (pe_call G hr (by rfl) D.g D.F.kp D.b .nil pass0 (pa_cons (pv 0) (pa_cons (pe_op op_sub pe_int (pv 1)) pa_nil)))) pa_nil)) (pg_name (i := 3) scFolk.nd rfl (.inl rfl))
        (pss_cons (ps_set (i := 4) scFolk.nd rfl (.inl rfl) (pe_ix ix_list (pe_lst (pa_cons (pe_op op_sub (pe_call G hr (by rfl) D.g D.F.kp D.b .nil pass0 (pa_cons (pv 0) (pa_cons pe_int pa_nil))) pe_int) (pa_cons (pe_op op_sub (pe_call G hr (by rfl) D.g D.F.kp D.b .nil pass0 (pa_cons (pv 0) (pa_cons pe_int pa_nil))) pe_int) (pa_cons (pe_un un_neg pe_int) pa_nil)))) (pe_call G hr (by rfl) D.g D.F.kp D.b .nil pass0 (pa_cons (pv 0) (pa_cons pe_int pa_nil))) (fun _ _ => rfl)))
        (pss_cons (ps_set (i := 5) scFolk.nd rfl (.inl rfl) (pe_callB (call_min2 rfl) (by rfl) mm (by decide +kernel) (pa_cons pe_int (pa_cons (pe_op op_add (pe_op op_add (pv 4) pe_int) (pe_ix ix_list (pe_lst (pa_cons (pe_call G hr (by rfl) D.g D.F.kp D.b .nil pass0 (pa_cons (pv 0) (pa_cons pe_int pa_nil))) (pa_cons (pe_call G hr (by rfl) D.g D.F.kp D.b .nil pass0 (pa_cons (pv 0) (pa_cons pe_int pa_nil))) pa_nil))) (pe_call G hr (by rfl) D.g D.F.kp D.b .nil pass0 (pa_cons (pv 0) (pa_cons pe_int pa_nil))) (fun _ _ => rfl))) pa_nil))))
        (pss_one (ps_expr (pe_bm PySem.F.plainAttrs_list PySem.F.slot_list_append PySem.F.type_list_append mt_append (pv 2) (pa_cons (pe_tup (pa_cons (pv 4) (pa_cons (pe_ix ix_list (pe_lst (pa_cons pe_non (pa_cons (pv 5) pa_nil))) (pe_call G hr (by rfl) D.g D.F.kp D.b .nil pass0 (pa_cons (pv 0) (pa_cons pe_int pa_nil))) (fun _ _ => rfl)) pa_nil))) pa_nil)))))))
      (pss_one (ps_ret (pe_callTy call_tuple_of (by rfl) mt (by decide +kernel) (pa_cons (pv 2) pa_nil))))), ?_⟩
    refine ⟨Nat.zero_le _, fun l hl => ?_⟩
    have Pl : PenAt (upd H l (.lst [])) p := hP.new hl _
    have nl : l ≠ p := hP.free hl
    refine ⟨_, rfl, _, rfl, _, rfl, _, _, rfl, rfl, p, 7 - least, rfl, Pl, by omega, by omega, fun v1 H1 k1 P1 a1 b1 => ?_⟩
    refine ⟨_, _, rfl, rfl, _, rfl, by omega, by omega, ?_⟩
    refine for_range (lo := 0) (n := (least + v1).toNat) (fun i σ H' => ∃ y3 y4 y5 xs, σ = [some (.ref p), some (.int least), some (.ref l), y3, y4, y5] ∧ Kp p H H' ∧ PenAt H' p ∧ H' l = some (.lst xs) ∧ xs.length = i ∧ ∀ x ∈ xs, PersonAt H' x)
      ⟨none, none, none, [], rfl, (Kp.new hl _).trans k1, P1, k1 _ _ nl upd_same, rfl, am0⟩ ?_ ?_
    · rintro i σ H' hi ⟨y3, y4, y5, xs, rfl, k', P', el, ln, ps⟩
      -- born
      refine ⟨_, rfl, p, 9, rfl, P', by decide, by decide, fun v2 H2 k2 P2 a2 b2 => ⟨_, _, rfl, rfl, ?_⟩⟩
      refine ⟨_, rfl, p, 19998, rfl, P2, by decide, by decide, fun v3 H3 k3 P3 a3 b3 => ⟨_, _, rfl, rfl, ?_⟩⟩
      refine ⟨_, rfl, (by show 3 ≤ sizeLine; decide), fun m hm => ?_⟩
      refine ⟨_, rfl, p, 3, rfl, P3.new hm _, by decide, by decide, fun v4 H4 k4 P4 a4 b4 => ?_⟩
      obtain ⟨_, g5, n5, rfl, a5, b5⟩ := pick (xs := [.int (v2 - 4), .int (v3 - 9999), .int (-9999)]) (Within (-9999) 9998) a4 b4 (am1 ⟨_, rfl, by omega, by omega⟩ (am1 ⟨_, rfl, by omega, by omega⟩ (am1 ⟨_, rfl, by omega, by omega⟩ am0)))
      refine ⟨m, _, v4, _, rfl, rfl, SqL.of (k4 _ _ (P3.free hm) upd_same), g5, ?_⟩
      have kA : Kp p H' H4 := k2.trans (k3.trans ((Kp.new hm _).trans k4))
      -- died
      refine ⟨_, rfl, _, _, rfl, rfl, ?_⟩
      refine ⟨_, rfl, p, 12, rfl, P4, by decide, by decide, fun v6 H6 k6 P6 a6 b6 => ?_⟩
      refine ⟨_, rfl, p, 9999, rfl, P6, by decide, by decide, fun v7 H7 k7 P7 a7 b7 => ?_⟩
      refine ⟨(by show 2 ≤ sizeLine; decide), fun m2 hm2 => ?_⟩
      refine ⟨_, rfl, p, 2, rfl, P7.new hm2 _, by decide, by decide, fun v8 H8 k8 P8 a8 b8 => ?_⟩
      obtain ⟨_, g9, n9, rfl, a9, b9⟩ := pick (xs := [.int v6, .int v7]) (Within 0 9998) a8 b8 (am1 ⟨_, rfl, by omega, by omega⟩ (am1 ⟨_, rfl, by omega, by omega⟩ am0))
      refine ⟨m2, _, v8, _, rfl, rfl, SqL.of (k8 _ _ (P7.free hm2) upd_same), g9, _, _, rfl, rfl, _, _, rfl, ?_⟩
      have kB : Kp p H4 H8 := k6.trans (k7.trans ((Kp.new hm2 _).trans k8))
      have hd : n5 < (if n5 + 1 + n9 < 9999 then n5 + 1 + n9 else 9999) ∧ (if n5 + 1 + n9 < 9999 then n5 + 1 + n9 else 9999) ≤ 9999 := by
        split <;> omega
      generalize (if n5 + 1 + n9 < 9999 then n5 + 1 + n9 else 9999) = dd at hd
      have kC := kA.trans kB
      have el8 := kC _ _ nl el
      -- found.append((born, ..))
      refine ⟨_, rfl, .inl ⟨rfl, _, SqL.of el8⟩, _, rfl, _, rfl, (by show 2 ≤ sizeLine; decide), fun m3 hm3 => ?_⟩
      refine ⟨_, rfl, p, 2, rfl, P8.new hm3 _, by decide, by decide, fun v10 H10 k10 P10 a10 b10 => ?_⟩
      obtain ⟨vd, g11, hvd⟩ := pick (xs := [.non, .int dd]) (fun d => d = .non ∨ ∃ i : Int, d = .int i ∧ n5 < i ∧ i ≤ 9999) a10 b10 (am1 (.inl rfl) (am1 (.inr ⟨_, rfl, hd⟩) am0))
      refine ⟨m3, _, v10, _, rfl, rfl, SqL.of (k10 _ _ (P8.free hm3) upd_same), g11, (by show 2 ≤ sizeLine; decide), fun t ht => ?_⟩
      have kD := (kC.trans ((Kp.new hm3 _).trans k10)).trans (Kp.new (p := p) ht (.tup [.int n5, vd]))
      have elD := kD _ _ nl el
      have PD : PenAt (upd H10 t (.tup [.int n5, vd])) p := P10.new ht _
      refine ⟨l, _, _, rfl, rfl, elD, small1000 (by omega), ?_⟩
      have kE : ∀ b o, b ≠ p → b ≠ l → H' b = some o → (upd (upd H10 t (.tup [.int n5, vd])) l (.lst (xs ++ [.ref t]))) b = some o := fun b o n1 n2 e => by
        rw [upd_ne n2]
        exact kD _ _ n1 e
      have ntl : t ≠ l := fun z => by
        have := (kC.trans ((Kp.new hm3 _).trans k10)) _ _ nl el
        rw [z, this] at ht
        cases ht
      refine ⟨_, _, _, xs ++ [.ref t], rfl, fun b o n1 e => ?_, ?_, upd_same, ?_, fun x hx => ?_⟩
      · by_cases hb : b = l
        · rw [hb, hl] at e
          cases e
        · exact kE b o n1 hb (k' _ _ n1 e)
      · obtain ⟨x1, x2, x3, x4, e1, e2⟩ := PD
        exact ⟨x1, x2, x3, x4, by rw [upd_ne nl.symm]; exact e1, e2⟩
      · rw [List.length_append, ln]
        rfl
      · rcases List.mem_append.mp hx with hx | hx
        · obtain ⟨a, b, d, e, h1, r⟩ := ps x hx
          exact ⟨a, b, d, e, kE _ _ (P'.ne h1 fun _ z => by cases z) (fun z => by rw [z, el] at h1; cases h1) h1, r⟩
        · rw [List.mem_singleton.mp hx]
          exact ⟨t, n5, vd, rfl, by rw [upd_ne ntl, upd_same], by omega, by omega, hvd⟩
    · rintro σ H' ⟨y3, y4, y5, xs, rfl, k', P', el, ln, ps⟩
      refine ⟨_, rfl, l, xs, rfl, .inl ⟨SqL.of el, fun t ht => ?_⟩⟩
      have kF : Kp p H' (upd H' t (.tup xs)) := Kp.new ht _
      exact q t (least + v1).toNat _ (k'.trans kF) (P'.new ht _) ⟨xs, upd_same, ln, fun x hx => (ps x hx).kp kF P'⟩ (by omega) (by omega)
end
end Deed

namespace Deed
open PySem PySem.Spec PyProof.Rows L2
theorem seqIx {i : Int} {n : Nat} (h0 : 0 ≤ i) (h1 : i < n) : seqIndex? i n = some i.toNat := seqIndex_of h0 h1
theorem rising_of {l : List Int} (hn : l.Nodup) (hp : l.Pairwise (· ≤ ·)) : l.Pairwise (· < ·) := by
  induction l with
  | nil => exact .nil
  | cons x r ih =>
    have h1 := List.nodup_cons.mp hn
    have h2 := List.pairwise_cons.mp hp
    refine List.pairwise_cons.mpr ⟨fun y hy => ?_, ih h1.2 h2.2⟩
    have h3 := h2.1 y hy
    have h4 : x ≠ y := fun e => h1.1 (e ▸ hy)
    omega
theorem perm_erase {α : Type} {l : List α} {k : Nat} {y : α} (h : l[k]? = some y) : (y :: l.eraseIdx k).Perm l := by
  induction l generalizing k with
  | nil => simp at h
  | cons a r ih =>
    cases k with
    | zero =>
      have e : a = y := by simpa using h
      subst e
      exact List.Perm.refl _
    | succ k =>
      have h' : r[k]? = some y := by simpa using h
      show (y :: a :: r.eraseIdx k).Perm (a :: r)
      exact (List.Perm.swap a y _).trans ((ih h').cons a)
theorem erase_map {α β : Type} (f : α → β) : ∀ (l : List α) (k : Nat), (l.map f).eraseIdx k = (l.eraseIdx k).map f
  | [], _ => rfl
  | _ :: _, 0 => rfl
  | a :: r, k + 1 => congrArg (List.cons (f a)) (erase_map f r k)
section
variable {P : Program} {w : World} {K : PySem.W.Frag} {mg : Str → Option Value} {base : Heap} {fDr : Addr} {dDr : FuncData}
/-! ### a few of some -/
abbrev sFew : Stmt := topS 31
theorem scFew : FnScope ["_law_pen_here", "_law_some", "_law_most", "_law_left", "_law_found", "_law_k"] ["_law_pen_here", "_law_some", "_law_most"] (defScope sFew) := ⟨rfl, rfl, rfl, by decide +kernel, rfl, by decide +kernel, by decide +kernel⟩
def spFew (K : PySem.W.Frag) : Sp := fun vs H Q _ => ∃ (p a : Addr) (most : Int) (ns : List Int), vs = [.ref p, .ref a, .int most] ∧ PenAt H p ∧ SqL K H a (ns.map V.int) ∧ 0 ≤ most ∧ most ≤ 1000 ∧ ns.length ≤ 1000 ∧
  ∀ t (rs ls : List Int) H', Kp p H H' → PenAt H' p → H' t = some (.tup (rs.map V.int)) → (rs ++ ls).Perm ns → rs.Pairwise (· ≤ ·) → rs.length ≤ most → Q (.ref t) H'
theorem ok_few {f : Addr} {fd : FuncData} {k : Nat} (F : Fun K "_law_few" "_law_few" sFew f fd) (D : DrawD K mg fDr dDr) (mr : mg "range" = none) (mm : mg "min" = none) (mt : mg "tuple" = none) (ml : mg "list" = none) (mn : mg "len" = none) (ms : mg "sorted" = none) :
    FnOk P w K mg base CX0 (k + 2) f fd ["_law_pen_here", "_law_some", "_law_most"] (spFew K) := by
  have G : FnOk P w K mg base CX0 (k + 1) fDr dDr ["_law_pen_here", "_law_bound"] spDraw := ok_draw D.F
  refine F.ok scFew (fun vs H Q E h => ?_) (fun cdv A outer s H vs Q E hr h => ?_)
  · obtain ⟨p, a, most, ns, rfl, _⟩ := h
    rfl
  · obtain ⟨p, a, most, ns, rfl, hP, hS, hm0, hm1, hn1, q⟩ := h
    refine ⟨_, pss_cons (ps_par (i := 3) (j := 4) (by rfl) scFew.nd rfl rfl (by decide) rfl rfl (pa_cons (pe_callTy call_list_of (by rfl) ml (by decide +kernel) (pa_cons (pv 1) pa_nil)) (pa_cons (pe_lst pa_nil) pa_nil)) (by rfl))
      (pss_cons (ps_for PassesOwn.never rfl (pi_range1 rfl mr (pa_cons (pe_callB (call_min2 rfl) (by rfl) mm (by decide +kernel) (pa_cons (pe_callB call_len_seq (by rfl) mn PySem.boot_len (pa_cons (pv 3) pa_nil)) (pa_cons (pe_call G hr (by rfl) D.g D.F.kp D.b .nil pass0 (pa_cons (pv 0) (pa_cons (pe_op op_add (pv 2) pe_int) pa_nil))) pa_nil))) pa_nil)) (pg_name (i := 5) scFew.nd rfl (.inl rfl))
        (pss_one (ps_expr (pe_bm PySem.F.plainAttrs_list PySem.F.slot_list_append PySem.F.type_list_append mt_append (pv 4) (pa_cons (pe_bm PySem.F.plainAttrs_list PySem.F.slot_list_pop PySem.F.type_list_pop mt_popAt (pv 3) (pa_cons (pe_call G hr (by rfl) D.g D.F.kp D.b .nil pass0 (pa_cons (pv 0) (pa_cons (pe_callB call_len_seq (by rfl) mn PySem.boot_len (pa_cons (pv 3) pa_nil)) pa_nil))) pa_nil)) pa_nil)))))
      (pss_one (ps_ret (pe_callTy call_tuple_of (by rfl) mt (by decide +kernel) (pa_cons (pe_callB cr_sortedI (by rfl) ms (by decide +kernel) (pa_cons (pv 4) pa_nil)) pa_nil))))), ?_⟩
    refine ⟨_, rfl, a, _, rfl, .inl hS, fun l hl => ?_⟩
    have Pl : PenAt (upd H l (.lst (ns.map V.int))) p := hP.new hl _
    have nl : l ≠ p := hP.free hl
    refine ⟨Nat.zero_le _, fun g hg => ⟨_, _, rfl, ?_⟩⟩
    have ng : g ≠ p := Pl.free hg
    have nlg : l ≠ g := fun z => by
      rw [← z, upd_same] at hg
      cases hg
    have Pg := Pl.new hg (.lst [])
    have el : (upd (upd H l (.lst (ns.map V.int))) g (.lst [])) l = some (.lst (ns.map V.int)) := by rw [upd_ne nlg, upd_same]
    refine ⟨_, rfl, l, _, rfl, .inl (SqL.of el), _, rfl, _, rfl, _, _, rfl, rfl, p, most + 1, rfl, Pg, by omega, by omega, fun v1 H1 k1 P1 a1 b1 => ?_⟩
    have hlen : (ns.map V.int).length = ns.length := List.length_map _
    refine ⟨_, _, rfl, ?_⟩
    rw [hlen]
    have hj : 0 ≤ (if v1 < (ns.length : Int) then v1 else (ns.length : Int)) ∧ (if v1 < (ns.length : Int) then v1 else (ns.length : Int)) ≤ ns.length ∧ (if v1 < (ns.length : Int) then v1 else (ns.length : Int)) ≤ most := by
      split <;> omega
    generalize (if v1 < (ns.length : Int) then v1 else (ns.length : Int)) = j at hj
    refine ⟨_, rfl, by omega, by omega, ?_⟩
    have k0 : Kp p H H1 := ((Kp.new hl _).trans (Kp.new hg _)).trans k1
    refine for_range (lo := 0) (n := j.toNat) (fun i σ H' => ∃ y5, ∃ rs ls : List Int, σ = [some (.ref p), some (.ref a), some (.int most), some (.ref l), some (.ref g), y5] ∧ Kp p H H' ∧ PenAt H' p ∧ H' l = some (.lst (ls.map V.int)) ∧ H' g = some (.lst (rs.map V.int)) ∧ rs.length = i ∧ (rs ++ ls).Perm ns)
      ⟨none, [], ns, rfl, k0, P1, k1 _ _ nl el, k1 _ _ ng upd_same, rfl, List.Perm.refl _⟩ ?_ ?_
    · rintro i σ H' hi ⟨y5, rs, ls, rfl, k', P', e1, e2, hrl, hpm⟩
      have hll : ls.length = ns.length - i := by
        have := hpm.length_eq
        rw [List.length_append] at this
        omega
      have hml : (ls.map V.int).length = ls.length := List.length_map _
      refine ⟨_, rfl, .inl ⟨rfl, _, SqL.of e2⟩, _, rfl, .inl ⟨rfl, _, SqL.of e1⟩, _, rfl, _, rfl, l, _, rfl, .inl (SqL.of e1), p, _, rfl, P', by omega, by omega, fun v2 H2 k2 P2 a2 b2 => ?_⟩
      rw [hml] at b2
      have e1' := k2 _ _ nl e1
      have e2' := k2 _ _ ng e2
      have hk : v2.toNat < ls.length := by omega
      refine ⟨l, _, v2, v2.toNat, .int ls[v2.toNat], rfl, rfl, e1', by omega, by omega, seqIx a2 (by rw [hml]; omega), by rw [List.getElem?_map, List.getElem?_eq_getElem hk] <;> rfl, ?_⟩
      have e2'' : (upd H2 l (.lst ((ls.map V.int).eraseIdx v2.toNat))) g = some (.lst (rs.map V.int)) := by rw [upd_ne nlg.symm]; exact e2'
      refine ⟨g, _, _, rfl, rfl, e2'', small1000 (by rw [List.length_map]; omega), ?_⟩
      refine ⟨_, rs ++ [ls[v2.toNat]], ls.eraseIdx v2.toNat, rfl, fun b o n1 e => ?_, ?_, ?_, ?_, ?_, ?_⟩
      · rw [upd_ne (ne_of_none e (show H g = none by rw [upd_ne nlg.symm] at hg; exact hg)), upd_ne (ne_of_none e hl)]
        exact (k'.trans k2) _ _ n1 e
      · obtain ⟨x1, x2, x3, x4, z1, z2⟩ := P2
        exact ⟨x1, x2, x3, x4, by rw [upd_ne ng.symm, upd_ne nl.symm]; exact z1, z2⟩
      · rw [upd_ne nlg, upd_same, erase_map]
      · rw [upd_same, List.map_append]
        rfl
      · rw [List.length_append, hrl]
        rfl
      · have h1 : (ls[v2.toNat] :: ls.eraseIdx v2.toNat).Perm ls := perm_erase (List.getElem?_eq_getElem hk)
        refine List.Perm.trans ?_ hpm
        rw [List.append_assoc]
        exact (List.Perm.append_left rs h1)
    · rintro σ H' ⟨y5, rs, ls, rfl, k', P', e1, e2, hrl, hpm⟩
      refine ⟨_, rfl, g, rs, rfl, SqL.of e2, fun rs' m pm up hm => ?_⟩
      have hm' : (upd H' m (.lst (rs'.map V.int))) m = some (.lst (rs'.map V.int)) := upd_same
      refine ⟨m, _, rfl, .inl ⟨SqL.of hm', fun t ht => ?_⟩⟩
      refine q t rs' ls _ (k'.trans ((Kp.new hm _).trans (Kp.new ht _))) ((P'.new hm _).new ht _) upd_same ((List.Perm.append_right ls pm).trans hpm) up ?_
      rw [pm.length_eq, hrl]
      omega
end
end Deed

namespace Deed
open PySem PySem.Spec PyProof.Rows L2
/-! ### lists of ints compared -/
theorem dp_ints {K : PySem.W.Frag} {H : Hp} : ∀ ns : List Int, DpAll K H (ns.map V.int) (ns.map PyData.int)
  | [] => .nil
  | n :: r => .cons (.int n) (dp_ints r)
theorem lay_ints : ∀ ns : List Int, PyData.canLayAll0 (ns.map PyData.int) = true
  | [] => by simp [PyData.canLayAll0]
  | n :: r => by simp [PyData.canLayAll0, PyData.canLay0, lay_ints r]
theorem depth_ints : ∀ ns : List Int, PyData.depthAll (ns.map PyData.int) ≤ 1
  | [] => by simp [PyData.depthAll]
  | n :: r => by
    have h := depth_ints r
    simp only [List.map_cons, PyData.depthAll, PyData.depth]
    omega
theorem shaped_ints (ns : List Int) : SeqAt.shaped (.list (ns.map PyData.int)) = true := by
  have h1 := depth_ints ns
  have h2 : PyData.depth (.list (ns.map PyData.int)) ≤ 64 := by
    simp only [PyData.depth]
    omega
  show (PyData.canLay0 (.list (ns.map PyData.int)) && decide (PyData.depth (.list (ns.map PyData.int)) ≤ 64)) = true
  rw [Bool.and_eq_true]
  exact ⟨by simp only [PyData.canLay0]; exact lay_ints ns, decide_eq_true h2⟩
theorem eqvAll_ints : ∀ ns ms : List Int, PyData.eqvAll (ns.map PyData.int) (ms.map PyData.int) = decide (ns = ms)
  | [], [] => by simp [PyData.eqvAll]
  | [], _ :: _ => by simp [PyData.eqvAll]
  | _ :: _, [] => by simp [PyData.eqvAll]
  | n :: r, m :: q => by
    simp only [List.map_cons, PyData.eqvAll, PyData.eqv, eqvAll_ints r q]
    by_cases h : n = m
    · subst h
      simp
    · simp [h]
theorem eqv_ints (ns ms : List Int) : PyData.eqv (.list (ns.map PyData.int)) (.list (ms.map PyData.int)) = decide (ns = ms) := by
  simp only [PyData.eqv]
  exact eqvAll_ints ns ms
theorem mem_inV {n : Int} {ns : List Int} : inV (.int n) (ns.map V.int) = decide (n ∈ ns) := by
  induction ns with
  | nil => simp [inV]
  | cons m r ih =>
    have e : inV (.int n) ((m :: r).map V.int) = (eqV (.int m) (.int n) || inV (.int n) (r.map V.int)) := by simp [inV]
    have e2 : eqV (.int m) (.int n) = decide (m = n) := by
      first | rfl | simp [eqV] | (unfold eqV; simp)
    rw [e, ih, e2]
    by_cases h : m = n
    · subst h
      simp
    · have h' : ¬ n = m := fun z => h z.symm
      simp [h, h']
theorem flat_ints (ns : List Int) : (ns.map V.int).all flatV = true := by
  induction ns with
  | nil => rfl
  | cons n r ih =>
    rw [List.map_cons, List.all_cons, ih]
    rfl
/-! ### entries -/
inductive Kd where
  | deed (g t : Int) (rs ws : List Int)
  | act (x : Str) (o : Int)
structure En where
  num : Int
  day : Int
  wri : Int
  hand : Int
  kd : Kd
def En.isDeed (e : En) : Bool := match e.kd with
  | .deed _ _ _ _ => true
  | .act _ _ => false
/-- the entry e at the address a -/
def EntAt (H : Hp) (a : Addr) (e : En) : Prop := match e.kd with
  | .deed g t rs ws => ∃ r w : Addr, H a = some (.tup [.int e.num, .int e.day, .int e.wri, .int e.hand, .str "deed", .int g, .int t, .ref r, .ref w]) ∧ H r = some (.tup (rs.map V.int)) ∧ H w = some (.tup (ws.map V.int))
  | .act x o => H a = some (.tup [.int e.num, .int e.day, .int e.wri, .int e.hand, .str x, .int o])
/-- all that isn't a list is kept -/
def KpT (H H' : Hp) : Prop := ∀ b xs, H b = some (.tup xs) → H' b = some (.tup xs)
theorem Kp.tup {p : Addr} {H H' : Hp} (k : Kp p H H') (P : PenAt H p) : KpT H H' := fun b xs e => k _ _ (P.ne e fun _ z => by cases z) e
theorem Same.tup {H H' : Hp} (k : Same H H') : KpT H H' := fun b xs e => k _ _ e
theorem KpT.trans {H H1 H2 : Hp} (a : KpT H H1) (b : KpT H1 H2) : KpT H H2 := fun c o h => b c o (a c o h)
theorem EntAt.kp {H H' : Hp} {a : Addr} {e : En} (h : EntAt H a e) (k : KpT H H') : EntAt H' a e := by
  unfold EntAt at h ⊢
  cases hk : e.kd with
  | deed g t rs ws =>
    rw [hk] at h
    obtain ⟨r, w, h1, h2, h3⟩ := h
    exact ⟨r, w, k _ _ h1, k _ _ h2, k _ _ h3⟩
  | act x o =>
    rw [hk] at h
    exact k _ _ h
def EnOk (n : Nat) (ds as : List Int) (e : En) : Prop := (0 ≤ e.day ∧ e.day ≤ 9999) ∧ (0 ≤ e.wri ∧ e.wri ≤ 9999) ∧ (0 ≤ e.hand ∧ e.hand ≤ 3) ∧ match e.kd with
  | .deed g t rs ws => (0 ≤ g ∧ g < n) ∧ (0 ≤ t ∧ t < n) ∧ g ≠ t ∧ rs.length ≤ 2 ∧ rs.Pairwise (· < ·) ∧ (∀ r ∈ rs, r ∈ ds ∧ r < e.num) ∧ ws.length ≤ 3 ∧ ws.Pairwise (· < ·) ∧ ∀ x ∈ ws, 0 ≤ x ∧ x < n ∧ x ≠ g ∧ x ≠ t
  | .act x o => ((x = "undone" ∧ o ∈ as) ∨ ((x = "paid" ∨ x = "void") ∧ o ∈ ds)) ∧ o < e.num
theorem EnOk.mono {n : Nat} {ds as ds' as' : List Int} {e : En} (h : EnOk n ds as e) (h1 : ∀ x ∈ ds, x ∈ ds') (h2 : ∀ x ∈ as, x ∈ as') : EnOk n ds' as' e := by
  unfold EnOk at h ⊢
  obtain ⟨a, b, c, d⟩ := h
  refine ⟨a, b, c, ?_⟩
  cases hk : e.kd with
  | deed g t rs ws =>
    rw [hk] at d
    obtain ⟨d1, d2, d3, d4, d5, d6, d7⟩ := d
    exact ⟨d1, d2, d3, d4, d5, fun r hr => ⟨h1 _ (d6 r hr).1, (d6 r hr).2⟩, d7⟩
  | act x o =>
    rw [hk] at d
    obtain ⟨d1, d2⟩ := d
    refine ⟨?_, d2⟩
    rcases d1 with ⟨z, m⟩ | ⟨z, m⟩
    · exact .inl ⟨z, h2 _ m⟩
    · exact .inr ⟨z, h1 _ m⟩
section
variable {P : Program} {w : World} {K : PySem.W.Frag} {mg : Str → Option Value} {base : Heap} {fDr fFe fDy fDe : Addr} {dDr dFe dDy dDe : FuncData}
abbrev FewD (K : PySem.W.Frag) (mg : Str → Option Value) := Df K mg "_law_few" sFew ["_law_pen_here", "_law_some", "_law_most"]
abbrev DayD (K : PySem.W.Frag) (mg : Str → Option Value) := Df K mg "_law_day" sDay ["_law_pen_here"]
/-- the built-ins' names are the built-ins' -/
structure Bi (mg : Str → Option Value) : Prop where
  range : mg "range" = none
  min : mg "min" = none
  max : mg "max" = none
  tuple : mg "tuple" = none
  list : mg "list" = none
  len : mg "len" = none
  sorted : mg "sorted" = none
  int : mg "int" = none
/-! ### what stands behind a deed's word -/
abbrev sDeed : Stmt := topS 32
abbrev nDeed : List Str := ["_law_pen_here", "_law_folk_here", "_law_deeds", "_law_giver", "_law_taker", "_law_others", "_law_one"]
theorem scDeed : FnScope nDeed ["_law_pen_here", "_law_folk_here", "_law_deeds"] (defScope sDeed) := ⟨rfl, rfl, rfl, by decide +kernel, rfl, by decide +kernel, by decide +kernel⟩
def spDeed (K : PySem.W.Frag) : Sp := fun vs H Q _ => ∃ (p fk ld : Addr) (n : Nat) (ds : List Int), vs = [.ref p, .ref fk, .ref ld] ∧ PenAt H p ∧ FolkAt H fk n ∧ 2 ≤ n ∧ n ≤ 6 ∧ H ld = some (.lst (ds.map V.int)) ∧ ld ≠ p ∧ ds.Nodup ∧ ds.length ≤ 1000 ∧
  ∀ a r x (g t : Int) (rs ws : List Int) H', Kp p H H' → PenAt H' p → H' a = some (.tup [.int g, .int t, .ref r, .ref x]) → H' r = some (.tup (rs.map V.int)) → H' x = some (.tup (ws.map V.int)) →
    (0 ≤ g ∧ g < n) → (0 ≤ t ∧ t < n) → g ≠ t → rs.length ≤ 2 → rs.Pairwise (· < ·) → (∀ r ∈ rs, r ∈ ds) → ws.length ≤ 3 → ws.Pairwise (· < ·) → (∀ y ∈ ws, 0 ≤ y ∧ y < n ∧ y ≠ g ∧ y ≠ t) → Q (.ref a) H'
theorem taker_ne {g v : Int} {n : Nat} (h2 : 2 ≤ n) (h6 : n ≤ 6) (hg : 0 ≤ g) (hg' : g < n) (hv : 0 ≤ v) (hv' : v < (n : Int) - 1) : 0 ≤ (g + 1 + v) % (n : Int) ∧ (g + 1 + v) % (n : Int) < n ∧ g ≠ (g + 1 + v) % (n : Int) := by
  have hn : n = 2 ∨ n = 3 ∨ n = 4 ∨ n = 5 ∨ n = 6 := by omega
  rcases hn with rfl | rfl | rfl | rfl | rfl <;> omega
theorem ok_deed {f : Addr} {fd : FuncData} {k : Nat} (F : Fun K "_law_deed" "_law_deed" sDeed f fd) (D : DrawD K mg fDr dDr) (DF : FewD K mg fFe dFe) (B : Bi mg) : FnOk P w K mg base CX0 (k + 3) f fd ["_law_pen_here", "_law_folk_here", "_law_deeds"] (spDeed K) := by
  have G : FnOk P w K mg base CX0 (k + 1) fDr dDr ["_law_pen_here", "_law_bound"] spDraw := ok_draw D.F
  have GF : FnOk P w K mg base CX0 (k + 2) fFe dFe ["_law_pen_here", "_law_some", "_law_most"] (spFew K) := ok_few DF.F D B.range B.min B.tuple B.list B.len B.sorted
  refine F.ok scDeed (fun vs H Q E h => ?_) (fun cdv A outer s H vs Q E hr h => ?_)
  · obtain ⟨p, fk, ld, n, ds, rfl, _⟩ := h
    rfl
  · obtain ⟨p, fk, ld, n, ds, rfl, hP, hF, hn2, hn6, hld, nld, hnd, hdl, q⟩ := h
    have hr1 : Room (k + 1) _ := hr.mono (Nat.le_succ _)
    obtain ⟨xs, hfk, hxl, hps⟩ := id hF
    refine ⟨_, pss_cons (ps_set (i := 3) scDeed.nd rfl (.inr rfl) (pe_call G hr1 (by rfl) D.g D.F.kp D.b .nil pass0 (pa_cons (pv 0) (pa_cons (pe_callB call_len_seq (by rfl) B.len PySem.boot_len (pa_cons (pv 1) pa_nil)) pa_nil))))
      (pss_cons (ps_set (i := 4) scDeed.nd rfl (.inr rfl) (pe_op op_mod (pe_op op_add (pe_op op_add (pv 3) pe_int) (pe_call G hr1 (by rfl) D.g D.F.kp D.b .nil pass0 (pa_cons (pv 0) (pa_cons (pe_op op_sub (pe_callB call_len_seq (by rfl) B.len PySem.boot_len (pa_cons (pv 1) pa_nil)) pe_int) pa_nil)))) (pe_callB call_len_seq (by rfl) B.len PySem.boot_len (pa_cons (pv 1) pa_nil))))
      (pss_cons (ps_setLc (i := 5) (own := [("_law_one", 6)]) (g := gName 6) (by rfl) scDeed.nd rfl rfl (sw_true rfl rfl rfl (by decide +kernel)) (pi_range1 (by rfl) B.range (pa_cons (pe_callB call_len_seq (by rfl) B.len PySem.boot_len (pa_cons (pv 1) pa_nil)) pa_nil)) (blkOk_by (own := [("_law_one", 6)]) (N := nDeed) (sc := defScope sDeed) (by decide +kernel)) (fun _ _ _ _ _ => pg_name (i := 6) scDeed.nd rfl (Or.inl rfl))
          (fun _ _ _ _ _ => pts_one (pt_cmpR (show OpR _ (compareOp .NotIn) (rIn K true) from op_notIn_seq) (pv 6) (pe_tup (pa_cons (pv 3) (pa_cons (pv 4) pa_nil))) (by rfl))) (fun _ _ _ _ _ => pv 6))
      (pss_one (ps_ret (pe_tup (pa_cons (pv 3) (pa_cons (pv 4) (pa_cons (pe_call GF hr (by rfl) DF.g DF.F.kp DF.b .nil pass0 (pa_cons (pv 0) (pa_cons (pv 2) (pa_cons pe_int pa_nil)))) (pa_cons (pe_call GF hr (by rfl) DF.g DF.F.kp DF.b .nil pass0 (pa_cons (pv 0) (pa_cons (pv 5) (pa_cons pe_int pa_nil)))) pa_nil))))))))), ?_⟩
    refine ⟨_, rfl, _, rfl, fk, xs, rfl, .inr (SqT.of hfk), p, _, rfl, hP, by omega, by omega, fun g H1 k1 P1 a1 b1 => ?_⟩
    have hfk1 := k1.tup hP _ _ hfk
    refine ⟨_, rfl, _, _, rfl, rfl, _, rfl, _, rfl, fk, xs, rfl, .inr (SqT.of hfk1), _, _, rfl, rfl, p, _, rfl, P1, by omega, by omega, fun v H2 k2 P2 a2 b2 => ?_⟩
    have hfk2 := k2.tup P1 _ _ hfk1
    refine ⟨_, _, rfl, rfl, _, rfl, fk, xs, rfl, .inr (SqT.of hfk2), _, _, rfl, rfl, by omega, ?_⟩
    rw [hxl] at b1 b2
    obtain ⟨t1, t2, t3⟩ := taker_ne hn2 hn6 a1 b1 a2 b2
    rw [hxl]
    dsimp only
    generalize (g + 1 + v) % (n : Int) = t at t1 t2 t3
    have k12 := k1.trans k2
    refine ⟨_, rfl, fk, xs, rfl, .inr (SqT.of hfk2), _, rfl, by omega, by omega, ?_⟩
    rw [hxl]
    refine fun o no => ?_
    have npo : o ≠ p := P2.free no
    refine lc_range (lo := 0) (n := ((n : Nat) : Int).toNat) (fun i H' => ∃ os : List Int, H' o = some (.lst (os.map V.int)) ∧ Kp p H H' ∧ PenAt H' p ∧ os.length ≤ i ∧ os.Pairwise (· < ·) ∧ ∀ y ∈ os, 0 ≤ y ∧ y < (i : Int) ∧ y ≠ g ∧ y ≠ t)
      ⟨[], upd_same, k12.trans (Kp.new no _), P2.new no _, Nat.le_refl _, .nil, fun _ h => nomatch h⟩ ?_ ?_
    · rintro i H' hi ⟨os, ho, k', P', hol, hup, hall⟩
      refine ⟨rfl, _, rfl, _, rfl, _, rfl, (by show 2 ≤ sizeLine; decide), fun u hu => ?_⟩
      have hu' : (upd H' u (.tup [.int g, .int t])) u = some (.tup [.int g, .int t]) := upd_same
      refine ⟨u, _, rfl, .inr (SqT.of hu'), rfl, rfl, _, rfl, ?_⟩
      have kU : Kp p H' (upd H' u (.tup [.int g, .int t])) := Kp.new hu _
      have hmem : inV (.int (0 + (i : Int))) [.int g, .int t] = decide ((0 + (i : Int)) ∈ [g, t]) := mem_inV (ns := [g, t])
      have ho' := kU _ _ npo ho
      refine ite2 (fun c => ?_) (fun c => ?_)
      · have c' : ¬ ((0 + (i : Int)) ∈ [g, t]) := by
          have c1 : (!inV (.int (0 + (i : Int))) [.int g, .int t]) = true := c
          rw [hmem] at c1
          simpa using c1
        refine ⟨_, rfl, _, ho', small1000 (by rw [List.length_map]; omega), os ++ [0 + (i : Int)], ?_, fun b z n1 e => ?_, ?_, ?_, ?_, ?_⟩
        · rw [upd_same, List.map_append]
          rfl
        · have nb : b ≠ o := fun z' => by
            have e' := k12 _ _ n1 e
            rw [z', no] at e'
            cases e'
          rw [upd_ne nb]
          exact (k'.trans kU) _ _ n1 e
        · obtain ⟨x1, x2, x3, x4, z1, z2⟩ := P'.new hu (.tup [.int g, .int t])
          exact ⟨x1, x2, x3, x4, by rw [upd_ne npo.symm]; exact z1, z2⟩
        · rw [List.length_append]
          show os.length + 1 ≤ i + 1
          omega
        · refine List.pairwise_append.mpr ⟨hup, List.pairwise_singleton _ _, fun x hx y hy => ?_⟩
          rw [List.mem_singleton.mp hy]
          have := hall x hx
          omega
        · intro y hy
          rcases List.mem_append.mp hy with hy | hy
          · have := hall y hy
            refine ⟨this.1, by omega, this.2.2⟩
          · rw [List.mem_singleton.mp hy]
            simp only [List.mem_cons, List.not_mem_nil, or_false, not_or] at c'
            refine ⟨by omega, by omega, c'.1, c'.2⟩
      · exact ⟨os, ho', k'.trans kU, P'.new hu _, by omega, hup, fun y hy => by
          have := hall y hy
          exact ⟨this.1, by omega, this.2.2⟩⟩
    · rintro H' ⟨os, ho, k', P', hol, hup, hall⟩
      refine ⟨_, rfl, _, rfl, ?_⟩
      refine ⟨_, rfl, _, rfl, p, ld, 2, ds, rfl, P', SqL.of (k' _ _ nld hld), by decide, by decide, hdl, fun r rs ls H3 k3 P3 hr3 pm3 up3 ln3 => ?_⟩
      refine ⟨_, rfl, _, rfl, p, o, 3, os, rfl, P3, SqL.of (k3 _ _ npo ho), by decide, by decide, by omega, fun x ws ms H4 k4 P4 hr4 pm4 up4 ln4 => ?_⟩
      refine ⟨(by show 4 ≤ sizeLine; decide), fun a ha => ?_⟩
      have k5 : Kp p H4 (upd H4 a (.tup [.int g, .int t, .ref r, .ref x])) := Kp.new ha _
      have nd3 : rs.Nodup := (List.nodup_append.mp (pm3.nodup_iff.mpr hnd)).1
      have ndo : os.Nodup := hup.imp fun h => by omega
      have nd4 : ws.Nodup := (List.nodup_append.mp (pm4.nodup_iff.mpr ndo)).1
      refine q a r x g t rs ws _ (k'.trans (k3.trans (k4.trans k5))) (P4.new ha _) upd_same (k5.tup P4 _ _ (k4.tup P3 _ _ hr3)) (k5.tup P4 _ _ hr4) ⟨a1, b1⟩ ⟨t1, t2⟩ t3 (by omega) (rising_of nd3 up3) (fun y hy => pm3.mem_iff.mp (List.mem_append_left _ hy)) (by omega) (rising_of nd4 up4) fun y hy => ?_
      have hm := hall y (pm4.mem_iff.mp (List.mem_append_left _ hy))
      exact ⟨hm.1, by omega, hm.2.2⟩
end
end Deed

namespace Deed
open PySem PySem.Spec PyProof.Rows L2
def rLenS (K : PySem.W.Frag) : List V → Hp → VK → Prop := fun xs H Q => ∃ p ys, xs = [.ref p] ∧ (SqL K H p ys ∨ SqT K H p ys) ∧ Q (.int ys.length) H
section
variable {P : Program} {w : World} {K : PySem.W.Frag} {mg : Str → Option Value} {base : Heap} {fDr fFe fDy fDe : Addr} {dDr dFe dDy dDe : FuncData}
abbrev DeedD (K : PySem.W.Frag) (mg : Str → Option Value) := Df K mg "_law_deed" sDeed ["_law_pen_here", "_law_folk_here", "_law_deeds"]
/-! ### an entry -/
abbrev sEntry : Stmt := topS 33
abbrev nEntry : List Str := ["_law_pen_here", "_law_folk_here", "_law_number", "_law_deeds", "_law_acts", "_law_head", "_law_way", "_law_word"]
abbrev pEntry : List Str := ["_law_pen_here", "_law_folk_here", "_law_number", "_law_deeds", "_law_acts"]
theorem scEntry : FnScope nEntry pEntry (defScope sEntry) := ⟨rfl, rfl, rfl, by decide +kernel, rfl, by decide +kernel, by decide +kernel⟩
def spEntry (K : PySem.W.Frag) : Sp := fun vs H Q _ => ∃ (p fk ld la : Addr) (num : Int) (n : Nat) (ds as : List Int), vs = [.ref p, .ref fk, .int num, .ref ld, .ref la] ∧ PenAt H p ∧ FolkAt H fk n ∧ 2 ≤ n ∧ n ≤ 6 ∧ H ld = some (.lst (ds.map V.int)) ∧ ld ≠ p ∧ H la = some (.lst (as.map V.int)) ∧ la ≠ p ∧ ds.Nodup ∧ ds.length ≤ 1000 ∧ as.length ≤ 1000 ∧
  (∀ d ∈ ds, d < num) ∧ (∀ d ∈ as, d < num) ∧ ∀ a (e : En) H', Kp p H H' → PenAt H' p → EntAt H' a e → e.num = num → EnOk n ds as e → Q (.ref a) H'
theorem ok_entry {f : Addr} {fd : FuncData} {k : Nat} (F : Fun K "_law_entry" "_law_entry" sEntry f fd) (D : DrawD K mg fDr dDr) (DF : FewD K mg fFe dFe) (DY : DayD K mg fDy dDy) (DD : DeedD K mg fDe dDe) (B : Bi mg) : FnOk P w K mg base CX0 (k + 4) f fd pEntry (spEntry K) := by
  have G : FnOk P w K mg base CX0 (k + 1) fDr dDr ["_law_pen_here", "_law_bound"] spDraw := ok_draw D.F
  have GY : FnOk P w K mg base CX0 (k + 2) fDy dDy ["_law_pen_here"] spDay := ok_day DY.F D
  have GD : FnOk P w K mg base CX0 (k + 3) fDe dDe ["_law_pen_here", "_law_folk_here", "_law_deeds"] (spDeed K) := ok_deed DD.F D DF B
  refine F.ok scEntry (fun vs H Q E h => ?_) (fun cdv A outer s H vs Q E hr h => ?_)
  · obtain ⟨p, fk, ld, la, num, n, ds, as, rfl, _⟩ := h
    rfl
  · obtain ⟨p, fk, ld, la, num, n, ds, as, rfl, hP, hF, hn2, hn6, hld, nld, hla, nla, hnd, hdl, hal, hdn, han, q⟩ := h
    have hr1 : Room (k + 1) _ := hr.mono (by omega)
    have hr2 : Room (k + 2) _ := hr.mono (by omega)
    refine ⟨_, pss_cons (ps_set (i := 5) scEntry.nd rfl (.inl rfl) (pe_tup (pa_cons (pv 2) (pa_cons (pe_call GY hr2 (by rfl) DY.g DY.F.kp DY.b .nil pass0 (pa_cons (pv 0) pa_nil)) (pa_cons (pe_call GY hr2 (by rfl) DY.g DY.F.kp DY.b .nil pass0 (pa_cons (pv 0) pa_nil)) (pa_cons (pe_call G hr1 (by rfl) D.g D.F.kp D.b .nil pass0 (pa_cons (pv 0) (pa_cons pe_int pa_nil))) pa_nil))))))
      (pss_cons (ps_set (i := 6) scEntry.nd rfl (.inl rfl) (pe_call G hr1 (by rfl) D.g D.F.kp D.b .nil pass0 (pa_cons (pv 0) (pa_cons pe_int pa_nil))))
      (pss_cons (ps_if (PW.pt (pw_or (pt_cmpR (op_eqD hr.units) (pv 3) (pe_lst pa_nil) (nomark _)) (pw_or1 (pt_cmpR op_lt (pv 6) pe_int (nomark _)))))
        (pss_one (ps_ret (pe_op op_catT (pe_op op_catT (pv 5) (pe_tup (pa_cons pe_str pa_nil))) (pe_call GD hr (by rfl) DD.g DD.F.kp DD.b .nil pass0 (pa_cons (pv 0) (pa_cons (pv 1) (pa_cons (pv 3) pa_nil))))))) pss_nil)
      (pss_cons (ps_if (PW.pt (pw_or (pt_cmpR (op_eqD hr.units) (pv 4) (pe_lst pa_nil) (nomark _)) (pw_or1 (pt_cmpR op_lt (pv 6) pe_int (nomark _)))))
        (pss_cons (ps_set (i := 7) scEntry.nd rfl (.inl rfl) (pe_ix ix_list (pe_lst (pa_cons pe_str (pa_cons pe_str pa_nil))) (pe_call G hr1 (by rfl) D.g D.F.kp D.b .nil pass0 (pa_cons (pv 0) (pa_cons pe_int pa_nil))) (fun _ _ => rfl)))
        (pss_one (ps_ret (pe_op op_catT (pv 5) (pe_tup (pa_cons (pv 7) (pa_cons (pe_ix ix_list (pv 3) (pe_call G hr1 (by rfl) D.g D.F.kp D.b .nil pass0 (pa_cons (pv 0) (pa_cons (pe_callB call_len_seq (by rfl) B.len PySem.boot_len (pa_cons (pv 3) pa_nil)) pa_nil))) (fun _ _ => rfl)) pa_nil))))))) pss_nil)
      (pss_one (ps_ret (pe_op op_catT (pv 5) (pe_tup (pa_cons pe_str (pa_cons (pe_ix ix_list (pv 4) (pe_call G hr1 (by rfl) D.g D.F.kp D.b .nil pass0 (pa_cons (pv 0) (pa_cons (pe_callB call_len_seq (by rfl) B.len PySem.boot_len (pa_cons (pv 4) pa_nil)) pa_nil))) (fun _ _ => rfl)) pa_nil))))))))), ?_⟩
    -- head
    refine ⟨_, rfl, _, rfl, p, rfl, hP, fun v1 H1 k1 P1 a1 b1 => ?_⟩
    refine ⟨_, rfl, p, rfl, P1, fun v2 H2 k2 P2 a2 b2 => ?_⟩
    refine ⟨_, rfl, p, 4, rfl, P2, by decide, by decide, fun v3 H3 k3 P3 a3 b3 => ?_⟩
    refine ⟨(by show 4 ≤ sizeLine; decide), fun h hh => ?_⟩
    have kh : Kp p H3 (upd H3 h (.tup [.int num, .int v1, .int v2, .int v3])) := Kp.new hh _
    have Ph := P3.new hh (.tup [.int num, .int v1, .int v2, .int v3])
    have eh : (upd H3 h (.tup [.int num, .int v1, .int v2, .int v3])) h = some (.tup [.int num, .int v1, .int v2, .int v3]) := upd_same
    have kA : Kp p H (upd H3 h (.tup [.int num, .int v1, .int v2, .int v3])) := k1.trans (k2.trans (k3.trans kh))
    generalize (upd H3 h (.tup [.int num, .int v1, .int v2, .int v3])) = Hh at kh Ph eh kA
    -- way
    refine ⟨_, rfl, p, 12, rfl, Ph, by decide, by decide, fun way H4 k4 P4 a4 b4 => ?_⟩
    have kB := kA.trans k4
    have e4 := k4.tup Ph _ _ eh
    -- deeds == []
    refine ⟨_, rfl, Nat.zero_le _, fun z hz => ?_⟩
    have kz : Kp p H4 (upd H4 z (.lst [])) := Kp.new hz _
    have Pz := P4.new hz (.lst [])
    have ez : (upd H4 z (.lst [])) z = some (.lst []) := upd_same
    have ehz := kz.tup P4 _ _ e4
    have kC := kB.trans kz
    generalize (upd H4 z (.lst [])) = Hz at kz Pz ez ehz kC
    refine ⟨.list (ds.map .int), .list (([] : List Int).map .int), .lst (SqL.of (kC _ _ nld hld)) (dp_ints ds), .lst (SqL.of ez) (dp_ints []), shaped_ints ds, shaped_ints [], _, rfl, ?_⟩
    rw [eqv_ints]
    refine ite2 (fun c => ?dw1) (fun c => (⟨_, rfl, _, _, rfl, rfl, _, rfl, ite2 (fun c2 => ?dw2) (fun c2 => ?nx)⟩))
    case nx =>
      have hdne : ds ≠ [] := fun e0 => c (decide_eq_true e0)
      have hdpos : 0 < ds.length := List.length_pos_iff.mpr hdne
      refine ⟨_, rfl, Nat.zero_le _, fun y hy => ?_⟩
      have ky : Kp p Hz (upd Hz y (.lst [])) := Kp.new hy _
      have Py := Pz.new hy (.lst [])
      have ey : (upd Hz y (.lst [])) y = some (.lst []) := upd_same
      have ehy := ky.tup Pz _ _ ehz
      have kD := kC.trans ky
      generalize (upd Hz y (.lst [])) = Hy at ky Py ey ehy kD
      refine ⟨.list (as.map .int), .list (([] : List Int).map .int), .lst (SqL.of (kD _ _ nla hla)) (dp_ints as), .lst (SqL.of ey) (dp_ints []), shaped_ints as, shaped_ints [], _, rfl, ?_⟩
      rw [eqv_ints]
      refine ite2 (fun c3 => ?pv1) (fun c3 => (⟨_, rfl, _, _, rfl, rfl, _, rfl, ite2 (fun c4 => ?pv2) (fun c4 => ?un)⟩))
      case un =>
        have hane : as ≠ [] := fun e0 => c3 (decide_eq_true e0)
        have hapos : 0 < as.length := List.length_pos_iff.mpr hane
        have hml : (as.map V.int).length = as.length := List.length_map _
        refine ⟨_, rfl, _, rfl, _, rfl, _, rfl, la, _, rfl, .inl (SqL.of (kD _ _ nla hla)), p, _, rfl, Py, by omega, by omega, fun i H5 k5 P5 a5 b5 => ?_⟩
        rw [hml] at b5
        have hk : i.toNat < as.length := by omega
        refine ⟨la, _, i, .int as[i.toNat], rfl, rfl, SqL.of ((kD.trans k5) _ _ nla hla), at_of (j := i.toNat) (by omega) (by rw [List.getElem?_map, List.getElem?_eq_getElem hk] <;> rfl), (by show 2 ≤ sizeLine; decide), fun u hu => ?_⟩
        have ku : Kp p H5 (upd H5 u (.tup [.str "undone", .int as[i.toNat]])) := Kp.new hu _
        refine ⟨h, u, _, _, rfl, rfl, SqT.of (ku.tup P5 _ _ (k5.tup Py _ _ ehy)), SqT.of upd_same, List.cons_ne_nil _ _, (by show 6 ≤ sizeLine; decide), fun z0 => absurd z0 (List.cons_ne_nil _ _), fun _ t ht => ?_⟩
        refine q t ⟨num, v1, v2, v3, .act "undone" as[i.toNat]⟩ _ (kD.trans (k5.trans (ku.trans (Kp.new ht _)))) ((P5.new hu _).new ht _) upd_same rfl ?_
        exact ⟨⟨a1, b1⟩, ⟨a2, b2⟩, ⟨a3, by show v3 ≤ 3; omega⟩, .inl ⟨rfl, List.getElem_mem hk⟩, han _ (List.getElem_mem hk)⟩
      all_goals
        refine ⟨(by show 2 ≤ sizeLine; decide), fun m hm => ?_⟩
        refine ⟨_, rfl, p, 2, rfl, Py.new hm _, by decide, by decide, fun v5 H5 k5 P5 a5 b5 => ?_⟩
        obtain ⟨_, g5, x, rfl, hx⟩ := pick (xs := [.str "paid", .str "void"]) (fun y => ∃ x : Str, y = .str x ∧ (x = "paid" ∨ x = "void")) a5 b5 (am1 ⟨_, rfl, .inl rfl⟩ (am1 ⟨_, rfl, .inr rfl⟩ am0))
        refine ⟨m, _, v5, _, rfl, rfl, SqL.of (k5 _ _ (Py.free hm) upd_same), g5, ?_⟩
        have kE := kD.trans ((Kp.new hm _).trans k5)
        have eh5 := k5.tup (Py.new hm _) _ _ ((Kp.new (p := p) hm _).tup Py _ _ ehy)
        have hml : (ds.map V.int).length = ds.length := List.length_map _
        refine ⟨_, rfl, _, rfl, _, rfl, _, rfl, _, rfl, ld, _, rfl, .inl (SqL.of (kE _ _ nld hld)), p, _, rfl, P5, by omega, by omega, fun i H6 k6 P6 a6 b6 => ?_⟩
        rw [hml] at b6
        have hk : i.toNat < ds.length := by omega
        refine ⟨ld, _, i, .int ds[i.toNat], rfl, rfl, SqL.of ((kE.trans k6) _ _ nld hld), at_of (j := i.toNat) (by omega) (by rw [List.getElem?_map, List.getElem?_eq_getElem hk] <;> rfl), (by show 2 ≤ sizeLine; decide), fun u hu => ?_⟩
        have ku : Kp p H6 (upd H6 u (.tup [.str x, .int ds[i.toNat]])) := Kp.new hu _
        refine ⟨h, u, _, _, rfl, rfl, SqT.of (ku.tup P6 _ _ (k6.tup P5 _ _ eh5)), SqT.of upd_same, List.cons_ne_nil _ _, (by show 6 ≤ sizeLine; decide), fun z0 => absurd z0 (List.cons_ne_nil _ _), fun _ t ht => ?_⟩
        refine q t ⟨num, v1, v2, v3, .act x ds[i.toNat]⟩ _ (kE.trans (k6.trans (ku.trans (Kp.new ht _)))) ((P6.new hu _).new ht _) upd_same rfl ?_
        exact ⟨⟨a1, b1⟩, ⟨a2, b2⟩, ⟨a3, by show v3 ≤ 3; omega⟩, .inr ⟨hx, List.getElem_mem hk⟩, hdn _ (List.getElem_mem hk)⟩
    all_goals
      refine ⟨_, rfl, (by show 1 ≤ sizeLine; decide), fun u hu => ?_⟩
      have ku : Kp p Hz (upd Hz u (.tup [.str "deed"])) := Kp.new hu _
      refine ⟨h, u, _, _, rfl, rfl, SqT.of (ku.tup Pz _ _ ehz), SqT.of upd_same, List.cons_ne_nil _ _, (by show 5 ≤ sizeLine; decide), fun z0 => absurd z0 (List.cons_ne_nil _ _), fun _ t ht => ?_⟩
      have Pu := Pz.new hu (.tup [.str "deed"])
      have kt : Kp p (upd Hz u (.tup [.str "deed"])) (upd (upd Hz u (.tup [.str "deed"])) t (.tup ([.int num, .int v1, .int v2, .int v3] ++ [.str "deed"]))) := Kp.new ht _
      have Pt := Pu.new ht (.tup ([.int num, .int v1, .int v2, .int v3] ++ [.str "deed"]))
      have kE := kC.trans (ku.trans kt)
      refine ⟨_, rfl, _, rfl, _, rfl, p, fk, ld, n, ds, rfl, Pt, hF.kp kE hP, hn2, hn6, kE _ _ nld hld, nld, hnd, hdl, fun a r x g tk rs ws H6 k6 P6 ea er ex hg htk hgt hrl hrp hrd hwl hwp hw => ?_⟩
      have et6 := k6.tup Pt _ _ (upd_same (H := upd Hz u (.tup [.str "deed"])) (a := t))
      refine ⟨t, a, _, _, rfl, rfl, SqT.of et6, SqT.of ea, List.cons_ne_nil _ _, (by show 9 ≤ sizeLine; decide), fun z0 => absurd z0 (List.cons_ne_nil _ _), fun _ b hb => ?_⟩
      have kb : Kp p H6 (upd H6 b (.tup (([.int num, .int v1, .int v2, .int v3] ++ [.str "deed"]) ++ [.int g, .int tk, .ref r, .ref x]))) := Kp.new hb _
      refine q b ⟨num, v1, v2, v3, .deed g tk rs ws⟩ _ (kE.trans (k6.trans kb)) (P6.new hb _) ⟨r, x, upd_same, kb.tup P6 _ _ er, kb.tup P6 _ _ ex⟩ rfl ?_
      exact ⟨⟨a1, b1⟩, ⟨a2, b2⟩, ⟨a3, by show v3 ≤ 3; omega⟩, hg, htk, hgt, hrl, hrp, fun y hy => ⟨hrd y hy, hdn _ (hrd y hy)⟩, hwl, hwp, hw⟩
/-! ### in another order -/
abbrev sMixed : Stmt := topS 34
abbrev nMixed : List Str := ["_law_pen_here", "_law_some", "_law_left", "_law_k"]
theorem scMixed : FnScope nMixed ["_law_pen_here", "_law_some"] (defScope sMixed) := ⟨rfl, rfl, rfl, by decide +kernel, rfl, by decide +kernel, by decide +kernel⟩
def spMixed (K : PySem.W.Frag) : Sp := fun vs H Q _ => ∃ (p a : Addr) (xs : List V), vs = [.ref p, .ref a] ∧ PenAt H p ∧ (SqL K H a xs ∨ SqT K H a xs) ∧ xs.length ≤ 1000 ∧
  ∀ l (ys : List V) H', Kp p H H' → PenAt H' p → H l = none → H' l = some (.lst ys) → ys.Perm xs → Q (.ref l) H'
theorem ok_mixed {f : Addr} {fd : FuncData} {k : Nat} (F : Fun K "_law_mixed" "_law_mixed" sMixed f fd) (D : DrawD K mg fDr dDr) (B : Bi mg) : FnOk P w K mg base CX0 (k + 2) f fd ["_law_pen_here", "_law_some"] (spMixed K) := by
  have G : FnOk P w K mg base CX0 (k + 1) fDr dDr ["_law_pen_here", "_law_bound"] spDraw := ok_draw D.F
  refine F.ok scMixed (fun vs H Q E h => ?_) (fun cdv A outer s H vs Q E hr h => ?_)
  · obtain ⟨p, a, xs, rfl, _⟩ := h
    rfl
  · obtain ⟨p, a, xs, rfl, hP, hS, hxl, q⟩ := h
    refine ⟨_, pss_cons (ps_set (i := 2) scMixed.nd rfl (.inr rfl) (pe_callTy call_list_of (by rfl) B.list (by decide +kernel) (pa_cons (pv 1) pa_nil)))
      (pss_one (ps_ret (pe_lc (own := [("_law_k", 3)]) (g := gName 3) (by rfl) scMixed.nd (pi_range1 (by rfl) B.range (pa_cons (pe_callB call_len_seq (by rfl) B.len PySem.boot_len (pa_cons (pv 2) pa_nil)) pa_nil)) (blkOk_by (own := [("_law_k", 3)]) (N := nMixed) (sc := defScope sMixed) (by decide +kernel)) (fun _ _ _ _ _ => pg_name (i := 3) scMixed.nd rfl (Or.inl rfl)) (fun _ _ _ _ _ => pts_nil)
        (fun _ _ _ _ _ => show PE _ _ (tBM K "list" rPopAt (tVar 2) (tCons (tCall spDraw [] E0 (tCons (tVar 0) (tCons (tCB (rLenS K) (tCons (tVar 2) tNil)) tNil))) tNil)) from pe_bm PySem.F.plainAttrs_list PySem.F.slot_list_pop PySem.F.type_list_pop mt_popAt (pv 2) (pa_cons (pe_call G hr (by rfl) D.g D.F.kp D.b .nil pass0 (pa_cons (pv 0) (pa_cons (pe_callB call_len_seq (by rfl) B.len PySem.boot_len (pa_cons (pv 2) pa_nil)) pa_nil))) pa_nil))))), ?_⟩
    refine ⟨_, rfl, a, _, rfl, hS, fun l hl => ?_⟩
    have nl : l ≠ p := hP.free hl
    have el : (upd H l (.lst xs)) l = some (.lst xs) := upd_same
    refine ⟨_, rfl, l, xs, rfl, .inl (SqL.of el), _, rfl, by omega, by omega, fun o no => ?_⟩
    have no' : o ≠ p := (hP.new hl _).free no
    have nlo : l ≠ o := fun z => by
      rw [← z, el] at no
      cases no
    have hno : H o = none := by
      rw [upd_ne nlo.symm] at no
      exact no
    refine lc_range (lo := 0) (n := ((xs.length : Nat) : Int).toNat) (fun i H' => ∃ ys ls : List V, H' o = some (.lst ys) ∧ H' l = some (.lst ls) ∧ Kp p H H' ∧ PenAt H' p ∧ ys.length = i ∧ (ys ++ ls).Perm xs)
      ⟨[], xs, upd_same, by rw [upd_ne nlo]; exact el, (Kp.new hl _).trans (Kp.new no _), (hP.new hl _).new no _, rfl, List.Perm.refl _⟩ ?_ ?_
    · rintro i H' hi ⟨ys, ls, e1, e2, k', P', hyl, hpm⟩
      have hll : ls.length = xs.length - i := by
        have := hpm.length_eq
        rw [List.length_append] at this
        omega
      refine ⟨rfl, ?_⟩
      unfold tYes
      dsimp only
      rw [if_pos rfl]
      refine ⟨_, rfl, .inl ⟨rfl, _, SqL.of e2⟩, _, rfl, _, rfl, l, ls, rfl, .inl (SqL.of e2), p, _, rfl, P', by omega, by omega, fun v2 H2 k2 P2 a2 b2 => ?_⟩
      have e1' := k2 _ _ no' e1
      have e2' := k2 _ _ nl e2
      have hk : v2.toNat < ls.length := by omega
      refine ⟨l, _, v2, v2.toNat, ls[v2.toNat], rfl, rfl, e2', by omega, by omega, seqIx a2 (by omega), List.getElem?_eq_getElem hk, ?_⟩
      refine ⟨ys, by rw [upd_ne nlo.symm]; exact e1', small1000 (by omega), ys ++ [ls[v2.toNat]], ls.eraseIdx v2.toNat, upd_same, by rw [upd_ne nlo, upd_same], fun b z n1 e => ?_, ?_, ?_, ?_⟩
      · rw [upd_ne (ne_of_none e hno), upd_ne (ne_of_none e hl)]
        exact (k'.trans k2) _ _ n1 e
      · obtain ⟨x1, x2, x3, x4, z1, z2⟩ := P2
        exact ⟨x1, x2, x3, x4, by rw [upd_ne no'.symm, upd_ne nl.symm]; exact z1, z2⟩
      · rw [List.length_append, hyl]
        rfl
      · have h1 : (ls[v2.toNat] :: ls.eraseIdx v2.toNat).Perm ls := perm_erase (List.getElem?_eq_getElem hk)
        refine List.Perm.trans ?_ hpm
        rw [List.append_assoc]
        exact List.Perm.append_left ys h1
    · rintro H' ⟨ys, ls, e1, e2, k', P', hyl, hpm⟩
      refine q o ys H' k' P' hno e1 ?_
      have h0 : ls = [] := by
        have := hpm.length_eq
        rw [List.length_append] at this
        exact List.length_eq_zero_iff.mp (by omega)
      rw [h0, List.append_nil] at hpm
      exact hpm
end
end Deed

namespace Deed
open PySem PySem.Spec PyProof.Rows L2
theorem perm_pairs {α β : Type} (f : α → β) {ys xs : List β} (h : ys.Perm xs) : ∀ zs : List α, xs = zs.map f → ∃ zs' : List α, ys = zs'.map f ∧ zs'.Perm zs := by
  induction h with
  | nil =>
    intro zs e
    cases zs with
    | nil => exact ⟨[], rfl, List.Perm.refl _⟩
    | cons z r => cases e
  | cons x _ ih =>
    intro zs e
    cases zs with
    | nil => cases e
    | cons z r =>
      rw [List.map_cons] at e
      injection e with e1 e2
      obtain ⟨zs', h1, h2⟩ := ih r e2
      exact ⟨z :: zs', by rw [List.map_cons, ← h1, e1], h2.cons z⟩
  | swap x y l =>
    intro zs e
    match zs, e with
    | [], e => cases e
    | [_], e => cases e
    | a :: b :: r, e =>
      rw [List.map_cons, List.map_cons] at e
      injection e with e1 e2
      injection e2 with e2 e3
      exact ⟨b :: a :: r, by rw [List.map_cons, List.map_cons, ← e1, ← e2, ← e3], List.Perm.swap _ _ _⟩
  | trans _ _ ih1 ih2 =>
    intro zs e
    obtain ⟨z1, h1, h2⟩ := ih2 zs e
    obtain ⟨z2, h3, h4⟩ := ih1 z1 h1
    exact ⟨z2, h3, h4.trans h2⟩
def dn (es : List En) : List Int := (es.filter (·.isDeed)).map (·.num)
def an (es : List En) : List Int := (es.filter (fun e => !e.isDeed)).map (·.num)
theorem dn_snoc (es : List En) (e : En) : dn (es ++ [e]) = dn es ++ (if e.isDeed then [e.num] else []) := by
  unfold dn
  rw [List.filter_append, List.map_append]
  cases h : e.isDeed <;> simp [List.filter, h]
theorem an_snoc (es : List En) (e : En) : an (es ++ [e]) = an es ++ (if e.isDeed then [] else [e.num]) := by
  unfold an
  rw [List.filter_append, List.map_append]
  cases h : e.isDeed <;> simp [List.filter, h]
theorem dn_sub (es : List En) : ∀ x ∈ dn es, x ∈ es.map (·.num) := fun x hx => by
  obtain ⟨e, he, rfl⟩ := List.mem_map.mp hx
  exact List.mem_map.mpr ⟨e, (List.mem_filter.mp he).1, rfl⟩
theorem an_sub (es : List En) : ∀ x ∈ an es, x ∈ es.map (·.num) := fun x hx => by
  obtain ⟨e, he, rfl⟩ := List.mem_map.mp hx
  exact List.mem_map.mpr ⟨e, (List.mem_filter.mp he).1, rfl⟩
theorem dn_nodup {es : List En} (h : (es.map (fun e => e.num)).Nodup) : (dn es).Nodup := by
  have h1 : (es.filter (fun e => e.isDeed)).Sublist es := List.filter_sublist
  exact (h1.map (fun e => e.num)).nodup h
theorem dn_len (es : List En) : (dn es).length ≤ es.length := by
  unfold dn
  rw [List.length_map]
  exact List.length_filter_le _ _
theorem an_len (es : List En) : (an es).length ≤ es.length := by
  unfold an
  rw [List.length_map]
  exact List.length_filter_le _ _
theorem mem_dn {es : List En} {x : Int} : x ∈ dn es ↔ ∃ e ∈ es, e.isDeed = true ∧ e.num = x := by
  unfold dn
  simp only [List.mem_map, List.mem_filter]
  constructor
  · rintro ⟨e, ⟨h1, h2⟩, h3⟩
    exact ⟨e, h1, h2, h3⟩
  · rintro ⟨e, h1, h2, h3⟩
    exact ⟨e, ⟨h1, h2⟩, h3⟩
theorem mem_an {es : List En} {x : Int} : x ∈ an es ↔ ∃ e ∈ es, e.isDeed = false ∧ e.num = x := by
  unfold an
  simp only [List.mem_map, List.mem_filter, Bool.not_eq_true']
  constructor
  · rintro ⟨e, ⟨h1, h2⟩, h3⟩
    exact ⟨e, h1, h2, h3⟩
  · rintro ⟨e, h1, h2, h3⟩
    exact ⟨e, ⟨h1, h2⟩, h3⟩
/-- entries of a book of n folk -/
structure BkOk (n : Nat) (es : List En) : Prop where
  nd : (es.map (·.num)).Nodup
  rng : ∀ e ∈ es, 0 ≤ e.num ∧ e.num ≤ 30
  ok : ∀ e ∈ es, EnOk n (dn es) (an es) e
theorem BkOk.perm {n : Nat} {es es' : List En} (h : BkOk n es) (p : es'.Perm es) : BkOk n es' := by
  refine ⟨(p.map _).nodup_iff.mpr h.nd, fun e he => h.rng e (p.mem_iff.mp he), fun e he => (h.ok e (p.mem_iff.mp he)).mono (fun x hx => ?_) fun x hx => ?_⟩
  · obtain ⟨e', h1, h2⟩ := mem_dn.mp hx
    exact mem_dn.mpr ⟨e', p.mem_iff.mpr h1, h2⟩
  · obtain ⟨e', h1, h2⟩ := mem_an.mp hx
    exact mem_an.mpr ⟨e', p.mem_iff.mpr h1, h2⟩
def En.word (e : En) : Str := match e.kd with
  | .deed _ _ _ _ => "deed"
  | .act x _ => x
theorem EnOk.word {n : Nat} {ds as : List Int} {e : En} (h : EnOk n ds as e) : e.word = "deed" ↔ e.isDeed = true := by
  unfold En.word En.isDeed
  cases hk : e.kd with
  | deed g t rs ws => simp
  | act x o =>
    have h4 := h.2.2.2
    rw [hk] at h4
    simp only [Bool.false_eq_true, iff_false]
    rcases h4.1 with ⟨z, _⟩ | ⟨z | z, _⟩ <;> rw [z] <;> decide
/-- the first places of an entry -/
theorem EntAt.tup {H : Hp} {a : Addr} {e : En} (h : EntAt H a e) : ∃ xs, H a = some (.tup xs) ∧ atI xs 0 = some (.int e.num) ∧ atI xs 1 = some (.int e.day) ∧ atI xs 2 = some (.int e.wri) ∧ atI xs 3 = some (.int e.hand) ∧ atI xs 4 = some (.str e.word) := by
  unfold EntAt at h
  unfold En.word
  cases hk : e.kd with
  | deed g t rs ws =>
    rw [hk] at h
    obtain ⟨r, w, h1, _⟩ := h
    exact ⟨_, h1, atI_nat (j := 0) rfl, atI_nat (j := 1) rfl, atI_nat (j := 2) rfl, atI_nat (j := 3) rfl, atI_nat (j := 4) rfl⟩
  | act x o =>
    rw [hk] at h
    exact ⟨_, h, atI_nat (j := 0) rfl, atI_nat (j := 1) rfl, atI_nat (j := 2) rfl, atI_nat (j := 3) rfl, atI_nat (j := 4) rfl⟩
theorem FolkAt.kpT {H H' : Hp} {t : Addr} {n : Nat} (h : FolkAt H t n) (k : KpT H H') : FolkAt H' t n := by
  obtain ⟨xs, h1, h2, h3⟩ := h
  refine ⟨xs, k _ _ h1, h2, fun x hx => ?_⟩
  obtain ⟨a, b, d, e, h4, r⟩ := h3 x hx
  exact ⟨a, b, d, e, k _ _ h4, r⟩
theorem KpT.lst {H : Hp} {l : Addr} {xs : List V} (e : H l = some (.lst xs)) (o : HO) : KpT H (upd H l o) := fun b ys h => by
  have nb : b ≠ l := fun z => by
    rw [z, e] at h
    cases h
  rw [upd_ne nb]
  exact h
theorem KpT.refl (H : Hp) : KpT H H := fun _ _ h => h
theorem Kp.over {p l : Addr} {H H' : Hp} (k : Kp p H H') (n : H l = none) (o : HO) : Kp p H (upd H' l o) := fun b u n1 e => by
  rw [upd_ne (ne_of_none e n)]
  exact k _ _ n1 e
theorem PenAt.put {p l : Addr} {H : Hp} (h : PenAt H p) (n : l ≠ p) (o : HO) : PenAt (upd H l o) p := by
  obtain ⟨x1, x2, x3, x4, z1, z2⟩ := h
  exact ⟨x1, x2, x3, x4, by rw [upd_ne n.symm]; exact z1, z2⟩
abbrev refs (zs : List (Addr × En)) : List V := zs.map fun z => .ref z.1
abbrev ens (zs : List (Addr × En)) : List En := zs.map (·.2)
/-- a book at b -/
structure BookAt (H : Hp) (b fk t : Addr) (n : Nat) (age : Int) (zs : List (Addr × En)) : Prop where
  at_ : H b = some (.tup [.ref fk, .int age, .ref t])
  folk : FolkAt H fk n
  n2 : 2 ≤ n
  n6 : n ≤ 6
  age0 : 0 ≤ age
  age1 : age ≤ 9999
  ents : H t = some (.tup (refs zs))
  ent : ∀ z ∈ zs, EntAt H z.1 z.2
  ok : BkOk n (ens zs)
  len : zs.length ≤ 16
theorem BookAt.kp {H H' : Hp} {b fk t : Addr} {n : Nat} {age : Int} {zs : List (Addr × En)} (h : BookAt H b fk t n age zs) (k : KpT H H') : BookAt H' b fk t n age zs :=
  ⟨k _ _ h.at_, h.folk.kpT k, h.n2, h.n6, h.age0, h.age1, k _ _ h.ents, fun z hz => (h.ent z hz).kp k, h.ok, h.len⟩
section
variable {P : Program} {w : World} {K : PySem.W.Frag} {mg : Str → Option Value} {base : Heap} {fDr fFe fDy fDe fEn fFo fMi : Addr} {dDr dFe dDy dDe dEn dFo dMi : FuncData}
abbrev EntryD (K : PySem.W.Frag) (mg : Str → Option Value) := Df K mg "_law_entry" sEntry pEntry
abbrev FolkD (K : PySem.W.Frag) (mg : Str → Option Value) := Df K mg "_law_folk" sFolk ["_law_pen_here", "_law_least"]
abbrev MixedD (K : PySem.W.Frag) (mg : Str → Option Value) := Df K mg "_law_mixed" sMixed ["_law_pen_here", "_law_some"]
/-! ### a book -/
abbrev sBook : Stmt := topS 35
abbrev nBook : List Str := ["_law_pen_here", "_law_most", "_law_folk_here", "_law_number", "_law_deeds", "_law_acts", "_law_found", "_law_k", "_law_entry_here"]
theorem scBook : FnScope nBook ["_law_pen_here", "_law_most"] (defScope sBook) := ⟨rfl, rfl, rfl, by decide +kernel, rfl, by decide +kernel, by decide +kernel⟩
def spBook : Sp := fun vs H Q _ => ∃ (p : Addr) (most : Int), vs = [.ref p, .int most] ∧ PenAt H p ∧ 0 ≤ most ∧ most ≤ 16 ∧
  ∀ b fk t n age zs H', Kp p H H' → PenAt H' p → BookAt H' b fk t n age zs → (zs.length : Int) ≤ most → Q (.ref b) H'
theorem ok_book {f : Addr} {fd : FuncData} {k : Nat} (F : Fun K "_law_book" "_law_book" sBook f fd) (D : DrawD K mg fDr dDr) (DF : FewD K mg fFe dFe) (DY : DayD K mg fDy dDy) (DD : DeedD K mg fDe dDe) (DE : EntryD K mg fEn dEn) (DO : FolkD K mg fFo dFo) (DM : MixedD K mg fMi dMi) (B : Bi mg) :
    FnOk P w K mg base CX0 (k + 5) f fd ["_law_pen_here", "_law_most"] spBook := by
  have G : FnOk P w K mg base CX0 (k + 1) fDr dDr ["_law_pen_here", "_law_bound"] spDraw := ok_draw D.F
  have GE : FnOk P w K mg base CX0 (k + 4) fEn dEn pEntry (spEntry K) := ok_entry DE.F D DF DY DD B
  have GO : FnOk P w K mg base CX0 (k + 2) fFo dFo ["_law_pen_here", "_law_least"] spFolk := ok_folk DO.F D B.range B.min B.tuple
  have GM : FnOk P w K mg base CX0 (k + 2) fMi dMi ["_law_pen_here", "_law_some"] (spMixed K) := ok_mixed DM.F D B
  refine F.ok scBook (fun vs H Q E h => ?_) (fun cdv A outer s H vs Q E hr h => ?_)
  · obtain ⟨p, m, rfl, _⟩ := h
    rfl
  · obtain ⟨p, most, rfl, hP, hm0, hm1, q⟩ := h
    have hr1 : Room (k + 1) _ := hr.mono (by omega)
    have hr2 : Room (k + 2) _ := hr.mono (by omega)
    refine ⟨_, pss_cons (ps_par (i := 2) (j := 3) (by rfl) scBook.nd rfl rfl (by decide) rfl rfl (pa_cons (pe_call GO hr2 (by rfl) DO.g DO.F.kp DO.b .nil pass0 (pa_cons (pv 0) (pa_cons pe_int pa_nil))) (pa_cons (pe_call G hr1 (by rfl) D.g D.F.kp D.b .nil pass0 (pa_cons (pv 0) (pa_cons pe_int pa_nil))) pa_nil)) (by rfl))
      (pss_cons (ps_par3 (i := 4) (j := 5) (l := 6) (by rfl) scBook.nd rfl rfl rfl (by decide) (by decide) (by decide) rfl rfl rfl (pa_cons (pe_lst pa_nil) (pa_cons (pe_lst pa_nil) (pa_cons (pe_lst pa_nil) pa_nil))) (by rfl))
      (pss_cons (ps_for PassesOwn.never rfl (pi_range1 rfl B.range (pa_cons (pe_call G hr1 (by rfl) D.g D.F.kp D.b .nil pass0 (pa_cons (pv 0) (pa_cons (pe_op op_add (pv 1) pe_int) pa_nil))) pa_nil)) (pg_name (i := 7) scBook.nd rfl (.inl rfl))
        (pss_cons (ps_set (i := 8) scBook.nd rfl (.inl rfl) (pe_call GE hr (by rfl) DE.g DE.F.kp DE.b .nil pass0 (pa_cons (pv 0) (pa_cons (pv 2) (pa_cons (pv 3) (pa_cons (pv 4) (pa_cons (pv 5) pa_nil)))))))
        (pss_cons (ps_expr (pe_bm PySem.F.plainAttrs_list PySem.F.slot_list_append PySem.F.type_list_append mt_append (pv 6) (pa_cons (pv 8) pa_nil)))
        (pss_cons (ps_if (pt_cmpR op_eq (pe_ix ix_tup (pv 8) pe_int (fun _ _ => rfl)) pe_str (nomark _))
            (pss_one (ps_expr (pe_bm PySem.F.plainAttrs_list PySem.F.slot_list_append PySem.F.type_list_append mt_append (pv 4) (pa_cons (pv 3) pa_nil))))
            (pss_one (ps_expr (pe_bm PySem.F.plainAttrs_list PySem.F.slot_list_append PySem.F.type_list_append mt_append (pv 5) (pa_cons (pv 3) pa_nil)))))
        (pss_one (ps_set (i := 3) scBook.nd rfl (.inl rfl) (pe_op op_add (pe_op op_add (pv 3) pe_int) (pe_ix ix_list (pe_lst (pa_cons pe_int (pa_cons (pe_call G hr1 (by rfl) D.g D.F.kp D.b .nil pass0 (pa_cons (pv 0) (pa_cons pe_int pa_nil))) pa_nil))) (pe_callTy call_int1 (by rfl) B.int (by decide +kernel) (pa_cons (pe_cmpR op_lt (pv 3) (pe_op op_add pe_int (pv 7)) (nomark _)) pa_nil)) (fun _ _ => rfl)))))))))
      (pss_one (ps_ret (pe_tup (pa_cons (pv 2) (pa_cons (pe_call G hr1 (by rfl) D.g D.F.kp D.b .nil pass0 (pa_cons (pv 0) (pa_cons pe_int pa_nil))) (pa_cons (pe_callTy call_tuple_of (by rfl) B.tuple (by decide +kernel) (pa_cons (pe_call GM hr2 (by rfl) DM.g DM.F.kp DM.b .nil pass0 (pa_cons (pv 0) (pa_cons (pv 6) pa_nil))) pa_nil)) pa_nil)))))))), ?_⟩
    refine ⟨_, rfl, p, 2, rfl, hP, by decide, by decide, fun fk n H1 k1 P1 F1 hn2 hn6 => ?_⟩
    have hn2' : 2 ≤ n := by omega
    refine ⟨_, rfl, p, 3, rfl, P1, by decide, by decide, fun num0 H2 k2 P2 a2 b2 => ⟨_, _, rfl, ?_⟩⟩
    have F2 := F1.kp k2 P1
    have k12 := k1.trans k2
    refine ⟨Nat.zero_le _, fun ld hld => ?_⟩
    have nld : ld ≠ p := P2.free hld
    have hldH : H ld = none := by
      cases z : H ld with
      | none => rfl
      | some o => rw [k12 _ _ nld z] at hld; cases hld
    refine ⟨Nat.zero_le _, fun la hla => ?_⟩
    have Pd := P2.new hld (.lst [])
    have nla : la ≠ p := Pd.free hla
    have nda : ld ≠ la := fun z => by
      rw [← z, upd_same] at hla
      cases hla
    have hlaH : H la = none := by
      cases z : H la with
      | none => rfl
      | some o =>
        rw [upd_ne nda.symm, k12 _ _ nla z] at hla
        cases hla
    refine ⟨Nat.zero_le _, fun lf hlf => ⟨_, _, _, rfl, ?_⟩⟩
    have Pa := Pd.new hla (.lst [])
    have nlf : lf ≠ p := Pa.free hlf
    have naf : la ≠ lf := fun z => by
      rw [← z, upd_same] at hlf
      cases hlf
    have ndf : ld ≠ lf := fun z => by
      rw [← z, upd_ne nda, upd_same] at hlf
      cases hlf
    have hlfH : H lf = none := by
      cases z : H lf with
      | none => rfl
      | some o =>
        rw [upd_ne naf.symm, upd_ne ndf.symm, k12 _ _ nlf z] at hlf
        cases hlf
    have k3 : Kp p H2 (upd (upd (upd H2 ld (.lst [])) la (.lst [])) lf (.lst [])) := ((Kp.new hld _).trans (Kp.new hla _)).trans (Kp.new hlf _)
    have P3 := Pa.new hlf (.lst [])
    have e3d : (upd (upd (upd H2 ld (.lst [])) la (.lst [])) lf (.lst [])) ld = some (.lst []) := by rw [upd_ne ndf, upd_ne nda, upd_same]
    have e3a : (upd (upd (upd H2 ld (.lst [])) la (.lst [])) lf (.lst [])) la = some (.lst []) := by rw [upd_ne naf, upd_same]
    have e3f : (upd (upd (upd H2 ld (.lst [])) la (.lst [])) lf (.lst [])) lf = some (.lst []) := upd_same
    generalize (upd (upd (upd H2 ld (.lst [])) la (.lst [])) lf (.lst [])) = H3 at k3 P3 e3d e3a e3f
    refine ⟨_, rfl, _, rfl, _, _, rfl, rfl, p, most + 1, rfl, P3, by omega, by omega, fun many H4 k4 P4 a4 b4 => ?_⟩
    refine ⟨_, rfl, by omega, by omega, ?_⟩
    refine for_range (lo := 0) (n := many.toNat) (fun i σ H' => ∃ y7 y8, ∃ (num : Int) (zs : List (Addr × En)), σ = [some (.ref p), some (.int most), some (.ref fk), some (.int num), some (.ref ld), some (.ref la), some (.ref lf), y7, y8] ∧ Kp p H H' ∧ PenAt H' p ∧ FolkAt H' fk n ∧
        H' ld = some (.lst ((dn (ens zs)).map V.int)) ∧ H' la = some (.lst ((an (ens zs)).map V.int)) ∧ H' lf = some (.lst (refs zs)) ∧ (∀ z ∈ zs, EntAt H' z.1 z.2) ∧ zs.length = i ∧ BkOk n (ens zs) ∧ (∀ e ∈ ens zs, e.num < num) ∧ 0 ≤ num ∧ num ≤ 15 + (i : Int))
      ⟨none, none, num0, [], rfl, k12.trans (k3.trans k4), P4, (F2.kp k3 P2).kp k4 P3, k4 _ _ nld e3d, k4 _ _ nla e3a, k4 _ _ nlf e3f, (fun _ h => nomatch h), rfl, ⟨List.nodup_nil, (fun _ h => nomatch h), (fun _ h => nomatch h)⟩, (fun _ h => nomatch h), a2, by omega⟩ ?_ ?_
    · rintro i σ H' hi ⟨y7, y8, num, zs, rfl, k', P', F', ed, ea, ef, hent, hlen, hok, hlt, hn0, hn1⟩
      have hel : (ens zs).length = i := by rw [List.length_map, hlen]
      have hdl := dn_len (ens zs)
      have hal := an_len (ens zs)
      -- entry_here
      refine ⟨_, rfl, _, rfl, _, rfl, _, rfl, _, rfl, p, fk, ld, la, num, n, dn (ens zs), an (ens zs), rfl, P', F', hn2', hn6, ed, nld, ea, nla, dn_nodup hok.nd, by omega, by omega, fun d hd => ?_, fun d hd => ?_, fun a e H5 k5 P5 E5 hnum hEn => ?_⟩
      · obtain ⟨e, he, rfl⟩ := List.mem_map.mp (dn_sub _ _ hd)
        exact hlt e he
      · obtain ⟨e, he, rfl⟩ := List.mem_map.mp (an_sub _ _ hd)
        exact hlt e he
      have kT5 := k5.tup P'
      have ed5 := k5 _ _ nld ed
      have ea5 := k5 _ _ nla ea
      have ef5 := k5 _ _ nlf ef
      -- found.append
      refine ⟨_, rfl, .inl ⟨rfl, _, SqL.of ef5⟩, _, rfl, lf, _, _, rfl, rfl, ef5, small1000 (by rw [List.length_map]; omega), ?_⟩
      have kT6 := KpT.lst ef5 (.lst (refs zs ++ [.ref a]))
      have P6 := P5.put nlf (.lst (refs zs ++ [.ref a]))
      have k6 := (k'.trans k5).over hlfH (.lst (refs zs ++ [.ref a]))
      have ed6 := (show (upd H5 lf (.lst (refs zs ++ [.ref a]))) ld = H5 ld from upd_ne ndf).trans ed5
      have ea6 := (show (upd H5 lf (.lst (refs zs ++ [.ref a]))) la = H5 la from upd_ne naf).trans ea5
      have ef6 := (show (upd H5 lf (.lst (refs zs ++ [.ref a]))) lf = some (.lst (refs zs ++ [.ref a])) from upd_same)
      have E6 := E5.kp kT6
      have hent6 : ∀ z ∈ zs, EntAt (upd H5 lf (.lst (refs zs ++ [.ref a]))) z.1 z.2 := fun z hz => ((hent z hz).kp kT5).kp kT6
      have F6 := (F'.kpT kT5).kpT kT6
      generalize (upd H5 lf (.lst (refs zs ++ [.ref a]))) = H6 at kT6 P6 k6 ed6 ea6 ef6 E6 hent6 F6
      obtain ⟨xs6, ex6, _, _, _, _, g4⟩ := E6.tup
      refine ⟨_, rfl, a, xs6, 4, _, rfl, rfl, SqT.of ex6, g4, rfl, _, rfl, ?_⟩
      have okE : BkOk n (ens zs ++ [e]) := by
        have hd : ∀ x ∈ dn (ens zs), x ∈ dn (ens zs ++ [e]) := fun x hx => by rw [dn_snoc]; exact List.mem_append_left _ hx
        have ha : ∀ x ∈ an (ens zs), x ∈ an (ens zs ++ [e]) := fun x hx => by rw [an_snoc]; exact List.mem_append_left _ hx
        refine ⟨?_, fun e' he' => ?_, fun e' he' => ?_⟩
        · rw [List.map_append]
          refine List.nodup_append.mpr ⟨hok.nd, List.pairwise_singleton _ _, fun x hx y hy => ?_⟩
          obtain ⟨e', he', rfl⟩ := List.mem_map.mp hx
          have hy' : y = e.num := by simpa using hy
          rw [hy', hnum]
          exact Int.ne_of_lt (hlt e' he')
        · rcases List.mem_append.mp he' with he' | he'
          · exact hok.rng e' he'
          · rw [List.mem_singleton.mp he', hnum]
            omega
        · rcases List.mem_append.mp he' with he' | he'
          · exact (hok.ok e' he').mono hd ha
          · rw [List.mem_singleton.mp he']
            exact hEn.mono hd ha
      have wd := hEn.word
      -- the last row of a turn
      refine ite2 (fun c => ?deed) (fun c => ?act)
      case deed =>
        have hd : e.isDeed = true := wd.mp (by
          have := of_decide_eq_true c
          injection this)
        refine ⟨_, rfl, .inl ⟨rfl, _, SqL.of ed6⟩, _, rfl, ld, _, _, rfl, rfl, ed6, small1000 (by rw [List.length_map]; omega), ?_⟩
        have kT7 := KpT.lst ed6 (.lst ((dn (ens zs)).map V.int ++ [.int num]))
        have P7 := P6.put nld (.lst ((dn (ens zs)).map V.int ++ [.int num]))
        have k7 := k6.over hldH (.lst ((dn (ens zs)).map V.int ++ [.int num]))
        have ea7 := (show (upd H6 ld (.lst ((dn (ens zs)).map V.int ++ [.int num]))) la = H6 la from upd_ne nda.symm).trans ea6
        have ef7 := (show (upd H6 ld (.lst ((dn (ens zs)).map V.int ++ [.int num]))) lf = H6 lf from upd_ne ndf.symm).trans ef6
        have ed7 := (show (upd H6 ld (.lst ((dn (ens zs)).map V.int ++ [.int num]))) ld = some (.lst ((dn (ens zs)).map V.int ++ [.int num])) from upd_same)
        have E7 := E6.kp kT7
        have F7 := F6.kpT kT7
        have hent7 : ∀ z ∈ zs, EntAt (upd H6 ld (.lst ((dn (ens zs)).map V.int ++ [.int num]))) z.1 z.2 := fun z hz => (hent6 z hz).kp kT7
        generalize (upd H6 ld (.lst ((dn (ens zs)).map V.int ++ [.int num]))) = H7 at kT7 P7 k7 ea7 ef7 ed7 E7 F7 hent7
        have dn7 : dn (ens zs) ++ [num] = dn (ens (zs ++ [(a, e)])) := by
          rw [show ens (zs ++ [(a, e)]) = ens zs ++ [e] by simp [ens], dn_snoc, if_pos hd, hnum]
        have an7 : an (ens zs) = an (ens (zs ++ [(a, e)])) := by
          rw [show ens (zs ++ [(a, e)]) = ens zs ++ [e] by simp [ens], an_snoc, if_pos hd, List.append_nil]
        refine ⟨_, rfl, _, _, rfl, rfl, ?_⟩
        refine ⟨_, rfl, p, 2, rfl, P7, by decide, by decide, fun v8 H8 k8 P8 a8 b8 => ?_⟩
        refine ⟨(by show 2 ≤ sizeLine; decide), fun m hm => ?_⟩
        refine ⟨_, rfl, _, rfl, _, _, rfl, rfl, _, _, rfl, rfl, .inr ⟨_, rfl, ?_⟩⟩
        have kM : Kp p H8 (upd H8 m (.lst [.int 0, .int v8])) := Kp.new hm _
        have eM : (upd H8 m (.lst [.int 0, .int v8])) m = some (.lst [.int 0, .int v8]) := upd_same
        have PM := P8.new hm (.lst [.int 0, .int v8])
        generalize (upd H8 m (.lst [.int 0, .int v8])) = H9 at kM eM PM
        have k9 := k8.trans kM
        have kT9 : KpT H7 H9 := k9.tup P7
        obtain ⟨dv, gv, hv⟩ : ∃ dv : Int, atI [V.int 0, V.int v8] (if decide (num < 14 + (0 + (i : Int))) then 1 else 0) = some (.int dv) ∧ 0 ≤ dv ∧ num + 1 + dv ≤ 15 + ((i : Int) + 1) := by
          by_cases hc : num < 14 + (0 + (i : Int))
          · rw [decide_eq_true hc]
            exact ⟨v8, atI_nat (j := 1) rfl, a8, by omega⟩
          · rw [decide_eq_false hc]
            exact ⟨0, atI_nat (j := 0) rfl, by omega, by omega⟩
        refine ⟨m, _, _, _, rfl, rfl, SqL.of eM, gv, _, _, rfl, rfl, ?_⟩
        refine ⟨_, _, num + 1 + dv, zs ++ [(a, e)], rfl, k7.trans k9, PM, F7.kpT kT9, ?_, ?_, ?_, fun z hz => ?_, ?_, ?_, fun e' he' => ?_, ?_, ?_⟩
        · rw [← dn7]
          refine (k9 _ _ nld ed7).trans ?_
          simp
        · rw [← an7]
          refine (k9 _ _ nla ea7).trans ?_
          simp
        · refine (k9 _ _ nlf ef7).trans ?_
          simp [refs]
        · rcases List.mem_append.mp hz with hz | hz
          · exact (hent7 z hz).kp kT9
          · rw [List.mem_singleton.mp hz]
            exact E7.kp kT9
        · rw [List.length_append, hlen]
          rfl
        · rw [show ens (zs ++ [(a, e)]) = ens zs ++ [e] by simp [ens]]
          exact okE
        · rw [show ens (zs ++ [(a, e)]) = ens zs ++ [e] by simp [ens]] at he'
          rcases List.mem_append.mp he' with he' | he'
          · have := hlt e' he'
            omega
          · rw [List.mem_singleton.mp he', hnum]
            omega
        · omega
        · omega
      case act =>
        have hd : e.isDeed = false := by
          cases hh : e.isDeed with
          | false => rfl
          | true =>
            refine absurd (decide_eq_true ?_) c
            rw [wd.mpr hh]
        refine ⟨_, rfl, .inl ⟨rfl, _, SqL.of ea6⟩, _, rfl, la, _, _, rfl, rfl, ea6, small1000 (by rw [List.length_map]; omega), ?_⟩
        have kT7 := KpT.lst ea6 (.lst ((an (ens zs)).map V.int ++ [.int num]))
        have P7 := P6.put nla (.lst ((an (ens zs)).map V.int ++ [.int num]))
        have k7 := k6.over hlaH (.lst ((an (ens zs)).map V.int ++ [.int num]))
        have ed7 := (show (upd H6 la (.lst ((an (ens zs)).map V.int ++ [.int num]))) ld = H6 ld from upd_ne nda).trans ed6
        have ef7 := (show (upd H6 la (.lst ((an (ens zs)).map V.int ++ [.int num]))) lf = H6 lf from upd_ne naf.symm).trans ef6
        have ea7 := (show (upd H6 la (.lst ((an (ens zs)).map V.int ++ [.int num]))) la = some (.lst ((an (ens zs)).map V.int ++ [.int num])) from upd_same)
        have E7 := E6.kp kT7
        have F7 := F6.kpT kT7
        have hent7 : ∀ z ∈ zs, EntAt (upd H6 la (.lst ((an (ens zs)).map V.int ++ [.int num]))) z.1 z.2 := fun z hz => (hent6 z hz).kp kT7
        generalize (upd H6 la (.lst ((an (ens zs)).map V.int ++ [.int num]))) = H7 at kT7 P7 k7 ea7 ef7 ed7 E7 F7 hent7
        have dn7 : dn (ens zs) = dn (ens (zs ++ [(a, e)])) := by
          rw [show ens (zs ++ [(a, e)]) = ens zs ++ [e] by simp [ens], dn_snoc, hd]
          simp
        have an7 : an (ens zs) ++ [num] = an (ens (zs ++ [(a, e)])) := by
          rw [show ens (zs ++ [(a, e)]) = ens zs ++ [e] by simp [ens], an_snoc, hd, hnum]
          simp
        refine ⟨_, rfl, _, _, rfl, rfl, ?_⟩
        refine ⟨_, rfl, p, 2, rfl, P7, by decide, by decide, fun v8 H8 k8 P8 a8 b8 => ?_⟩
        refine ⟨(by show 2 ≤ sizeLine; decide), fun m hm => ?_⟩
        refine ⟨_, rfl, _, rfl, _, _, rfl, rfl, _, _, rfl, rfl, .inr ⟨_, rfl, ?_⟩⟩
        have kM : Kp p H8 (upd H8 m (.lst [.int 0, .int v8])) := Kp.new hm _
        have eM : (upd H8 m (.lst [.int 0, .int v8])) m = some (.lst [.int 0, .int v8]) := upd_same
        have PM := P8.new hm (.lst [.int 0, .int v8])
        generalize (upd H8 m (.lst [.int 0, .int v8])) = H9 at kM eM PM
        have k9 := k8.trans kM
        have kT9 : KpT H7 H9 := k9.tup P7
        obtain ⟨dv, gv, hv⟩ : ∃ dv : Int, atI [V.int 0, V.int v8] (if decide (num < 14 + (0 + (i : Int))) then 1 else 0) = some (.int dv) ∧ 0 ≤ dv ∧ num + 1 + dv ≤ 15 + ((i : Int) + 1) := by
          by_cases hc : num < 14 + (0 + (i : Int))
          · rw [decide_eq_true hc]
            exact ⟨v8, atI_nat (j := 1) rfl, a8, by omega⟩
          · rw [decide_eq_false hc]
            exact ⟨0, atI_nat (j := 0) rfl, by omega, by omega⟩
        refine ⟨m, _, _, _, rfl, rfl, SqL.of eM, gv, _, _, rfl, rfl, ?_⟩
        refine ⟨_, _, num + 1 + dv, zs ++ [(a, e)], rfl, k7.trans k9, PM, F7.kpT kT9, ?_, ?_, ?_, fun z hz => ?_, ?_, ?_, fun e' he' => ?_, ?_, ?_⟩
        · rw [← dn7]
          refine (k9 _ _ nld ed7).trans ?_
          simp
        · rw [← an7]
          refine (k9 _ _ nla ea7).trans ?_
          simp
        · refine (k9 _ _ nlf ef7).trans ?_
          simp [refs]
        · rcases List.mem_append.mp hz with hz | hz
          · exact (hent7 z hz).kp kT9
          · rw [List.mem_singleton.mp hz]
            exact E7.kp kT9
        · rw [List.length_append, hlen]
          rfl
        · rw [show ens (zs ++ [(a, e)]) = ens zs ++ [e] by simp [ens]]
          exact okE
        · rw [show ens (zs ++ [(a, e)]) = ens zs ++ [e] by simp [ens]] at he'
          rcases List.mem_append.mp he' with he' | he'
          · have := hlt e' he'
            omega
          · rw [List.mem_singleton.mp he', hnum]
            omega
        · omega
        · omega
    · rintro σ H' ⟨y7, y8, num, zs, rfl, k', P', F', ed, ea, ef, hent, hlen, hok, hlt, hn0, hn1⟩
      refine ⟨_, rfl, _, rfl, p, 30, rfl, P', by decide, by decide, fun age H5 k5 P5 a5 b5 => ?_⟩
      refine ⟨_, rfl, _, rfl, p, lf, refs zs, rfl, P5, .inl (SqL.of (k5 _ _ nlf ef)), by rw [List.length_map]; omega, fun l ys H6 k6 P6 nl el hpm => ?_⟩
      refine ⟨l, ys, rfl, .inl ⟨SqL.of el, fun t ht => ?_⟩⟩
      have k7 : Kp p H6 (upd H6 t (.tup ys)) := Kp.new ht _
      have P7 := P6.new ht (.tup ys)
      refine ⟨(by show 3 ≤ sizeLine; decide), fun b hb => ?_⟩
      have k8 : Kp p (upd H6 t (.tup ys)) (upd (upd H6 t (.tup ys)) b (.tup [.ref fk, .int age, .ref t])) := Kp.new hb _
      obtain ⟨zs', hy, hz⟩ := perm_pairs (fun z : Addr × En => V.ref z.1) hpm zs rfl
      have kT : KpT H' (upd (upd H6 t (.tup ys)) b (.tup [.ref fk, .int age, .ref t])) := (k5.tup P').trans ((k6.tup P5).trans ((k7.tup P6).trans (k8.tup P7)))
      have hlen' : zs'.length = zs.length := hz.length_eq
      refine q b fk t n age zs' _ (k'.trans (k5.trans (k6.trans (k7.trans k8)))) (P7.new hb _) ⟨upd_same, F'.kpT kT, hn2', hn6, a5, by omega, ?_, fun z hz' => (hent z (hz.mem_iff.mp hz')).kp kT, hok.perm (hz.map _), by omega⟩ (by omega)
      refine k8.tup P7 _ _ ?_
      rw [upd_same, hy]
end
end Deed

namespace Deed
open PySem PySem.Spec PySem.W PyProof.Rows L2 LamX
/-! ### sorted(e, key=lambda x: x[0]) of a list or tuple of tuples -/
section
variable {prog : Program} {w : World} {A : Around} {E : Value → Shared → Prop} {s : Shared}
theorem collectT {l : Addr} {vs : List Value} {Q : List Value → Shared → Prop} (ht : s.heap.IsTuple l vs.toArray) (hsz : vs.length ≤ sizeLine)
    (h : Q vs { s with heap := (s.heap.push (seqObj "list" #[] 0)).update s.heap.objs.size (Obj.mapSeq (· ++ vs.toArray)) }) : wpAny (model prog w) A (collect (.ref l)) Q E s := by
  obtain ⟨ob, g0, gc, ep, gd⟩ := id ht
  have g1 : (s.heap.push (seqObj "list" #[] 0)).get? l = some ob := Heap.get?_push_of_some _ g0
  unfold collect
  refine wpAny_bind (m := _) (wpAny_runValue (codeAny_builtin entry_proto_collect' ?_))
  show wpAny _ _ (do again (.builtin "list.__iadd__" ⟨[← newList [], Value.ref l], []⟩)) _ _ s
  refine wpAny_bind (wpAny_newList (wpAny_pure ⟨Code.quiet_builtin _ (by decide +kernel), (codeAny_builtin entry_list_iadd' ?_)⟩))
  show wpAny _ _ (Builtin.List.listExtendWith (.ref s.heap.objs.size) (Value.ref l) (.ref s.heap.objs.size)) _ _ { s with heap := s.heap.push (seqObj "list" #[] 0) }
  unfold Builtin.List.listExtendWith
  refine wpAny_bind (wpAny_typeOf (T := "tuple") ⟨ob, g1, gc⟩ ?_)
  have tt : (Value.type "tuple" == Value.type "tuple") = true := by rfl
  rw [if_pos (by simp [tt])]
  refine wpAny_bind (listItems_at g1 gd ?_)
  refine wpAny_bind (listItems_at (n := 0) (xs := #[]) (Heap.get?_push_size _ rfl) rfl ?_)
  rw [if_neg (fun z => by simp at z)]
  refine wpAny_bind (listUpdate_at (n := 0) (xs := #[]) (Heap.get?_push_size _ rfl) rfl ?_ (Nat.zero_le _) (by show (#[] ++ vs.toArray).size ≤ sizeLine + 1; simp only [Array.size_append, List.size_toArray, List.length_nil]; omega))
  refine wpAny_pure (?_)
  show wpAny (model prog w) A (do let o ← load s.heap.objs.size; match o.data with | .seq xs _ => pure xs.toList | _ => unsupported "internal:collect") Q E { s with heap := (s.heap.push (seqObj "list" #[] 0)).update s.heap.objs.size (Obj.mapSeq (· ++ vs.toArray)) }
  refine wpAny_bind (wpAny_load (get?_update_seq (Heap.get?_push_size _ rfl) _) (?_))
  show wpAny _ _ (pure (((#[] : Array Value) ++ vs.toArray).toList)) Q E _
  rw [show (((#[] : Array Value) ++ vs.toArray).toList) = vs by simp]
  exact wpAny_pure h
theorem collectS {l : Addr} {vs : List Value} {Q : List Value → Shared → Prop} (hl : s.heap.IsList l vs.toArray ∨ s.heap.IsTuple l vs.toArray) (hsz : vs.length ≤ sizeLine)
    (h : Q vs { s with heap := (s.heap.push (seqObj "list" #[] 0)).update s.heap.objs.size (Obj.mapSeq (· ++ vs.toArray)) }) : wpAny (model prog w) A (collect (.ref l)) Q E s := by
  rcases hl with hl | hl
  · exact collect_list hl h hsz
  · exact collectT hl hsz h
/-- sorted(e, key=f), e a list or a tuple, the keys ints -/
theorem sortedK {β : Type} {l f : Addr} {vs : List Value} {bs : List β} {R : Value → β → Prop} {Q : Value → Shared → Prop} (k : β → Int) (hl : s.heap.IsList l vs.toArray ∨ s.heap.IsTuple l vs.toArray) (e : EachIs R vs bs) (hL : bs.length ≤ sizeLine) (hu : A.units + 66 < cLine)
    (turn : ∀ (v : Value) (x : β), R v x → x ∈ bs → ∀ (h : Heap) (tk : Nat), (∀ b o, s.heap.get? b = some o → h.get? b = some o) →
      wpAny (model prog w) A.in1.in1 (call (.ref f) [v]) (KeyPure (.int (k x)) { s with heap := h, toks := tk }) (fun _ _ => False) { s with heap := h, toks := tk })
    (h : ∀ out c h' tk, (∀ b o, s.heap.get? b = some o → h'.get? b = some o) → h'.get? (s.heap.objs.size + 1) = some (seqObj "list" (List.toArray out) c) → out.length = bs.length → EachIs R out (bs.mergeSort (dataLe false fun x => .int (k x))) →
      Q (.ref (s.heap.objs.size + 1)) { s with heap := h', toks := tk }) :
    wpAny (model prog w) A (call (.builtin "sorted") [.ref l] [(Str.ofString "key", .ref f)]) Q E s := by
  have hv : vs.length ≤ sizeLine := by rw [e.length]; exact hL
  have up : ∀ {g : Heap}, KeepsBut (s.heap.objs.size + 1) (copyHeap s.heap vs) g → ∀ b o, s.heap.get? b = some o → g.get? b = some o := fun kp b o z =>
    kp b o (Nat.ne_of_lt (Nat.lt_succ_of_lt (Heap.lt_size z))) (copyHeap_old z)
  have ez : ((s.heap.push (seqObj "list" #[] 0)).update s.heap.objs.size (Obj.mapSeq (· ++ vs.toArray))).objs.size = s.heap.objs.size + 1 := by rw [Heap.size_update, size_push']
  refine call_function_entry_kw kind_sorted plain_sorted entry_sorted (ksk_s1 _ _) ?_
  unfold Builtin.«sorted»
  refine wpAny_bind (m := checkCount "sorted" 1 1 _) (wpAny_pure (?_))
  refine wpAny_bind (collectS hl hv ?_)
  refine wpAny_bind (wpAny_newList (?_) hv)
  show wpAny _ _ _ _ _ { s with heap := copyHeap s.heap vs }
  rw [ez]
  refine wpAny_bind (wpAny_holding (wpAny_call_entry_kw slot_list_sort ⟨_, copyHeap_at s.heap vs, rfl⟩ entry_list_sort (?body) (ksk_l1 _ _)))
  case body =>
    show wpAny (model prog w) A.in1.in1 (Builtin.«list.sort» ⟨[.ref (s.heap.objs.size + 1)], [(Str.ofString "key", .ref f)]⟩) _ _ _
    rw [ksk_t1]
    refine keyH_tree (kz := bs.map fun x => PyData.int (k x)) (s := { s with heap := copyHeap s.heap vs }) (copyHeap_at s.heap vs) (by rw [List.length_map]; exact e.length.symm) hv (AllAlike.of fun _ _ => by simp [alike]) ?srt (fun d hd => ?dep)
      (keyH_turns (k := fun x => PyData.int (k x)) (s := { s with heap := copyHeap s.heap vs }) e fun v x hR hx h tk kp => turn v x hR hx h tk (up kp)) fun h' tk out c kp hD ko => ?fin
    case srt => exact Sortable.others fun _ => ⟨(fun z => nomatch z), (fun _ z => nomatch z)⟩
    case dep =>
      obtain ⟨x, _, rfl⟩ := List.mem_map.mp hd
      show A.units + 1 + 1 + PyData.depth (.int (k x)) < cLine
      simp only [PyData.depth]
      omega
    case fin =>
      exact ⟨_, rfl, wpAny_pure ⟨_, rfl, h out c h' tk (up kp) hD ((ko.length (by rw [List.length_map]; exact e.length.symm)).trans e.length) (keyedOut_each (fun x => PyData.int (k x)) ko e)⟩⟩
/-- the call of the lambda -/
theorem lam_key {f c' t : Addr} {x q : Str} {params : Arguments} {ix : Expr} {scope : Scope} {cl : List (Str × Addr)} {pm ctv : Value} {p1 p3 : Pos} {items : Array Value} {kk : Int} {u : Tok} {mg : Str → Option Value}
    (of : s.heap.get? f = some (kla_obj "<lambda>" q params (.Subscript (.Name x p1) ix p3) scope cl pm c' ctv)) (hcd : s.heap.CodeRec (.ref c') q) (hroom : A.depth < recursionLimit) (lim : s.heap.NoLimit) (ns : s.heap.Ns mainGlobals mg)
    (hk : scope.kind = .function) (hco : scope.isCoroutine = false) (hgen : scope.isGenerator = false) (hcell : ∀ y ∈ scope.names, y.2 ≠ .cell) (hloc : scope.names.lookup x = some .local)
    (hbind : ∀ v : Value, bindArgs (kla_fn "<lambda>" q params (.Subscript (.Name x p1) ix p3) scope cl pm (.ref c') ctv) ⟨[v], []⟩ = pure [(x, v)])
    (hix : ∀ (env : Env) (A : Around) (E : Value → Shared → Prop) (s' : Shared) (Q : Value → Shared → Prop), env.scope = scope → env.globals = mainGlobals → s'.heap.Ns mainGlobals mg → (∀ u tk, Q (.int 0 u) { s' with toks := tk }) → wpAny (model prog w) A (eval ix env) Q E s')
    (hpl : PlainIx ix) (hd : (x == ("__debug__" : Str)) = false) (ht : s.heap.IsTuple t items) (hx : items[0]? = some (.int kk u)) :
    wpAny (model prog w) A (call (.ref f) [.ref t]) (KeyPure (.int kk) s) (fun _ _ => False) s := by
  refine wpAny_call (kla_callFunE hroom of rfl hco hgen rfl hcd ?_)
  rw [hbind]
  refine wpAny_pure (wpAny_newFunctionEnv hcell (fun y hy => ?_) (fun h₁ hns hsb => ⟨lim.fresh _ hsb, ?_⟩) hk)
  · rw [List.mem_singleton.mp hy]
    exact hloc
  have kp : ∀ b o, s.heap.get? b = some o → h₁.get? b = some o := fun b o z => hsb.extBut b o (Nat.ne_of_lt (Heap.lt_size z)) (Heap.get?_push_of_some _ z)
  refine kla_codeExpr (Subscript_ (wpAny_Name (wpAny_loadName_local hk hloc hns (v := .ref t) (by simp) ?_) hd))
  refine hix _ _ _ _ _ rfl rfl (ns.keeps kp) fun u' tk' => ?_
  have ht1 : h₁.IsTuple t items := by
    obtain ⟨o, z1, z2, z3⟩ := ht
    exact ⟨o, kp _ _ z1, z2, z3⟩
  have hsz : 0 < items.size := by
    rcases Nat.eq_zero_or_pos items.size with z | z
    · rw [Array.getElem?_eq_none (by omega)] at hx
      cases hx
    · exact z
  refine subscriptTail_builtinR (x := .int kk u) (ht1.typeIs) slot_tuple_getitem.lookup (getItem_tuple (j := 0) (Q := fun r s' => r = .int kk u ∧ KeyPure (.int kk) s r s') ht1 (by decide) (by decide) (seqIndex_of (by decide) (by omega)) hx ⟨rfl, ?_⟩) (hpl _ _)
  exact ⟨h₁, _, rfl, kp, .int _ _⟩
end
end Deed

namespace Deed
open PySem PySem.Spec PySem.W PyProof.Rows L2 LamX
theorem each_vals {xs : List V} {us : List Value} (r : Vals xs us) : EachIs (fun u y => RelV y u) us xs := by
  induction r with
  | nil => exact .nil
  | cons h _ ih => exact .cons h ih
theorem vals_each {xs : List V} {us : List Value} (r : EachIs (fun u y => RelV y u) us xs) : Vals xs us := by
  induction r with
  | nil => exact .nil
  | cons h _ ih => exact .cons h ih
/-- sorted(e, key=lambda x: x[0]): some arrangement by the keys, at a new address; a table may have grown -/
def tSortK (K : PySem.W.Frag) (T : List (Addr × Str)) (te : TA) : TE := fun σ H Q => te σ H fun vs H1 => ∃ (a : Addr) (xs : List V) (ks : V → Int), vs = [.ref a] ∧ (SqL K H1 a xs ∨ SqT K H1 a xs) ∧ (∀ y ∈ xs, ∃ t r, y = .ref t ∧ H1 t = some (.tup (.int (ks y) :: r))) ∧ Tabs T H1 ∧
  ∀ p ys H2, ExtN H1 H2 → Tabs T H2 → H2 p = none → ys.Perm xs → ys.Pairwise (fun u v => ks u ≤ ks v) → Q (.ref p) (upd H2 p (.lst ys))
section
variable {X : Cx}
theorem pe_sortK {T : List (Addr × Str)} {c P : Addr} {k : Nat} {e ix : Expr} {te : TA} {x : Str} {params : Arguments} {scope : Scope} {p p1 p3 lpos kpos pos : Pos}
    (hg : Gl X "sorted") (hm : X.mg "sorted" = none) (ha : PA X [e] te) (hr : Room (k + 1) X.A) (TB : TabB X.base X.mg c P) (hcode : X.env.code = .ref c) (hmT : (P, X.env.qual ++ "<lambda>") ∈ T) (hu : ∀ p ∈ T, p.1 = P → p.2 = X.env.qual ++ "<lambda>")
    (hdef : defaultsOf params X.env = ([], [])) (hfree : ∀ y ∈ scope.names, y.2 ≠ .free)
    (hk : scope.kind = .function) (hco : scope.isCoroutine = false) (hgen : scope.isGenerator = false) (hcell : ∀ y ∈ scope.names, y.2 ≠ .cell) (hloc : scope.names.lookup x = some .local)
    (hbind : ∀ (q : Str) (cl : List (Str × Addr)) (pm cv ctv v : Value), bindArgs (kla_fn "<lambda>" q params (.Subscript (.Name x p1) ix p3) scope cl pm cv ctv) ⟨[v], []⟩ = pure [(x, v)])
    (hix : ∀ (env : Env) (A : Around) (E : Value → Shared → Prop) (s' : Shared) (Q : Value → Shared → Prop), env.scope = scope → env.globals = mainGlobals → s'.heap.Ns mainGlobals X.mg → (∀ u tk, Q (.int 0 u) { s' with toks := tk }) → wpAny (model X.prog X.w) A (eval ix env) Q E s')
    (hpl : PlainIx ix) (hd : (x == ("__debug__" : Str)) = false)
    (h1 : backTo pos (starEach [e] X.env) = (false, eval e X.env) :: backTo pos (starEach [] X.env) := by rfl) (h2 : (backTo pos (starEach [e] X.env)).any (·.1) = false := by rfl) :
    PE X (.Call (.Name "sorted" p) [e] [⟨some "key", .Lambda params (.Subscript (.Name x p1) ix p3) scope lpos, kpos⟩] pos) (tSortK X.K T te) := by
  refine ⟨fun pins s σ H Q I h => ?_⟩
  refine wpAny_Call_Name_kw (ld_blt I hg hm (show bootBuiltins "sorted" = some (.builtin "sorted") by decide +kernel) ?_)
  refine callWith_kw (thn (ha.run pos pins s σ H _ I h) fun us s1 ⟨vs, H1, I1, r1, q1⟩ => ?_) h1 h2 rfl rfl
  obtain ⟨a, xs, ks, rfl, hS, hxs, hT, q⟩ := q1
  obtain rfl := Vals.ref1 r1
  show wpAny _ _ (evalAll [(do let v ← eval (.Lambda params (.Subscript (.Name x p1) ix p3) scope lpos) X.env; standAt pos; pure v)]) _ _ s1
  refine wpAny_evalAll_cons (wpAny_bind (lam_make2 I1 TB hcode hmT hu hT hdef (fun y hy e => absurd e (hfree y hy)) fun f c' pm ctv H2 s2 I2 eN T2 hf hfn hfr hco' => wpAny_bind (wpAny_standAt (wpAny_pure (wpAny_evalAll_nil ?_)))))
  have seqs : ∃ its, Vals xs its ∧ xs.length ≤ sizeLine ∧ (s2.heap.IsList a its.toArray ∨ s2.heap.IsTuple a its.toArray) := by
    rcases hS with hS | hS
    · have hS2 : SqL X.K H2 a xs := by
        rcases hS with (z | ⟨o, z⟩) | z
        · exact .inl (.inl (eN _ _ z fun ps z' => by cases z'))
        · exact .inl (.inr ⟨o, eN _ _ z fun ps z' => by cases z'⟩)
        · exact .inr z
      obtain ⟨its, rv, hl, hz⟩ := I2.list hS2
      exact ⟨its, rv, hz, .inl hl.isList⟩
    · have hS2 : SqT X.K H2 a xs := by
        rcases hS with (z | ⟨o, z⟩) | z
        · exact .inl (.inl (eN _ _ z fun ps z' => by cases z'))
        · exact .inl (.inr ⟨o, eN _ _ z fun ps z' => by cases z'⟩)
        · exact .inr z
      obtain ⟨its, rv, hl, hz⟩ := I2.tuple hS2
      exact ⟨its, rv, hz, .inr hl⟩
  obtain ⟨its, rv, hz, hl⟩ := seqs
  have hun := hr.un
  have hdp := hr.dp
  show wpAny (model X.prog X.w) X.A (call (.builtin "sorted") [.ref a] [(Str.ofString "key", .ref f)]) _ _ s2
  refine sortedK (R := fun u y => RelV y u) ks hl (each_vals rv) hz (by omega) (fun u y hR hy h tk kp => ?_) fun out ep h' tk kp hD hlen eo => ?_
  · obtain ⟨t, r, rfl, ht⟩ := hxs y hy
    obtain rfl : u = Value.ref t := hR
    have ht2 := eN _ _ ht fun ps z' => by cases z'
    obtain ⟨_, its2, r2, o, ho, hc, n, hd2⟩ := I2.hok _ _ ht2
    obtain ⟨oc, vs, tt, c1, c2, c3⟩ := (I2.hok c' _ hco').1
    cases r2 with
    | cons ru r3 =>
      obtain ⟨tu, rfl⟩ := ru
      refine lam_key (u := tu) (s := { s2 with heap := h, toks := tk }) (kp _ _ hf) ⟨c', oc, vs, tt, rfl, kp _ _ c1, c2, c3⟩ ?_ (I2.nolimit.keeps kp) ((I2.mod.glob.keeps I2.bk).keeps kp) hk hco hgen hcell hloc (fun v => hbind _ _ _ _ _ v) hix hpl hd ⟨o, kp _ _ ho, hc, n, hd2⟩ (by simp)
      show X.A.depth < recursionLimit
      omega
  · rw [dataLe_int] at eo
    have hp : (xs.mergeSort fun a b => decide (ks a ≤ ks b)).Perm xs := List.mergeSort_perm _ _
    have hs : (xs.mergeSort fun a b => decide (ks a ≤ ks b)).Pairwise (fun u v => ks u ≤ ks v) := by
      have := List.pairwise_mergeSort (le := fun a b => decide (ks a ≤ ks b)) (fun a b c h1 h2 => by simp only [decide_eq_true_eq] at *; omega) (fun a b => by simp only [Bool.or_eq_true, decide_eq_true_eq]; omega) xs
      exact this.imp fun h => of_decide_eq_true h
    refine ⟨.ref _, _, I2.laid (t' := tk) kp (Nat.le_succ _) (show ObjOk X.prog X.w _ h' _ (.lst (xs.mergeSort fun a b => decide (ks a ≤ ks b))) from ⟨by rw [hp.length_eq]; exact hz, out, ep, vals_each eo, hD⟩), rfl, q _ _ H2 eN T2 (I2.hok.fresh (Nat.le_succ _)) hp hs⟩
end
end Deed

namespace Deed
open PySem PySem.Spec PyProof.Rows L2 LamX
/-! ### a def whose code object's table is told -/
theorem okC {P : Program} {w : World} {K : PySem.W.Frag} {mg : Str → Option Value} {base : Heap} {x qual : Str} {st : Stmt} {f c : Addr} {fd : FuncData} {N ps : List Str} {k : Nat} {sp : Sp} (F : Fun K x qual st f fd) (hc : fd.code = .ref c) (S : FnScope N ps (defScope st)) (len : ∀ vs H Q E, sp vs H Q E → vs.length = ps.length)
    (hbody : ∀ (A : Around) (outer : List Env) (s : Shared) (H : Hp) (vs : List V) (Q : VK) (E : XK), Room k (A.deeper (envOfC qual (defScope st) s.heap.objs.size f (.ref c))) → sp vs H Q E →
      ∃ t, PSs (cxOf CX0 P w K mg base N qual (defScope st) f (.ref c) A outer s H E).nox (defBody st) t ∧ t { nx := fun _ H' => Q .non H', rt := Q } (start N vs) H) : FnOk P w K mg base CX0 (k + 1) f fd ps sp := by
  obtain ⟨oc, od, kV, doc, pm, an, cdv, ct, osl, rfl, lk, hcd⟩ := F.ex
  have e : cdv = .ref c := hc
  subst e
  refine fn_of lk hcd S len fun A outer s H vs Q E hr hsp => ?_
  obtain ⟨t, h, q⟩ := hbody A outer s H vs Q E hr hsp
  exact ⟨t, h.nox, q⟩
/-- the number that stands ahead in the tuple at v -/
def keyAt (H : Hp) (v : V) : Int := match v with
  | .ref t => (match H t with
    | some (.tup (.int n :: _)) => n
    | _ => 0)
  | _ => 0
theorem EntAt.key {H : Hp} {a : Addr} {e : En} (h : EntAt H a e) : ∃ r, H a = some (.tup (.int e.num :: r)) ∧ keyAt H (.ref a) = e.num := by
  have fin : ∀ r, H a = some (.tup (.int e.num :: r)) → keyAt H (.ref a) = e.num := fun r z => by
    show (match H a with | some (.tup (.int n :: _)) => n | _ => 0) = e.num
    rw [z]
  unfold EntAt at h
  cases hk : e.kd with
  | deed g t rs ws =>
    rw [hk] at h
    obtain ⟨r, w, h1, _⟩ := h
    exact ⟨_, h1, fin _ h1⟩
  | act x o =>
    rw [hk] at h
    exact ⟨_, h, fin _ h⟩
/-- what isn't tracked, or a table -/
def Fresh (H : Hp) (p : Addr) : Prop := ∀ o, H p = some o → ∃ ps, o = .tbl ps
theorem Fresh.of {H H' : Hp} {p : Addr} (e : ExtN H H') (n : H' p = none) : Fresh H p := fun o z => by
  by_cases h : ∃ ps, o = .tbl ps
  · exact h
  · rw [e p o z fun ps q => h ⟨ps, q⟩] at n
    cases n
theorem Fresh.ne {H : Hp} {p b : Addr} {o : HO} (f : Fresh H p) (e : H b = some o) (h : ∀ ps, o ≠ .tbl ps) : b ≠ p := fun z => by
  rw [z] at e
  obtain ⟨ps, q⟩ := f o e
  exact h ps q
theorem Fresh.up {H H' : Hp} {p : Addr} (e : ExtN H H') (f : Fresh H' p) : Fresh H p := fun o z => by
  by_cases h : ∃ ps, o = .tbl ps
  · exact h
  · exact f o (e p o z fun ps q => h ⟨ps, q⟩)
theorem ExtN.tup {H H' : Hp} (e : ExtN H H') : KpT H H' := fun b xs z => e _ _ z fun ps q => by cases q
theorem ExtN.new {H : Hp} {p : Addr} (n : H p = none) (o : HO) : ExtN H (upd H p o) := .of fun b u e => by
  rw [upd_ne (ne_of_none e n)]
  exact e
theorem Tabs.new {T : List (Addr × Str)} {H : Hp} (t : Tabs T H) {p : Addr} (n : H p = none) (o : HO) : Tabs T (upd H p o) := t.ext fun b u e => by
  rw [upd_ne (ne_of_none e n)]
  exact e
/-- a tracked list is written: the tables stay -/
theorem Tabs.put {T : List (Addr × Str)} {H : Hp} (t : Tabs T H) {p : Addr} {xs : List V} (e : H p = some (.lst xs)) (o : HO) : Tabs T (upd H p o) := fun q hq => by
  obtain ⟨ps, h1, h2, h3⟩ := t q hq
  have n1 : q.1 ≠ p := fun z => by
    rw [z, e] at h1
    cases h1
  refine ⟨ps, by rw [upd_ne n1]; exact h1, h2, fun pos cv hc => ?_⟩
  obtain ⟨c, e1, e2⟩ := h3 pos cv hc
  refine ⟨c, e1, ?_⟩
  have n2 : c ≠ p := fun z => by
    rw [z, e] at e2
    unfold CodeO at e2
    cases e2
  rw [upd_ne n2]
  exact e2
theorem srt_num {H : Hp} {zs : List (Addr × En)} (he : ∀ z ∈ zs, EntAt H z.1 z.2) (nd : ((ens zs).map (·.num)).Nodup) (h : (refs zs).Pairwise (fun u v => keyAt H u ≤ keyAt H v)) : zs.Pairwise (fun a b => a.2.num < b.2.num) := by
  induction zs with
  | nil => exact .nil
  | cons z r ih =>
    have h1 := List.pairwise_cons.mp h
    have nd' : (z.2.num :: (ens r).map (·.num)).Nodup := nd
    have h2 := List.nodup_cons.mp nd'
    refine List.pairwise_cons.mpr ⟨fun y hy => ?_, ih (fun y hy => he y (List.mem_cons_of_mem _ hy)) h2.2 h1.2⟩
    have h3 := h1.1 (.ref y.1) (List.mem_map.mpr ⟨y, hy, rfl⟩)
    obtain ⟨_, _, k1⟩ := (he z List.mem_cons_self).key
    obtain ⟨_, _, k2⟩ := (he y (List.mem_cons_of_mem _ hy)).key
    rw [k1, k2] at h3
    have h4 : z.2.num ≠ y.2.num := fun q => h2.1 (List.mem_map.mpr ⟨y.2, List.mem_map.mpr ⟨y, hy, rfl⟩, q.symm⟩)
    omega
section
variable {P : Program} {w : World} {K : PySem.W.Frag} {mg : Str → Option Value} {base : Heap} {fRi : Addr} {dRi : FuncData} {T : List (Addr × Str)}
/-- an int of the module's top -/
def MgInt (mg : Str → Option Value) (x : Str) (i : Int) : Prop := ∃ t, mg x = some (.int i t)
theorem pe_num {X : Cx} {x : Str} {i : Int} {pos : Pos} (hg : Gl X x) (h : MgInt X.mg x i) (hd : (x == ("__debug__" : Str)) = false := by decide) : PE X (.Name x pos) (tC (.int i)) := by
  obtain ⟨t, h⟩ := h
  exact pe_glob hg h ⟨t, rfl⟩ hd
/-! ### the entries by their numbers -/
abbrev sRising : Stmt := topS 10
theorem scRising : FnScope ["book"] ["book"] (defScope sRising) := ⟨rfl, rfl, rfl, by decide +kernel, rfl, by decide +kernel, by decide +kernel⟩
/-- the book's text of the lambda's name -/
def qRis : Str := "entries_rising.<locals>.<lambda>"
def spRising (T : List (Addr × Str)) : Sp := fun vs H Q _ => ∃ (b fk t : Addr) (n : Nat) (age : Int) (zs : List (Addr × En)), vs = [.ref b] ∧ BookAt H b fk t n age zs ∧ Tabs T H ∧
  ∀ (p : Addr) (zs' : List (Addr × En)) (H' : Hp), ExtN H H' → Tabs T H' → Fresh H p → H' p = some (.lst (refs zs')) → zs'.Perm zs → zs'.Pairwise (fun a b => a.2.num < b.2.num) → Q (.ref p) H'
theorem ok_rising {f c tb : Addr} {fd : FuncData} {k : Nat} (F : Fun K "entries_rising" "entries_rising" sRising f fd) (hc : fd.code = .ref c) (TB : TabB base mg c tb) (ms : mg "sorted" = none) (mN : MgInt mg "NUMBER" 0) (hmT : (tb, qRis) ∈ T) (hu : ∀ p ∈ T, p.1 = tb → p.2 = qRis) :
    FnOk P w K mg base CX0 (k + 2) f fd ["book"] (spRising T) := by
  refine okC F hc scRising (fun vs H Q E h => ?_) (fun A outer s H vs Q E hr h => ?_)
  · obtain ⟨b, fk, t, n, age, zs, rfl, _⟩ := h
    rfl
  · obtain ⟨b, fk, t, n, age, zs, rfl, hB, hT, q⟩ := h
    refine ⟨_, pss_one (ps_ret (pe_sortK (T := T) (c := c) (P := tb) (k := k) (by rfl) ms (pa_cons (pe_ix ix_tup (pv 0) pe_int (fun _ _ => rfl)) pa_nil) hr TB rfl hmT hu rfl (by decide +kernel) rfl rfl rfl (by decide +kernel) rfl (fun _ _ _ _ _ _ => rfl) (fun env A E s' Q he hg hn hq => ?ix) (fun _ _ => rfl) (by decide))), ?_⟩
    case ix =>
      obtain ⟨tk, hN⟩ := mN
      refine Calls.Name_function_global (by rw [he]) (by unfold Env.kindOf; rw [he]; rfl) (Calls.loadGlobal_global (by rw [hg]; exact hn) hN (hq tk s'.toks))
    refine ⟨_, rfl, b, _, 2, _, rfl, rfl, SqT.of hB.at_, atI_nat (j := 2) rfl, t, refs zs, keyAt H, rfl, .inr (SqT.of hB.ents), fun y hy => ?_, hT, fun p ys H2 eN T2 np pm so => ?_⟩
    · obtain ⟨z, hz, rfl⟩ := List.mem_map.mp hy
      obtain ⟨r, h1, h2⟩ := (hB.ent z hz).key
      exact ⟨z.1, r, rfl, by rw [h2]; exact h1⟩
    · obtain ⟨zs', rfl, hp⟩ := perm_pairs (fun z : Addr × En => V.ref z.1) pm zs rfl
      refine q p zs' _ (eN.trans (ExtN.new np _)) (Tabs.new T2 np _) (Fresh.of eN np) upd_same hp (srt_num (fun z hz => hB.ent z (hp.mem_iff.mp hz)) (((hp.map _).map _).nodup_iff.mpr hB.ok.nd) so)
end
end Deed

namespace Deed
open PySem PySem.Spec PyProof.Rows L2 LamX
theorem take_more {α : Type} {l : List α} {i : Nat} {x : α} (h : l[i]? = some x) : l.take (i + 1) = l.take i ++ [x] := by
  rw [List.take_add_one, h]
  rfl
theorem ref_at {zs : List (Addr × En)} {i : Nat} {x : V} (h : (refs zs)[i]? = some x) : ∃ z, zs[i]? = some z ∧ x = .ref z.1 := by
  rw [List.getElem?_map] at h
  cases e : zs[i]? with
  | none => rw [e] at h; cases h
  | some z =>
    rw [e] at h
    exact ⟨z, rfl, (Option.some.inj h).symm⟩
section
variable {P : Program} {w : World} {K : PySem.W.Frag} {mg : Str → Option Value} {base : Heap} {fRi fDe : Addr} {dRi dDe : FuncData} {T : List (Addr × Str)}
/-- what entries_rising needs -/
structure RisD (K : PySem.W.Frag) (mg : Str → Option Value) (base : Heap) (T : List (Addr × Str)) (f : Addr) (fd : FuncData) : Prop where
  D : Df K mg "entries_rising" sRising ["book"] f fd
  hc : ∃ c tb, fd.code = .ref c ∧ TabB base mg c tb ∧ (tb, qRis) ∈ T ∧ ∀ p ∈ T, p.1 = tb → p.2 = qRis
  ms : mg "sorted" = none
  mN : MgInt mg "NUMBER" 0
theorem RisD.ok {k : Nat} {f : Addr} {fd : FuncData} (R : RisD K mg base T f fd) : FnOk P w K mg base CX0 (k + 2) f fd ["book"] (spRising T) := by
  obtain ⟨c, tb, h1, h2, h3, h4⟩ := R.hc
  exact ok_rising R.D.F h1 h2 R.ms R.mN h3 h4
/-- the entries that φ picks, by their numbers -/
def spPick (φ : En → Bool) (T : List (Addr × Str)) : Sp := fun vs H Q _ => ∃ (b fk t : Addr) (n : Nat) (age : Int) (zs : List (Addr × En)), vs = [.ref b] ∧ BookAt H b fk t n age zs ∧ Tabs T H ∧
  ∀ (p : Addr) (zs' : List (Addr × En)) (H' : Hp), ExtN H H' → Tabs T H' → Fresh H p → H' p = some (.lst (refs (zs'.filter fun z => φ z.2))) → zs'.Perm zs → zs'.Pairwise (fun a b => a.2.num < b.2.num) → Q (.ref p) H'
/-! ### their numbers -/
/-- the numbers of what φ picks, rising -/
def spNums (φ : En → Bool) (T : List (Addr × Str)) : Sp := fun vs H Q _ => ∃ (b fk t : Addr) (n : Nat) (age : Int) (zs : List (Addr × En)), vs = [.ref b] ∧ BookAt H b fk t n age zs ∧ Tabs T H ∧
  ∀ (p : Addr) (zs' : List (Addr × En)) (H' : Hp), ExtN H H' → Tabs T H' → Fresh H p → H' p = some (.lst (((zs'.filter fun z => φ z.2).map fun z => z.2.num).map V.int)) → zs'.Perm zs → zs'.Pairwise (fun a b => a.2.num < b.2.num) → Q (.ref p) H'
end
end Deed

namespace Deed
open PySem PySem.Spec PyProof.Rows L2 LamX
section
variable {P : Program} {w : World} {K : PySem.W.Frag} {mg : Str → Option Value} {base : Heap} {fRi fDe : Addr} {dRi dDe : FuncData} {T : List (Addr × Str)}
abbrev sActE : Stmt := topS 11
theorem scActE : FnScope ["book", "entry"] ["book"] (defScope sActE) := ⟨rfl, rfl, rfl, by decide +kernel, rfl, by decide +kernel, by decide +kernel⟩
theorem ok_actE {f : Addr} {fd : FuncData} {k : Nat} (F : Fun K "act_entries" "act_entries" sActE f fd) (R : RisD K mg base T fRi dRi) (mW : MgInt mg "WORD" 4) : FnOk P w K mg base CX0 (k + 3) f fd ["book"] (spPick (fun e => !e.isDeed) T) := by
  have GR : FnOk P w K mg base CX0 (k + 2) fRi dRi ["book"] (spRising T) := R.ok
  refine F.ok scActE (fun vs H Q E h => ?_) (fun cdv A outer s H vs Q E hr h => ?_)
  · obtain ⟨b, fk, t, n, age, zs, rfl, _⟩ := h
    rfl
  · obtain ⟨b, fk, t, n, age, zs, rfl, hB, hT, q⟩ := h
    refine ⟨_, pss_one (ps_ret (pe_lc (own := [("entry", 1)]) (g := gName 1) (by rfl) scActE.nd (pi_list (pe_call GR hr (by rfl) R.D.g R.D.F.kp R.D.b .nil pass0 (pa_cons (pv 0) pa_nil))) (blkOk_by (own := [("entry", 1)]) (N := ["book", "entry"]) (sc := defScope sActE) (by decide +kernel)) (fun _ _ _ _ _ => pg_name (i := 1) scActE.nd rfl (Or.inl rfl))
      (fun _ _ _ _ _ => pts_one (pt_cmpR op_ne (show PE _ _ (tOp (rIxT K) (tVar 1) (tC (.int 4))) from pe_ix ix_tup (pv 1) (pe_num (by rfl) mW) (fun _ _ => rfl)) pe_str (nomark _))) (fun _ _ _ _ _ => pv 1))), ?_⟩
    refine ⟨_, rfl, b, fk, t, n, age, zs, rfl, hB, hT, fun p zs' H1 eN T1 fr ep pm so => ?_⟩
    have hent : ∀ z ∈ zs', EntAt H1 z.1 z.2 := fun z hz => (hB.ent z (pm.mem_iff.mp hz)).kp (ExtN.tup eN)
    refine ⟨p, rfl, ⟨_, SqL.of ep⟩, fun D nD => ?_⟩
    have npD : p ≠ D := ne_of_none ep nD
    refine lc_list (K := K) (a := p) (xs := refs zs') (fun i H' => H' D = some (.lst (refs ((zs'.take i).filter fun z => !z.2.isDeed))) ∧ Same H1 H') ⟨upd_same, fun b o e => by rw [upd_ne (ne_of_none e nD)]; exact e⟩ (fun i H' _ h => SqL.of (h.2 _ _ ep)) ?_ ?_
    · rintro i x H' hx ⟨eD, sm⟩
      obtain ⟨z, hz, rfl⟩ := ref_at hx
      have hzm : z ∈ zs' := List.mem_of_getElem? hz
      obtain ⟨xs, ex, _, _, _, _, g4⟩ := ((hent z hzm).kp (Same.tup sm)).tup
      refine ⟨rfl, _, rfl, z.1, xs, 4, _, rfl, rfl, SqT.of ex, g4, rfl, _, rfl, ?_⟩
      have wd := (hB.ok.ok z.2 (List.mem_map.mpr ⟨z, pm.mem_iff.mp hzm, rfl⟩)).word
      have et := take_more hz
      refine ite2 (fun c => ?_) (fun c => ?_)
      · have hd : z.2.isDeed = false := by
          cases hh : z.2.isDeed with
          | false => rfl
          | true =>
            have c' : (!decide (V.str z.2.word = V.str "deed")) = true := c
            rw [wd.mpr hh] at c'
            simp at c'
        refine ⟨_, rfl, _, eD, small1000 ?_, ?_, fun b o e => ?_⟩
        · have h1 := List.length_filter_le (fun z : Addr × En => !z.2.isDeed) (zs'.take i)
          have h2 := pm.length_eq
          have h3 := hB.len
          rw [List.length_map]
          rw [List.length_take] at h1
          omega
        · rw [upd_same, et, List.filter_append]
          simp [hd, refs]
        · have nb : b ≠ D := ne_of_none e nD
          rw [upd_ne nb]
          exact sm _ _ e
      · have hd : z.2.isDeed = true := by
          cases hh : z.2.isDeed with
          | true => rfl
          | false =>
            refine absurd ?_ c
            show (!decide (V.str z.2.word = V.str "deed")) = true
            have : ¬ (V.str z.2.word = V.str "deed") := fun q => by
              injection q with q
              rw [wd.mp q] at hh
              cases hh
            rw [decide_eq_false this]
            rfl
        refine ⟨?_, sm⟩
        rw [eD, et, List.filter_append]
        simp [hd]
    · rintro H' ⟨eD, sm⟩
      have el : zs'.take (refs zs').length = zs' := List.take_of_length_le (by rw [List.length_map]; exact Nat.le_refl _)
      rw [el] at eD
      exact q D zs' H' (eN.trans (.of sm)) (T1.ext sm) (Fresh.of eN nD) eD pm so
end
end Deed

namespace Deed
open PySem PySem.Spec PyProof.Rows L2 LamX
section
variable {P : Program} {w : World} {K : PySem.W.Frag} {mg : Str → Option Value} {base : Heap} {fRi fDe : Addr} {dRi dDe : FuncData} {T : List (Addr × Str)}
abbrev sActsOf : Stmt := topS 12
theorem scActsOf : FnScope ["book", "entry"] ["book"] (defScope sActsOf) := ⟨rfl, rfl, rfl, by decide +kernel, rfl, by decide +kernel, by decide +kernel⟩
theorem ok_ActsOf {f : Addr} {fd : FuncData} {k : Nat} (F : Fun K "acts_of" "acts_of" sActsOf f fd) (DE : Df K mg "act_entries" sActE ["book"] fDe dDe) (GE : FnOk P w K mg base CX0 (k + 3) fDe dDe ["book"] (spPick (fun e => !e.isDeed) T)) (mN : MgInt mg "NUMBER" 0) : FnOk P w K mg base CX0 (k + 4) f fd ["book"] (spNums (fun e => !e.isDeed) T) := by
  refine F.ok scActsOf (fun vs H Q E h => ?_) (fun cdv A outer s H vs Q E hr h => ?_)
  · obtain ⟨b, fk, t, n, age, zs, rfl, _⟩ := h
    rfl
  · obtain ⟨b, fk, t, n, age, zs, rfl, hB, hT, q⟩ := h
    refine ⟨_, pss_one (ps_ret (pe_lc (own := [("entry", 1)]) (g := gName 1) (by rfl) scActsOf.nd (pi_list (pe_call GE hr (by rfl) DE.g DE.F.kp DE.b .nil pass0 (pa_cons (pv 0) pa_nil))) (blkOk_by (own := [("entry", 1)]) (N := ["book", "entry"]) (sc := defScope sActsOf) (by decide +kernel)) (fun _ _ _ _ _ => pg_name (i := 1) scActsOf.nd rfl (Or.inl rfl))
      (fun _ _ _ _ _ => pts_nil) (fun _ _ _ _ _ => show PE _ _ (tOp (rIxT K) (tVar 1) (tC (.int 0))) from pe_ix ix_tup (pv 1) (pe_num (by rfl) mN) (fun _ _ => rfl)))), ?_⟩
    refine ⟨_, rfl, b, fk, t, n, age, zs, rfl, hB, hT, fun p zs' H1 eN T1 fr ep pm so => ?_⟩
    have hent : ∀ z ∈ zs', EntAt H1 z.1 z.2 := fun z hz => (hB.ent z (pm.mem_iff.mp hz)).kp (ExtN.tup eN)
    refine ⟨p, rfl, ⟨_, SqL.of ep⟩, fun D nD => ?_⟩
    refine lc_list (K := K) (a := p) (xs := refs (zs'.filter fun z => (fun e => !e.isDeed) z.2)) (fun i H' => H' D = some (.lst ((((zs'.filter fun z => (fun e => !e.isDeed) z.2).take i).map fun z => z.2.num).map V.int)) ∧ Same H1 H') ⟨upd_same, fun b o e => by rw [upd_ne (ne_of_none e nD)]; exact e⟩ (fun i H' _ h => SqL.of (h.2 _ _ ep)) ?_ ?_
    · rintro i x H' hx ⟨eD, sm⟩
      obtain ⟨z, hz, rfl⟩ := ref_at hx
      have hzm : z ∈ zs' := (List.mem_filter.mp (List.mem_of_getElem? hz)).1
      obtain ⟨xs, ex, g0, _⟩ := ((hent z hzm).kp (Same.tup sm)).tup
      refine ⟨rfl, ?_⟩
      unfold tYes
      dsimp only
      rw [if_pos rfl]
      refine ⟨_, rfl, z.1, xs, 0, _, rfl, rfl, SqT.of ex, g0, _, eD, small1000 ?_, ?_, fun b o e => ?_⟩
      · have h1 := List.length_filter_le (fun z : Addr × En => (fun e => !e.isDeed) z.2) zs'
        have h2 := pm.length_eq
        have h3 := hB.len
        rw [List.length_map, List.length_map, List.length_take]
        omega
      · rw [upd_same, take_more hz, List.map_append, List.map_append]
        rfl
      · have nb : b ≠ D := ne_of_none e nD
        rw [upd_ne nb]
        exact sm _ _ e
    · rintro H' ⟨eD, sm⟩
      have el : (zs'.filter fun z => (fun e => !e.isDeed) z.2).take (refs (zs'.filter fun z => (fun e => !e.isDeed) z.2)).length = zs'.filter fun z => (fun e => !e.isDeed) z.2 := List.take_of_length_le (by rw [List.length_map]; exact Nat.le_refl _)
      rw [el] at eD
      exact q D zs' H' (eN.trans (.of sm)) (T1.ext sm) (Fresh.of eN nD) eD pm so
end
end Deed

namespace Deed
open PySem PySem.Spec PyProof.Rows L2 LamX
theorem Tabs.kp {T : List (Addr × Str)} {H H' : Hp} {p : Addr} (t : Tabs T H) (k : Kp p H H') (P : PenAt H p) : Tabs T H' := fun q hq => by
  obtain ⟨ps, h1, h2, h3⟩ := t q hq
  refine ⟨ps, k _ _ (P.ne h1 fun _ z => by cases z) h1, h2, fun pos cv hc => ?_⟩
  obtain ⟨c, e1, e2⟩ := h3 pos cv hc
  exact ⟨c, e1, k _ _ (P.ne e2 fun _ z => by unfold CodeO at z; cases z) e2⟩
theorem ExtN.sqL {K : PySem.W.Frag} {H H' : Hp} {a : Addr} {xs : List V} (e : ExtN H H') (h : SqL K H a xs) : SqL K H' a xs := by
  rcases h with (z | ⟨o, z⟩) | z
  · exact .inl (.inl (e _ _ z fun ps z' => by cases z'))
  · exact .inl (.inr ⟨o, e _ _ z fun ps z' => by cases z'⟩)
  · exact .inr z
theorem ExtN.pen {H H' : Hp} {p : Addr} (e : ExtN H H') (h : PenAt H p) : PenAt H' p := by
  obtain ⟨x1, x2, x3, x4, z1, z2⟩ := h
  exact ⟨x1, x2, x3, x4, e _ _ z1 fun ps z => (by cases z), z2⟩
/-- with a pen that is new -/
theorem ExtN.kp {H H1 H2 : Hp} {p : Addr} (e : ExtN H H1) (n : H p = none) (k : Kp p H1 H2) : ExtN H H2 := fun b o z h => k b o (ne_of_none z n) (e b o z h)
theorem ExtN.put {H H' : Hp} {p : Addr} (e : ExtN H H') (f : Fresh H p) (o : HO) : ExtN H (upd H' p o) := fun b u z h => by
  rw [upd_ne (f.ne z h)]
  exact e b u z h
theorem rising_one : ∀ {l m : List Int}, l.Pairwise (· < ·) → m.Pairwise (· < ·) → (∀ x, x ∈ l ↔ x ∈ m) → l = m
  | [], [], _, _, _ => rfl
  | [], y :: m, _, _, h => absurd ((h y).mpr List.mem_cons_self) (by simp)
  | x :: l, [], _, _, h => absurd ((h x).mp List.mem_cons_self) (by simp)
  | x :: l, y :: m, h1, h2, h => by
    have a1 := List.pairwise_cons.mp h1
    have a2 := List.pairwise_cons.mp h2
    have exy : x = y := by
      have m1 := (h x).mp List.mem_cons_self
      have m2 := (h y).mpr List.mem_cons_self
      rcases List.mem_cons.mp m1 with e | e
      · exact e
      · rcases List.mem_cons.mp m2 with e' | e'
        · exact e'.symm
        · have := a1.1 y e'
          have := a2.1 x e
          omega
    subst exy
    congr 1
    refine rising_one a1.2 a2.2 fun z => ?_
    constructor
    · intro hz
      rcases List.mem_cons.mp ((h z).mp (List.mem_cons_of_mem _ hz)) with e | e
      · have := a1.1 z hz
        omega
      · exact e
    · intro hz
      rcases List.mem_cons.mp ((h z).mpr (List.mem_cons_of_mem _ hz)) with e | e
      · have := a2.1 z hz
        omega
      · exact e
/-- the picked numbers of an arrangement by numbers -/
def picked (φ : En → Bool) (zs : List (Addr × En)) : List Int := (zs.filter fun z => φ z.2).map fun z => z.2.num
theorem picked_up {φ : En → Bool} {zs : List (Addr × En)} (h : zs.Pairwise (fun a b => a.2.num < b.2.num)) : (picked φ zs).Pairwise (· < ·) := by
  unfold picked
  exact List.pairwise_map.mpr (h.filter _)
theorem mem_picked {φ : En → Bool} {zs : List (Addr × En)} {x : Int} : x ∈ picked φ zs ↔ ∃ z ∈ zs, φ z.2 = true ∧ z.2.num = x := by
  unfold picked
  simp only [List.mem_map, List.mem_filter]
  constructor
  · rintro ⟨z, ⟨h1, h2⟩, h3⟩
    exact ⟨z, h1, h2, h3⟩
  · rintro ⟨z, h1, h2, h3⟩
    exact ⟨z, ⟨h1, h2⟩, h3⟩
theorem picked_len (φ : En → Bool) (zs : List (Addr × En)) : (picked φ zs).length ≤ zs.length := by
  unfold picked
  rw [List.length_map]
  exact List.length_filter_le _ _
/-- two arrangements of the same entries -/
theorem picked_one {φ : En → Bool} {zs zs' : List (Addr × En)} (h : zs.Pairwise (fun a b => a.2.num < b.2.num)) (h' : zs'.Pairwise (fun a b => a.2.num < b.2.num)) (e : ∀ x, x ∈ ens zs ↔ x ∈ ens zs') : picked φ zs = picked φ zs' := by
  refine rising_one (picked_up h) (picked_up h') fun x => ?_
  rw [mem_picked, mem_picked]
  constructor
  · rintro ⟨z, h1, h2, h3⟩
    obtain ⟨z', h4, h5⟩ := List.mem_map.mp ((e z.2).mp (List.mem_map.mpr ⟨z, h1, rfl⟩))
    exact ⟨z', h4, by rw [h5]; exact h2, by rw [h5]; exact h3⟩
  · rintro ⟨z, h1, h2, h3⟩
    obtain ⟨z', h4, h5⟩ := List.mem_map.mp ((e z.2).mpr (List.mem_map.mpr ⟨z, h1, rfl⟩))
    exact ⟨z', h4, by rw [h5]; exact h2, by rw [h5]; exact h3⟩
theorem ens_perm {zs zs' : List (Addr × En)} (h : zs'.Perm zs) : ∀ x, x ∈ ens zs' ↔ x ∈ ens zs := fun x => (h.map _).mem_iff
end Deed

namespace Deed
open PySem PySem.Spec PyProof.Rows L2 LamX
/-! ### acts in force: the mathematics -/
def En.of (e : En) : Int := match e.kd with
  | .deed _ _ _ _ => -1
  | .act _ o => o
def isOpen (d k : Int) (e : En) : Bool := decide (e.day ≤ d) && decide (e.wri ≤ k)
/-- an entry of the word x that is of the number n -/
def isOn (x : Str) (n : Int) (e : En) : Bool := decide (e.word = x) && decide (e.of = n)
def frcF (es : List En) (d k : Int) : Nat → En → Bool
  | 0, _ => false
  | f + 1, e => isOpen d k e && es.all fun u => !(isOn "undone" e.num u && frcF es d k f u)
def frc (es : List En) (d k : Int) (e : En) : Bool := frcF es d k (31 - e.num).toNat e
theorem EnOk.of_lt {n : Nat} {ds as : List Int} {e : En} (h : EnOk n ds as e) (hd : e.isDeed = false) : e.of < e.num ∧ ((e.word = "undone" ∧ e.of ∈ as) ∨ ((e.word = "paid" ∨ e.word = "void") ∧ e.of ∈ ds)) := by
  unfold En.isDeed at hd
  unfold En.of En.word
  cases hk : e.kd with
  | deed g t rs ws =>
    rw [hk] at hd
    cases hd
  | act x o =>
    have h4 := h.2.2.2
    rw [hk] at h4
    exact ⟨h4.2, h4.1⟩
theorem isOn_act {n : Nat} {ds as : List Int} {e : En} {x : Str} {m : Int} (h : EnOk n ds as e) (hx : x ≠ "deed") (ho : isOn x m e = true) : e.isDeed = false ∧ e.word = x ∧ e.of = m := by
  unfold isOn at ho
  rw [Bool.and_eq_true] at ho
  have h1 := of_decide_eq_true ho.1
  have h2 := of_decide_eq_true ho.2
  refine ⟨?_, h1, h2⟩
  cases hd : e.isDeed with
  | false => rfl
  | true => exact absurd ((h.word.mpr hd).symm.trans h1) (fun z => hx z.symm)
theorem frcF_one {n : Nat} {es : List En} (hB : BkOk n es) (d k : Int) : ∀ (f g : Nat) (e : En), e ∈ es → (31 - e.num).toNat ≤ f → (31 - e.num).toNat ≤ g → frcF es d k f e = frcF es d k g e := by
  intro f
  induction f with
  | zero =>
    intro g e he hf _
    have := hB.rng e he
    omega
  | succ f ih =>
    intro g e he hf hg
    have re := hB.rng e he
    cases g with
    | zero => omega
    | succ g =>
      show (isOpen d k e && es.all fun u => !(isOn "undone" e.num u && frcF es d k f u)) = (isOpen d k e && es.all fun u => !(isOn "undone" e.num u && frcF es d k g u))
      congr 1
      have key : ∀ u ∈ es, (isOn "undone" e.num u && frcF es d k f u) = (isOn "undone" e.num u && frcF es d k g u) := fun u hu => by
        cases ho : isOn "undone" e.num u with
        | false => rfl
        | true =>
          obtain ⟨h1, h2, h3⟩ := isOn_act (hB.ok u hu) (by decide) ho
          have lt := ((hB.ok u hu).of_lt h1).1
          rw [ih g u hu (by omega) (by omega)]
      rw [Bool.eq_iff_iff, List.all_eq_true, List.all_eq_true]
      constructor
      · intro h u hu
        rw [← key u hu]
        exact h u hu
      · intro h u hu
        rw [key u hu]
        exact h u hu
theorem frcF_eq {n : Nat} {es : List En} (hB : BkOk n es) (d k : Int) {f : Nat} {e : En} (he : e ∈ es) (hf : (31 - e.num).toNat ≤ f) : frcF es d k f e = frc es d k e := frcF_one hB d k _ _ e he hf (Nat.le_refl _)
/-- in force: open, and no undone of it in force -/
theorem frc_eq {n : Nat} {es : List En} (hB : BkOk n es) (d k : Int) {e : En} (he : e ∈ es) : frc es d k e = (isOpen d k e && es.all fun u => !(isOn "undone" e.num u && frc es d k u)) := by
  have re := hB.rng e he
  rw [← frcF_eq hB d k (f := 31) he (by omega)]
  show (isOpen d k e && es.all fun u => !(isOn "undone" e.num u && frcF es d k 30 u)) = _
  congr 1
  have key : ∀ u ∈ es, (isOn "undone" e.num u && frcF es d k 30 u) = (isOn "undone" e.num u && frc es d k u) := fun u hu => by
    cases ho : isOn "undone" e.num u with
    | false => rfl
    | true =>
      obtain ⟨h1, h2, h3⟩ := isOn_act (hB.ok u hu) (by decide) ho
      have lt := ((hB.ok u hu).of_lt h1).1
      rw [frcF_eq hB d k hu (by omega)]
  rw [Bool.eq_iff_iff, List.all_eq_true, List.all_eq_true]
  constructor
  · intro h u hu
    rw [← key u hu]
    exact h u hu
  · intro h u hu
    rw [key u hu]
    exact h u hu
theorem frc_open {n : Nat} {es : List En} (hB : BkOk n es) {d k : Int} {e : En} (he : e ∈ es) (h : frc es d k e = true) : isOpen d k e = true := by
  rw [frc_eq hB d k he, Bool.and_eq_true] at h
  exact h.1
theorem num_inj {n : Nat} {es : List En} (hB : BkOk n es) {e e' : En} (he : e ∈ es) (he' : e' ∈ es) (h : e.num = e'.num) : e = e' := by
  obtain ⟨i1, hi1, ei1⟩ := List.mem_iff_getElem.mp he
  obtain ⟨i2, hi2, ei2⟩ := List.mem_iff_getElem.mp he'
  have h1 : (es.map (·.num))[i1]? = some e.num := by rw [List.getElem?_map, List.getElem?_eq_getElem hi1, ei1]; rfl
  have h2 : (es.map (·.num))[i2]? = some e.num := by rw [List.getElem?_map, List.getElem?_eq_getElem hi2, ei2, h]; rfl
  have h3 := nd_ix hB.nd h1 h2
  subst h3
  rw [← ei1, ← ei2]
end Deed

namespace Deed
open PySem PySem.Spec PyProof.Rows L2 LamX
/-! ### the law's own book of entries -/
abbrev dks (zs : List (Addr × En)) : List (Key × V) := zs.map fun z => (Sum.inl z.2.num, V.ref z.1)
structure EdAt (H : Hp) (ed : Addr) (n : Nat) (zs : List (Addr × En)) : Prop where
  at_ : H ed = some (.dK (dks zs))
  ent : ∀ z ∈ zs, EntAt H z.1 z.2
  ok : BkOk n (ens zs)
  len : zs.length ≤ 16
theorem EdAt.same {H H' : Hp} {ed : Addr} {n : Nat} {zs : List (Addr × En)} (h : EdAt H ed n zs) (s : Same H H') : EdAt H' ed n zs := ⟨s _ _ h.at_, fun z hz => (h.ent z hz).kp (Same.tup s), h.ok, h.len⟩
theorem valV_dks {zs : List (Addr × En)} (nd : ((ens zs).map (·.num)).Nodup) {z : Addr × En} (hz : z ∈ zs) : valV (dks zs) (.inl z.2.num) = some (.ref z.1) := by
  induction zs with
  | nil => cases hz
  | cons y r ih =>
    have nd' : (y.2.num :: (ens r).map (·.num)).Nodup := nd
    have h2 := List.nodup_cons.mp nd'
    show Option.map (·.2) (List.find? (fun kv => decide (kv.1 = (Sum.inl z.2.num : Key))) ((Sum.inl y.2.num, V.ref y.1) :: dks r)) = _
    rw [List.find?_cons]
    rcases List.mem_cons.mp hz with rfl | hz
    · simp
    · have hne : ¬ (Sum.inl y.2.num : Key) = Sum.inl z.2.num := fun q => by
        injection q with q
        exact h2.1 (List.mem_map.mpr ⟨z.2, List.mem_map.mpr ⟨z, hz, rfl⟩, q.symm⟩)
      rw [decide_eq_false hne]
      exact ih h2.2 hz
theorem EdAt.get {H : Hp} {ed : Addr} {n : Nat} {zs : List (Addr × En)} (h : EdAt H ed n zs) {z : Addr × En} (hz : z ∈ zs) : DGet H ed (.int z.2.num) (some (.ref z.1)) := by
  have := DGet.k (k := Sum.inl z.2.num) h.at_
  rw [valV_dks h.ok.nd hz] at this
  exact this
theorem mem_inS {x : Str} {ws : List Str} : inV (.str x) (ws.map V.str) = decide (x ∈ ws) := by
  induction ws with
  | nil => simp [inV]
  | cons m r ih =>
    have e : inV (.str x) ((m :: r).map V.str) = (eqV (.str m) (.str x) || inV (.str x) (r.map V.str)) := by simp [inV]
    have e2 : eqV (.str m) (.str x) = decide (m = x) := by
      first | rfl | simp [eqV] | (unfold eqV; simp)
    rw [e, ih, e2]
    by_cases h : m = x
    · subst h
      simp
    · have h' : ¬ x = m := fun z => h z.symm
      simp [h, h']
theorem flat_strs (ws : List Str) : (ws.map V.str).all flatV = true := by
  induction ws with
  | nil => rfl
  | cons n r ih =>
    rw [List.map_cons, List.all_cons, ih]
    rfl
theorem EntAt.five {H : Hp} {a : Addr} {e : En} (h : EntAt H a e) (hd : e.isDeed = false) : ∃ xs, H a = some (.tup xs) ∧ atI xs 5 = some (.int e.of) := by
  unfold EntAt at h
  unfold En.isDeed at hd
  unfold En.of
  cases hk : e.kd with
  | deed g t rs ws =>
    rw [hk] at hd
    cases hd
  | act x o =>
    rw [hk] at h
    exact ⟨_, h, atI_nat (j := 5) rfl⟩
section
variable {P : Program} {w : World} {K : PySem.W.Frag} {mg : Str → Option Value} {base : Heap} {T : List (Addr × Str)} {fOp fOf : Addr} {dOp dOf : FuncData}
abbrev sOpen : Stmt := topS 36
abbrev nOpen : List Str := ["_law_entry_here", "_law_d", "_law_k"]
theorem scOpen : FnScope nOpen nOpen (defScope sOpen) := ⟨rfl, rfl, rfl, by decide +kernel, rfl, by decide +kernel, by decide +kernel⟩
def spOpen : Sp := fun vs H Q _ => ∃ (a : Addr) (e : En) (d k : Int), vs = [.ref a, .int d, .int k] ∧ EntAt H a e ∧ Q (.bl (isOpen d k e)) H
theorem ok_open {f : Addr} {fd : FuncData} {k : Nat} (F : Fun K "_law_open" "_law_open" sOpen f fd) : FnOk P w K mg base CX0 (k + 1) f fd nOpen spOpen := by
  refine F.ok scOpen (fun vs H Q E h => ?_) (fun cdv A outer s H vs Q E hr h => ?_)
  · obtain ⟨a, e, d, k, rfl, _⟩ := h
    rfl
  · obtain ⟨a, e, d, k, rfl, hE, q⟩ := h
    refine ⟨_, pss_one (ps_ret (pe_and (pe_cmpR op_le (pe_ix ix_tup (pv 0) pe_int (fun _ _ => rfl)) (pv 1) (nomark _)) (pe_one (pe_cmpR op_le (pe_ix ix_tup (pv 0) pe_int (fun _ _ => rfl)) (pv 2) (nomark _))))), ?_⟩
    obtain ⟨xs, ex, _, g1, g2, _⟩ := hE.tup
    refine ⟨_, rfl, a, xs, 1, _, rfl, rfl, SqT.of ex, g1, _, rfl, _, _, rfl, rfl, _, rfl, ?_⟩
    unfold isOpen at q
    refine ite2 (fun c => ?_) (fun c => ?_)
    · have c' : decide (e.day ≤ d) = true := c
      rw [c', Bool.true_and] at q
      exact ⟨_, rfl, a, xs, 2, _, rfl, rfl, SqT.of ex, g2, _, rfl, _, _, rfl, rfl, q⟩
    · have c' : decide (e.day ≤ d) = false := by
        have : ¬ decide (e.day ≤ d) = true := c
        simpa using this
      rw [c', Bool.false_and] at q
      exact q
/-! ### those of a number -/
abbrev sOf : Stmt := topS 37
abbrev nOf : List Str := ["_law_entries_here", "_law_number", "_law_words_here", "_law_one"]
abbrev pOf : List Str := ["_law_entries_here", "_law_number", "_law_words_here"]
theorem scOf : FnScope nOf pOf (defScope sOf) := ⟨rfl, rfl, rfl, by decide +kernel, rfl, by decide +kernel, by decide +kernel⟩
def onAny (ws : List Str) (m : Int) (e : En) : Bool := decide (e.word ∈ ws) && decide (e.of = m)
def spOf : Sp := fun vs H Q _ => ∃ (ed wa : Addr) (m : Int) (ws : List Str) (n : Nat) (zs : List (Addr × En)), vs = [.ref ed, .int m, .ref wa] ∧ EdAt H ed n zs ∧ H wa = some (.tup (ws.map V.str)) ∧ ("deed" : Str) ∉ ws ∧
  ∀ p (ns : List Int) H', Same H H' → H p = none → H' p = some (.lst (ns.map V.int)) → ns.Perm (((ens zs).filter (onAny ws m)).map (·.num)) → ns.Pairwise (· ≤ ·) → Q (.ref p) H'
def t_of (K : PySem.W.Frag) : TT := tAnd (tTest (tOp (rIn K false) (tOp (rIxT K) (tDGet (tVar 0) (tVar 3)) (tC (.int 4))) (tVar 2))) (tTest (tOp rEq (tOp (rIxT K) (tDGet (tVar 0) (tVar 3)) (tC (.int 5))) (tVar 1)))
theorem ok_of {f : Addr} {fd : FuncData} {k : Nat} (F : Fun K "_law_of" "_law_of" sOf f fd) (ms : mg "sorted" = none) : FnOk P w K mg base CX0 (k + 1) f fd pOf spOf := by
  refine F.ok scOf (fun vs H Q E h => ?_) (fun cdv A outer s H vs Q E hr h => ?_)
  · obtain ⟨ed, wa, m, ws, n, zs, rfl, _⟩ := h
    rfl
  · obtain ⟨ed, wa, m, ws, n, zs, rfl, hE, hW, hnd, q⟩ := h
    have hu := hu_of hr
    refine ⟨_, pss_one (ps_ret (pe_callB cr_sortedI (by rfl) ms (by decide +kernel) (pa_cons (pe_lock (pe_lc (own := [("_law_one", 3)]) (g := gName 3) (by rfl) scOf.nd (pi_keys (pv 0)) (blkOk_by (own := [("_law_one", 3)]) (N := nOf) (sc := defScope sOf) (by decide +kernel)) (fun _ _ _ _ _ => pg_name (i := 3) scOf.nd rfl (Or.inl rfl))
      (fun _ _ _ _ _ => show PTs _ _ (t_of K) from pts_one (PW.pt (pw_and (pt_cmpR op_in_seq (pe_ix ix_tup (pe_dget hu (pv 0) (pv 3) (fun _ _ => rfl)) pe_int (fun _ _ => rfl)) (pv 2) (by rfl)) (pw_and1 (pt_cmpR op_eq (pe_ix ix_tup (pe_dget hu (pv 0) (pv 3) (fun _ _ => rfl)) pe_int (fun _ _ => rfl)) (pv 1) (nomark _)))))) (fun _ _ _ _ _ => pv 3))) pa_nil))), ?_⟩
    refine ⟨ed, _, hE.at_, trivial, fun od => ?_⟩
    have hL : ∀ b o, b ≠ ed → H b = some o → (upd H ed (.frz od (.dK (dks zs)))) b = some o := fun b o nb e => by
      rw [upd_ne nb]
      exact e
    have hLe : (upd H ed (.frz od (.dK (dks zs)))) ed = some (.frz od (.dK (dks zs))) := upd_same
    have hLn : ∀ b, (upd H ed (.frz od (.dK (dks zs)))) b = none → H b = none := fun b e => by
      have nb : b ≠ ed := fun z => by
        rw [z, upd_same] at e
        cases e
      rw [upd_ne nb] at e
      exact e
    generalize (upd H ed (.frz od (.dK (dks zs)))) = HL at hL hLe hLn
    have tupL : KpT H HL := fun b xs e => hL b _ (fun z => by rw [z, hE.at_] at e; cases e) e
    refine ⟨_, rfl, ed, od, rfl, .inl ⟨dks zs, hLe, fun D nD => ?_⟩⟩
    have nDe : ed ≠ D := ne_of_none hLe nD
    refine lc_it walk_keys (fun i H' => H' D = some (.lst ((((ens zs).take i).filter (onAny ws m)).map (fun e => V.int e.num))) ∧ Same HL H') ⟨upd_same, fun b o e => by rw [upd_ne (ne_of_none e nD)]; exact e⟩ (fun i H' _ h => h.2 _ _ hLe) ?_ ?_
    · rintro i x H' H'' hi ⟨eD, sm⟩ ⟨rfl, kk, vv, hkv, rfl⟩
      rw [List.getElem?_map] at hkv
      cases hz : zs[i]? with
      | none => rw [hz] at hkv; cases hkv
      | some z =>
        rw [hz] at hkv
        injection hkv with hkv
        injection hkv with hk hv
        subst hk
        have hzm : z ∈ zs := List.mem_of_getElem? hz
        have hzi : (ens zs)[i]? = some z.2 := by rw [List.getElem?_map, hz]; rfl
        have et := take_more hzi
        have dg : DGet H'' ed (.int z.2.num) (some (.ref z.1)) := by
          have h1 : DGet H'' ed (kV (.inl z.2.num)) (valV (dks zs) (.inl z.2.num)) := .inl ⟨dks zs, _, .inr ⟨od, sm _ _ hLe⟩, rfl, rfl⟩
          rw [valV_dks hE.ok.nd hzm] at h1
          exact h1
        have kT : KpT H H'' := tupL.trans (Same.tup sm)
        have hEz := (hE.ent z hzm).kp kT
        obtain ⟨xs, ex, _, _, _, _, g4⟩ := hEz.tup
        have hW'' := kT _ _ hW
        refine ⟨rfl, _, rfl, _, rfl, ed, _, rfl, dg, z.1, xs, 4, _, rfl, rfl, SqT.of ex, g4, _, rfl, wa, _, rfl, .inr (SqT.of hW''), rfl, flat_strs ws, _, rfl, ?_⟩
        rw [mem_inS]
        have okz := hE.ok.ok z.2 (List.mem_map.mpr ⟨z, hzm, rfl⟩)
        have out : ∀ hno : onAny ws m z.2 = false, H'' D = some (.lst ((((ens zs).take (i + 1)).filter (onAny ws m)).map (fun e => V.int e.num))) ∧ Same HL H'' := fun hno => by
          refine ⟨?_, sm⟩
          rw [eD, et, List.filter_append]
          simp [hno]
        refine ite2 (fun c1 => ?_) (fun c1 => ?_)
        · have c1' : z.2.word ∈ ws := of_decide_eq_true c1
          have hact : z.2.isDeed = false := by
            cases hh : z.2.isDeed with
            | false => rfl
            | true =>
              rw [okz.word.mpr hh] at c1'
              exact absurd c1' hnd
          obtain ⟨xs5, ex5, g5⟩ := hEz.five hact
          refine ⟨_, rfl, _, rfl, ed, _, rfl, dg, z.1, xs5, 5, _, rfl, rfl, SqT.of ex5, g5, _, rfl, rfl, _, rfl, ?_⟩
          refine ite2 (fun c2 => ?_) (fun c2 => ?_)
          · have c2' : z.2.of = m := by
              have := of_decide_eq_true c2
              injection this
            have hyes : onAny ws m z.2 = true := by
              unfold onAny
              rw [decide_eq_true c1', decide_eq_true c2']
              rfl
            refine ⟨_, rfl, _, eD, small1000 ?_, ?_, fun b o e => ?_⟩
            · have h1 := List.length_filter_le (onAny ws m) ((ens zs).take i)
              have h3 := hE.len
              rw [List.length_map]
              rw [List.length_take, List.length_map] at h1
              omega
            · rw [upd_same, et, List.filter_append]
              simp [hyes, kV]
            · rw [upd_ne (ne_of_none e nD)]
              exact sm _ _ e
          · refine out ?_
            have c2' : ¬ z.2.of = m := fun z0 => c2 (decide_eq_true (by rw [z0]))
            unfold onAny
            rw [decide_eq_false c2', Bool.and_false]
        · refine iteF (out ?_)
          have c1' : ¬ z.2.word ∈ ws := fun z0 => c1 (decide_eq_true z0)
          unfold onAny
          rw [decide_eq_false c1', Bool.false_and]
    · rintro H' ⟨eD, sm⟩
      have el : (ens zs).take (dks zs).length = ens zs := List.take_of_length_le (by rw [List.length_map, List.length_map]; exact Nat.le_refl _)
      rw [el] at eD
      have hed := sm _ _ hLe
      refine ⟨hed, ?_⟩
      have smU : Same H (upd H' ed (.dK (dks zs))) := fun b o e => by
        by_cases hb : b = ed
        · rw [hb] at e ⊢
          rw [upd_same, ← hE.at_]
          exact e
        · rw [upd_ne hb]
          exact sm _ _ (hL b o hb e)
      have eDU : (upd H' ed (.dK (dks zs))) D = some (.lst (((((ens zs).filter (onAny ws m)).map (·.num))).map V.int)) := by
        rw [upd_ne nDe.symm, eD, List.map_map]
        rfl
      generalize (upd H' ed (.dK (dks zs))) = HU at smU eDU
      refine ⟨D, _, rfl, SqL.of eDU, fun ns p pm up np => ?_⟩
      exact q p ns _ (smU.trans fun b o e => by rw [upd_ne (ne_of_none e np)]; exact e) (smU.free np) upd_same pm up
end
end Deed

namespace Deed
open PySem PySem.Spec PyProof.Rows L2 LamX
section
variable {P : Program} {w : World} {K : PySem.W.Frag} {mg : Str → Option Value} {base : Heap} {T : List (Addr × Str)} {fOp fOf fFo fDr : Addr} {dOp dOf dFo dDr : FuncData}
abbrev OpenD (K : PySem.W.Frag) (mg : Str → Option Value) := Df K mg "_law_open" sOpen nOpen
abbrev OfD (K : PySem.W.Frag) (mg : Str → Option Value) := Df K mg "_law_of" sOf pOf
/-! ### whether an act is in force, by itself -/
abbrev sForce : Stmt := topS 38
abbrev nForce : List Str := ["_law_entries_here", "_law_act", "_law_d", "_law_k", "_law_one"]
abbrev pForce : List Str := ["_law_entries_here", "_law_act", "_law_d", "_law_k"]
abbrev ForceD (K : PySem.W.Frag) (mg : Str → Option Value) := Df K mg "_law_force" sForce pForce
theorem scForce : FnScope nForce pForce (defScope sForce) := ⟨rfl, rfl, rfl, by decide +kernel, rfl, by decide +kernel, by decide +kernel⟩
def spForce (fu : Nat) : Sp := fun vs H Q _ => ∃ (ed : Addr) (e : En) (d k : Int) (n : Nat) (zs : List (Addr × En)), vs = [.ref ed, .int e.num, .int d, .int k] ∧ EdAt H ed n zs ∧ e ∈ ens zs ∧ (31 - e.num).toNat ≤ fu ∧ ∀ H', Same H H' → Q (.bl (frc (ens zs) d k e)) H'
theorem no_force {f : Addr} {fd : FuncData} {k : Nat} : FnOk P w K mg base CX0 k f fd pForce (spForce 0) := by
  have no : ∀ vs H Q E, ¬ spForce 0 vs H Q E := fun vs H Q E h => by
    obtain ⟨ed, e, d, k, n, zs, _, hE, he, hf, _⟩ := h
    have := hE.ok.rng e he
    omega
  exact ⟨fun vs H Q E h => absurd h (no vs H Q E), fun A outer s H args us vs Q E _ _ _ _ h => absurd h (no vs H Q E)⟩
theorem step_force {f : Addr} {fd : FuncData} {fu k : Nat} (D : ForceD K mg f fd) (DO : OpenD K mg fOp dOp) (DF : OfD K mg fOf dOf) (ms : mg "sorted" = none) (G : FnOk P w K mg base CX0 (k + 1) f fd pForce (spForce fu)) : FnOk P w K mg base CX0 (k + 2) f fd pForce (spForce (fu + 1)) := by
  have GO : FnOk P w K mg base CX0 (k + 1) fOp dOp nOpen spOpen := ok_open DO.F
  have GF : FnOk P w K mg base CX0 (k + 1) fOf dOf pOf spOf := ok_of DF.F ms
  refine D.F.ok scForce (fun vs H Q E h => ?_) (fun cdv A outer s H vs Q E hr h => ?_)
  · obtain ⟨ed, e, d, k, n, zs, rfl, _⟩ := h
    rfl
  · obtain ⟨ed, e, d, k', n, zs, rfl, hE, he, hf, q⟩ := h
    have hu := hu_of hr
    refine ⟨_, pss_cons (ps_if (pt_not (pt_val (pe_call GO hr (by rfl) DO.g DO.F.kp DO.b .nil pass0 (pa_cons (pe_dget hu (pv 0) (pv 1) (fun _ _ => rfl)) (pa_cons (pv 2) (pa_cons (pv 3) pa_nil)))))) (pss_one (ps_ret pe_bl)) pss_nil)
      (pss_one (ps_ret (pe_cmpR (op_eqD hr.units) (pe_lc (own := [("_law_one", 4)]) (g := gName 4) (by rfl) scForce.nd (pi_list (pe_call GF hr (by rfl) DF.g DF.F.kp DF.b .nil pass0 (pa_cons (pv 0) (pa_cons (pv 1) (pa_cons (pe_tup (pa_cons pe_str pa_nil)) pa_nil))))) (blkOk_by (own := [("_law_one", 4)]) (N := nForce) (sc := defScope sForce) (by decide +kernel)) (fun _ _ _ _ _ => pg_name (i := 4) scForce.nd rfl (Or.inl rfl))
        (fun _ _ _ _ _ => pts_one (pt_val (pe_call G hr (by rfl) D.g D.F.kp D.b .nil pass0 (pa_cons (pv 0) (pa_cons (pv 4) (pa_cons (pv 2) (pa_cons (pv 3) pa_nil))))))) (fun _ _ _ _ _ => pv 4)) (pe_lst pa_nil) (nomark _)))), ?_⟩
    obtain ⟨z, hz, rfl⟩ := List.mem_map.mp he
    refine ⟨_, rfl, _, rfl, ed, _, rfl, hE.get hz, _, rfl, _, rfl, z.1, z.2, d, k', rfl, hE.ent z hz, _, rfl, ?_⟩
    have fq := frc_eq hE.ok d k' he
    cases hop : isOpen d k' z.2 with
    | false =>
      refine iteT ?_
      rw [hop, Bool.false_and] at fq
      rw [fq] at q
      exact q H (Same.refl H)
    | true =>
      refine iteF ?_
      rw [hop, Bool.true_and] at fq
      refine ⟨_, rfl, _, rfl, (by show 1 ≤ sizeLine; decide), fun wa nwa => ?_⟩
      have s1 : Same H (upd H wa (.tup [.str "undone"])) := fun b o e => by rw [upd_ne (ne_of_none e nwa)]; exact e
      have e1 : (upd H wa (.tup [.str "undone"])) wa = some (.tup (([("undone" : Str)] : List Str).map V.str)) := upd_same
      generalize (upd H wa (.tup [.str "undone"])) = H1 at s1 e1
      refine ⟨ed, wa, z.2.num, ["undone"], n, zs, rfl, hE.same s1, e1, by decide, fun p ns H2 s2 np ep pm up => ?_⟩
      have s12 := s1.trans s2
      refine ⟨p, rfl, ⟨_, SqL.of ep⟩, fun D2 nD => ?_⟩
      refine lc_list (K := K) (a := p) (xs := ns.map V.int) (fun i H' => ∃ rs : List Int, H' D2 = some (.lst (rs.map V.int)) ∧ Same H2 H' ∧ rs.length ≤ i ∧ (rs = [] ↔ ∀ x ∈ ns.take i, ∀ u ∈ ens zs, u.num = x → frc (ens zs) d k' u = false)) ⟨[], upd_same, fun b o e => by rw [upd_ne (ne_of_none e nD)]; exact e, Nat.le_refl _, by simp⟩ (fun i H' _ h => ?_) ?_ ?_
      · obtain ⟨rs, _, sm, _⟩ := h
        exact SqL.of (sm _ _ ep)
      · rintro i x H' hx ⟨rs, eD, sm, hrl, hiff⟩
        rw [List.getElem?_map] at hx
        cases hn : ns[i]? with
        | none => rw [hn] at hx; cases hx
        | some m =>
          rw [hn] at hx
          injection hx with hx
          subst hx
          have hmm : m ∈ ((ens zs).filter (onAny ["undone"] z.2.num)).map (·.num) := pm.mem_iff.mp (List.mem_of_getElem? hn)
          obtain ⟨u, hu1, rfl⟩ := List.mem_map.mp hmm
          obtain ⟨hu2, hu3⟩ := List.mem_filter.mp hu1
          have hon : isOn "undone" z.2.num u = true := by
            unfold onAny at hu3
            unfold isOn
            simpa using hu3
          obtain ⟨h1, h2, h3⟩ := isOn_act (hE.ok.ok u hu2) (by decide) hon
          have lt := ((hE.ok.ok u hu2).of_lt h1).1
          have ru := hE.ok.rng u hu2
          have et := take_more hn
          have hlen : ns.length ≤ 16 := by
            rw [pm.length_eq, List.length_map]
            have a1 := List.length_filter_le (onAny ["undone"] z.2.num) (ens zs)
            rw [List.length_map] at a1
            have a2 := hE.len
            omega
          have hi : i < ns.length := (List.getElem?_eq_some_iff.mp hn).1
          refine ⟨rfl, _, rfl, _, rfl, _, rfl, _, rfl, ed, u, d, k', n, zs, rfl, (hE.same s12).same sm, hu2, by omega, fun H3 s3 => ⟨_, rfl, ?_⟩⟩
          cases hfr : frc (ens zs) d k' u with
          | true =>
            refine iteT ?_
            refine ⟨_, rfl, _, s3 _ _ eD, small1000 (by rw [List.length_map]; omega), rs ++ [u.num], ?_, fun b o e => ?_, ?_, ?_⟩
            · rw [upd_same, List.map_append]
              rfl
            · rw [upd_ne (ne_of_none e nD)]
              exact s3 _ _ (sm _ _ e)
            · rw [List.length_append]
              show rs.length + 1 ≤ i + 1
              omega
            · constructor
              · intro h
                exact absurd h (by simp)
              · intro h
                have := h u.num (by rw [et]; exact List.mem_append_right _ List.mem_cons_self) u hu2 rfl
                rw [hfr] at this
                cases this
          | false =>
            refine iteF ?_
            refine ⟨rs, s3 _ _ eD, sm.trans s3, by omega, ?_⟩
            rw [hiff, et]
            constructor
            · intro h x hx u' hu' he'
              rcases List.mem_append.mp hx with hx | hx
              · exact h x hx u' hu' he'
              · rw [List.mem_singleton.mp hx] at he'
                rw [num_inj hE.ok hu' hu2 he']
                exact hfr
            · intro h x hx u' hu' he'
              exact h x (List.mem_append_left _ hx) u' hu' he'
      · rintro H' ⟨rs, eD, sm, hrl, hiff⟩
        have el : ns.take (ns.map V.int).length = ns := List.take_of_length_le (by rw [List.length_map]; exact Nat.le_refl _)
        rw [el] at hiff
        refine ⟨Nat.zero_le _, fun g ng => ?_⟩
        have s3 : Same H' (upd H' g (.lst [])) := fun b o e => by rw [upd_ne (ne_of_none e ng)]; exact e
        have eg : (upd H' g (.lst [])) g = some (.lst []) := upd_same
        refine ⟨.list (rs.map .int), .list (([] : List Int).map .int), .lst (SqL.of (s3 _ _ eD)) (dp_ints rs), .lst (SqL.of eg) (dp_ints []), shaped_ints rs, shaped_ints [], ?_⟩
        rw [eqv_ints]
        have fin : decide (rs = []) = frc (ens zs) d k' z.2 := by
          rw [fq, Bool.eq_iff_iff, decide_eq_true_iff, hiff, List.all_eq_true]
          constructor
          · intro h u hu
            cases ho : isOn "undone" z.2.num u with
            | false => rfl
            | true =>
              have hm : u.num ∈ ns := pm.mem_iff.mpr (List.mem_map.mpr ⟨u, List.mem_filter.mpr ⟨hu, by
                unfold isOn at ho
                unfold onAny
                simpa using ho⟩, rfl⟩)
              rw [h u.num hm u hu rfl]
              rfl
          · intro h x hx u hu he'
            obtain ⟨u', hu1, hu2⟩ := List.mem_map.mp (pm.mem_iff.mp hx)
            obtain ⟨hu3, hu4⟩ := List.mem_filter.mp hu1
            have ee : u = u' := num_inj hE.ok hu hu3 (he'.trans hu2.symm)
            subst ee
            have ho : isOn "undone" z.2.num u = true := by
              unfold onAny at hu4
              unfold isOn
              simpa using hu4
            have := h u hu
            rw [ho, Bool.true_and] at this
            simpa using this
        rw [fin]
        exact q _ (s12.trans (sm.trans s3))
theorem ok_force {f : Addr} {fd : FuncData} (D : ForceD K mg f fd) (DO : OpenD K mg fOp dOp) (DF : OfD K mg fOf dOf) (ms : mg "sorted" = none) : ∀ fu : Nat, FnOk P w K mg base CX0 (fu + 1) f fd pForce (spForce fu)
  | 0 => no_force
  | fu + 1 => step_force D DO DF ms (ok_force D DO DF ms fu)
end
end Deed

namespace Deed
open PySem PySem.Spec PyProof.Rows L2 LamX
theorem putK_new {kvs : List (Key × V)} {k : Key} {v : V} (h : k ∉ kvs.map (·.1)) : putK kvs k v = kvs ++ [(k, v)] := by
  unfold putK
  rw [if_neg]
  intro z
  obtain ⟨kv, h1, h2⟩ := List.any_eq_true.mp z
  exact h (List.mem_map.mpr ⟨kv, h1, of_decide_eq_true h2⟩)
theorem mergeK_new : ∀ (more kvs : List (Key × V)), ((kvs ++ more).map (·.1)).Nodup → mergeK kvs more = kvs ++ more
  | [], kvs, _ => (List.append_nil kvs).symm
  | (k, v) :: r, kvs, h => by
    show mergeK (putK kvs k v) r = kvs ++ (k, v) :: r
    have hk : k ∉ kvs.map (·.1) := fun z => by
      rw [List.map_append, List.nodup_append] at h
      exact h.2.2 k z k List.mem_cons_self rfl
    rw [putK_new hk, mergeK_new r (kvs ++ [(k, v)]) (by rw [List.append_assoc]; exact h), List.append_assoc]
    rfl
theorem dks_nodup {zs : List (Addr × En)} (h : ((ens zs).map (·.num)).Nodup) : ((dks zs).map (·.1)).Nodup := by
  have e : (dks zs).map (·.1) = ((ens zs).map (·.num)).map (Sum.inl : Int → Key) := by
    simp [dks, ens, List.map_map, Function.comp_def]
  rw [e]
  exact List.pairwise_map.mpr (h.imp fun hne e => hne (Sum.inl.inj e))
theorem paired_mono {α β : Type} {F G : α → β → Prop} {l : List α} {m : List β} (h : Paired F l m) (i : ∀ a b, F a b → G a b) : Paired G l m := by
  induction h with
  | nil => exact .nil
  | cons a _ ih => exact .cons (i _ _ a) ih
section
variable {P : Program} {w : World} {K : PySem.W.Frag} {mg : Str → Option Value} {base : Heap} {T : List (Addr × Str)} {fDr : Addr} {dDr : FuncData}
/-! ### the entries as a dict -/
abbrev sEnts : Stmt := topS 41
abbrev nEnts : List Str := ["_law_book_here", "_law_entry_here"]
theorem scEnts : FnScope nEnts ["_law_book_here"] (defScope sEnts) := ⟨rfl, rfl, rfl, by decide +kernel, rfl, by decide +kernel, by decide +kernel⟩
def spEnts : Sp := fun vs H Q _ => ∃ (b fk t : Addr) (n : Nat) (age : Int) (zs : List (Addr × En)), vs = [.ref b] ∧ BookAt H b fk t n age zs ∧ ∀ ed H', Same H H' → H ed = none → EdAt H' ed n zs → Q (.ref ed) H'
theorem ok_ents {f : Addr} {fd : FuncData} {k : Nat} (F : Fun K "_law_entries" "_law_entries" sEnts f fd) (md : mg "dict" = none) : FnOk P w K mg base CX0 (k + 1) f fd ["_law_book_here"] spEnts := by
  refine F.ok scEnts (fun vs H Q E h => ?_) (fun cdv A outer s H vs Q E hr h => ?_)
  · obtain ⟨b, fk, t, n, age, zs, rfl, _⟩ := h
    rfl
  · obtain ⟨b, fk, t, n, age, zs, rfl, hB, q⟩ := h
    refine ⟨_, pss_one (ps_ret (pe_callTy (call_dictP rfl) (by rfl) md (by decide +kernel) (pa_cons (pe_lc (own := [("_law_entry_here", 1)]) (g := gName 1) (by rfl) scEnts.nd (pi_tup (pe_ix ix_tup (pv 0) pe_int (fun _ _ => rfl))) (blkOk_by (own := [("_law_entry_here", 1)]) (N := nEnts) (sc := defScope sEnts) (by decide +kernel)) (fun _ _ _ _ _ => pg_name (i := 1) scEnts.nd rfl (Or.inl rfl)) (fun _ _ _ _ _ => pts_nil)
      (fun _ _ _ _ _ => show PE _ _ (tTup (tCons (tOp (rIxT K) (tVar 1) (tC (.int 0))) (tCons (tVar 1) tNil))) from pe_tup (pa_cons (pe_ix ix_tup (pv 1) pe_int (fun _ _ => rfl)) (pa_cons (pv 1) pa_nil)))) pa_nil))), ?_⟩
    refine ⟨_, rfl, b, _, 2, _, rfl, rfl, SqT.of hB.at_, atI_nat (j := 2) rfl, t, rfl, ⟨_, SqT.of hB.ents⟩, fun D nD => ?_⟩
    refine lc_tup (K := K) (a := t) (xs := refs zs) (fun i H' => ∃ ps : List Addr, H' D = some (.lst (ps.map V.ref)) ∧ Same H H' ∧ ps.length = i ∧ Paired (fun p (kv : Key × V) => H' p = some (.tup [kV kv.1, kv.2])) ps (dks (zs.take i))) ⟨[], upd_same, fun b o e => by rw [upd_ne (ne_of_none e nD)]; exact e, rfl, .nil⟩ (fun i H' _ h => ?_) ?_ ?_
    · obtain ⟨_, _, sm, _⟩ := h
      exact SqT.of (sm _ _ hB.ents)
    · rintro i x H' hx ⟨ps, eD, sm, hpl, hpr⟩
      obtain ⟨z, hz, rfl⟩ := ref_at hx
      have hzm : z ∈ zs := List.mem_of_getElem? hz
      have hi : i < zs.length := (List.getElem?_eq_some_iff.mp hz).1
      obtain ⟨xs, ex, g0, _⟩ := ((hB.ent z hzm).kp (Same.tup sm)).tup
      refine ⟨rfl, ?_⟩
      unfold tYes
      dsimp only
      rw [if_pos rfl]
      refine ⟨_, rfl, z.1, xs, 0, _, rfl, rfl, SqT.of ex, g0, _, rfl, (by show 2 ≤ sizeLine; decide), fun r nr => ?_⟩
      have nrD : D ≠ r := ne_of_none eD nr
      have len := hB.len
      refine ⟨_, by rw [upd_ne nrD]; exact eD, small1000 (by rw [List.length_map]; omega), ps ++ [r], ?_, fun b o e => ?_, ?_, ?_⟩
      · rw [upd_same, List.map_append]
        rfl
      · rw [upd_ne (ne_of_none e nD), upd_ne (ne_of_none (sm _ _ e) nr)]
        exact sm _ _ e
      · rw [List.length_append, hpl]
        rfl
      · have e1 : dks (zs.take (i + 1)) = dks (zs.take i) ++ [(Sum.inl z.2.num, V.ref z.1)] := by
          rw [take_more hz]
          simp [dks]
        rw [e1]
        refine Paired.snoc (paired_mono hpr fun p kv hp => ?_) ?_
        · rw [upd_ne (fun z0 => by rw [z0, eD] at hp; cases hp), upd_ne (ne_of_none hp nr)]
          exact hp
        · rw [upd_ne nrD.symm, upd_same]
          rfl
    · rintro H' ⟨ps, eD, sm, hpl, hpr⟩
      have el : zs.take (refs zs).length = zs := List.take_of_length_le (by rw [List.length_map]; exact Nat.le_refl _)
      rw [el] at hpr
      refine ⟨D, ps, dks zs, rfl, SqL.of eD, paired_mono hpr fun p kv hp => SqT.of hp, fun ed ned => ?_⟩
      have s2 : Same H' (upd H' ed (.dK (mergeK [] (dks zs)))) := fun b o e => by rw [upd_ne (ne_of_none e ned)]; exact e
      have e2 : mergeK [] (dks zs) = dks zs := mergeK_new (dks zs) [] (by rw [List.nil_append]; exact dks_nodup hB.ok.nd)
      refine q ed _ (sm.trans s2) (sm.free ned) ⟨?_, fun z hz => (hB.ent z hz).kp (Same.tup (sm.trans s2)), hB.ok, hB.len⟩
      rw [upd_same, e2]
/-! ### a day and a known day -/
abbrev sDays : Stmt := topS 42
abbrev nDays : List Str := ["_law_pen_here", "_law_book_here", "_law_found", "_law_at", "_law_some", "_law_entry_here"]
abbrev pDays : List Str := ["_law_pen_here", "_law_book_here"]
theorem scDays : FnScope nDays pDays (defScope sDays) := ⟨rfl, rfl, rfl, by decide +kernel, rfl, by decide +kernel, by decide +kernel⟩
def spDays : Sp := fun vs H Q _ => ∃ (p b fk t : Addr) (n : Nat) (age : Int) (zs : List (Addr × En)), vs = [.ref p, .ref b] ∧ PenAt H p ∧ BookAt H b fk t n age zs ∧
  ∀ (a : Addr) (d k : Int) H', Kp p H H' → PenAt H' p → H' a = some (.tup [.int d, .int k]) → (0 ≤ d ∧ d ≤ 9999) → (0 ≤ k ∧ k ≤ 9999) → Q (.ref a) H'
theorem ok_days {f : Addr} {fd : FuncData} {k : Nat} (F : Fun K "_law_days" "_law_days" sDays f fd) (D : DrawD K mg fDr dDr) (B : Bi mg) : FnOk P w K mg base CX0 (k + 2) f fd pDays spDays := by
  have G : FnOk P w K mg base CX0 (k + 1) fDr dDr ["_law_pen_here", "_law_bound"] spDraw := ok_draw D.F
  refine F.ok scDays (fun vs H Q E h => ?_) (fun cdv A outer s H vs Q E hr h => ?_)
  · obtain ⟨p, b, fk, t, n, age, zs, rfl, _⟩ := h
    rfl
  · obtain ⟨p, b, fk, t, n, age, zs, rfl, hP, hB, q⟩ := h
    refine ⟨_, pss_cons (ps_set (i := 2) scDays.nd rfl (.inl rfl) (pe_lst pa_nil))
      (pss_cons (ps_for PassesOwn.never rfl (pi_tup (pe_tup (pa_cons pe_int (pa_cons pe_int pa_nil)))) (pg_name (i := 3) scDays.nd rfl (.inr rfl))
        (pss_cons (ps_set (i := 4) scDays.nd rfl (.inl rfl) (pe_op op_cat (pe_lc (own := [("_law_entry_here", 5)]) (g := gName 5) (by rfl) scDays.nd (pi_tup (pe_ix ix_tup (pv 1) pe_int (fun _ _ => rfl))) (blkOk_by (own := [("_law_entry_here", 5)]) (N := nDays) (sc := defScope sDays) (by decide +kernel)) (fun _ _ _ _ _ => pg_name (i := 5) scDays.nd rfl (Or.inl rfl)) (fun _ _ _ _ _ => pts_nil)
            (fun _ _ _ _ _ => show PE _ _ (tOp (rIxT K) (tVar 5) (tVar 3)) from pe_ix ix_tup (pv 5) (pv 3) (fun _ _ => rfl))) (pe_lst (pa_cons pe_int (pa_cons pe_int (pa_cons (pe_call G hr (by rfl) D.g D.F.kp D.b .nil pass0 (pa_cons (pv 0) (pa_cons pe_int pa_nil))) pa_nil))))))
        (pss_one (ps_expr (pe_bm PySem.F.plainAttrs_list PySem.F.slot_list_append PySem.F.type_list_append mt_append (pv 2) (pa_cons (pe_callB (call_max2 rfl) (by rfl) B.max (by decide +kernel) (pa_cons pe_int (pa_cons (pe_op op_sub (pe_ix ix_list (pv 4) (pe_call G hr (by rfl) D.g D.F.kp D.b .nil pass0 (pa_cons (pv 0) (pa_cons (pe_callB call_len_seq (by rfl) B.len PySem.boot_len (pa_cons (pv 4) pa_nil)) pa_nil))) (fun _ _ => rfl)) (pe_callTy call_int1 (by rfl) B.int (by decide +kernel) (pa_cons (pe_cmpR op_eq (pe_call G hr (by rfl) D.g D.F.kp D.b .nil pass0 (pa_cons (pv 0) (pa_cons pe_int pa_nil))) pe_int (nomark _)) pa_nil))) pa_nil))) pa_nil))))))
      (pss_one (ps_ret (pe_tup (pa_cons (pe_ix ix_list (pv 2) pe_int (fun _ _ => rfl)) (pa_cons (pe_ix ix_list (pv 2) pe_int (fun _ _ => rfl)) pa_nil)))))), ?_⟩
    refine ⟨Nat.zero_le _, fun l nl => ?_⟩
    have k1 : Kp p H (upd H l (.lst [])) := Kp.new nl _
    have P1 := hP.new nl (.lst [])
    have el : (upd H l (.lst [])) l = some (.lst []) := upd_same
    have npl : l ≠ p := hP.free nl
    generalize (upd H l (.lst [])) = H1 at k1 P1 el
    refine ⟨(by show 2 ≤ sizeLine; decide), fun tt ntt => ?_⟩
    have k2 : Kp p H1 (upd H1 tt (.tup [.int 1, .int 2])) := Kp.new ntt _
    have P2 := P1.new ntt (.tup [.int 1, .int 2])
    have ett : (upd H1 tt (.tup [.int 1, .int 2])) tt = some (.tup [.int 1, .int 2]) := upd_same
    have el2 := k2 _ _ npl el
    generalize (upd H1 tt (.tup [.int 1, .int 2])) = H2 at k2 P2 ett el2
    refine ⟨tt, rfl, ⟨_, SqT.of ett⟩, ?_⟩
    refine for_tup (K := K) (a := tt) (xs := [.int 1, .int 2]) (fun i σ H' => ∃ y3 y4 y5, ∃ ns : List Int, σ = [some (.ref p), some (.ref b), some (.ref l), y3, y4, y5] ∧ KpT H2 H' ∧ Kp p H H' ∧ PenAt H' p ∧ H' l = some (.lst (ns.map V.int)) ∧ ns.length = i ∧ ∀ x ∈ ns, 0 ≤ x ∧ x ≤ 9999)
      ⟨none, none, none, [], rfl, KpT.refl _, k1.trans k2, P2, el2, rfl, fun _ h => nomatch h⟩ (fun i σ H' _ h => ?_) ?_ ?_
    · obtain ⟨_, _, _, _, _, kT, _⟩ := h
      exact SqT.of (kT _ _ ett)
    · rintro i x σ H' hx ⟨y3, y4, y5, ns, rfl, kT, kH, P', el', hnl, hns⟩
      obtain ⟨at', hat, rfl⟩ : ∃ at' : Int, (at' = 1 ∨ at' = 2) ∧ x = .int at' := by
        have hm : x ∈ [V.int 1, V.int 2] := List.mem_of_getElem? hx
        rcases List.mem_cons.mp hm with e | hm
        · exact ⟨1, .inl rfl, e⟩
        · exact ⟨2, .inr rfl, List.mem_singleton.mp hm⟩
      have hi2 : i < 2 := (List.getElem?_eq_some_iff.mp hx).1
      have hB' : BookAt H' b fk t n age zs := hB.kp (fun b0 xs0 e0 => kH _ _ (hP.ne e0 fun _ z => by cases z) e0)
      -- the days of entries
      refine ⟨_, rfl, b, _, 2, _, rfl, rfl, SqT.of hB'.at_, atI_nat (j := 2) rfl, t, rfl, ⟨_, SqT.of hB'.ents⟩, fun M nM => ?_⟩
      refine lc_tup (K := K) (a := t) (xs := refs zs) (fun i H'' => ∃ ms : List Int, H'' M = some (.lst (ms.map V.int)) ∧ Same H' H'' ∧ ms.length = i ∧ ∀ x ∈ ms, 0 ≤ x ∧ x ≤ 9999) ⟨[], upd_same, fun b o e => by rw [upd_ne (ne_of_none e nM)]; exact e, rfl, fun _ h => nomatch h⟩ (fun i H' _ h => ?_) ?_ ?_
      · obtain ⟨_, _, sm, _⟩ := h
        exact SqT.of (sm _ _ hB'.ents)
      · rintro j x H3 hx ⟨ms, eM, sm, hml, hms⟩
        obtain ⟨z, hz, rfl⟩ := ref_at hx
        have hzm : z ∈ zs := List.mem_of_getElem? hz
        have hj : j < zs.length := (List.getElem?_eq_some_iff.mp hz).1
        have len := hB.len
        have oz := hB.ok.ok z.2 (List.mem_map.mpr ⟨z, hzm, rfl⟩)
        obtain ⟨xs, ex, _, g1, g2, _⟩ := ((hB'.ent z hzm).kp (Same.tup sm)).tup
        obtain ⟨v, gv, hv⟩ : ∃ v : Int, atI xs at' = some (.int v) ∧ 0 ≤ v ∧ v ≤ 9999 := by
          rcases hat with rfl | rfl
          · exact ⟨_, g1, oz.1⟩
          · exact ⟨_, g2, oz.2.1⟩
        refine ⟨rfl, ?_⟩
        unfold tYes
        dsimp only
        rw [if_pos rfl]
        refine ⟨_, rfl, _, rfl, z.1, xs, at', _, rfl, rfl, SqT.of ex, gv, _, eM, small1000 (by rw [List.length_map]; omega), ms ++ [v], ?_, fun b o e => ?_, ?_, fun y hy => ?_⟩
        · rw [upd_same, List.map_append]
          rfl
        · rw [upd_ne (ne_of_none e nM)]
          exact sm _ _ e
        · rw [List.length_append, hml]
          rfl
        · rcases List.mem_append.mp hy with hy | hy
          · exact hms y hy
          · rw [List.mem_singleton.mp hy]
            exact hv
      rintro H3 ⟨ms, eM, sm, hml, hms⟩
      have len := hB.len
      have hml' : ms.length ≤ 16 := by rw [hml, List.length_map]; exact len
      have P3 : PenAt H3 p := by
        obtain ⟨x1, x2, x3, x4, z1, z2⟩ := P'
        exact ⟨x1, x2, x3, x4, sm _ _ z1, z2⟩
      have k3 : Kp p H' H3 := Kp.same sm
      refine ⟨_, rfl, p, 50, rfl, P3, by decide, by decide, fun v4 H4 k4 P4 a4 b4 => ?_⟩
      refine ⟨(by show 3 ≤ sizeLine; decide), fun N nN => ?_⟩
      have k5 : Kp p H4 (upd H4 N (.lst [.int 0, .int 9999, .int v4])) := Kp.new nN _
      have P5 := P4.new nN (.lst [.int 0, .int 9999, .int v4])
      have eN : (upd H4 N (.lst [.int 0, .int 9999, .int v4])) N = some (.lst (([0, 9999, v4] : List Int).map V.int)) := upd_same
      have nMp : M ≠ p := P'.free nM
      have eM5 := k5 _ _ nMp (k4 _ _ nMp eM)
      generalize (upd H4 N (.lst [.int 0, .int 9999, .int v4])) = H5 at k5 P5 eN eM5
      refine ⟨M, N, _, _, rfl, rfl, eM5, eN, ?_, fun S nS => ?_⟩
      · rw [List.length_map, List.length_map]
        exact Nat.le_of_lt (small1000 (by show ms.length + 3 ≤ 1000; omega))
      have k6 : Kp p H5 (upd H5 S (.lst (ms.map V.int ++ ([0, 9999, v4] : List Int).map V.int))) := Kp.new nS _
      have P6 := P5.new nS (.lst (ms.map V.int ++ ([0, 9999, v4] : List Int).map V.int))
      have nSp : S ≠ p := P5.free nS
      have eS : (upd H5 S (.lst (ms.map V.int ++ ([0, 9999, v4] : List Int).map V.int))) S = some (.lst ((ms ++ [0, 9999, v4]).map V.int)) := by rw [upd_same, List.map_append]
      generalize (upd H5 S (.lst (ms.map V.int ++ ([0, 9999, v4] : List Int).map V.int))) = H6 at k6 P6 eS
      have hss : ∀ x ∈ ms ++ [0, 9999, v4], 0 ≤ x ∧ x ≤ 9999 := fun x hx => by
        rcases List.mem_append.mp hx with hx | hx
        · exact hms x hx
        · simp only [List.mem_cons, List.not_mem_nil, or_false] at hx
          rcases hx with rfl | rfl | rfl <;> omega
      have hsl : (ms ++ [0, 9999, v4]).length = ms.length + 3 := by simp
      generalize ms ++ [0, 9999, v4] = ss at eS hss hsl
      have k36 : Kp p H' H6 := k3.trans (k4.trans (k5.trans k6))
      have el6 := k36 _ _ npl el'
      have hslm : (ss.map V.int).length = ss.length := List.length_map _
      refine ⟨_, rfl, .inl ⟨rfl, _, SqL.of el6⟩, _, rfl, _, rfl, _, rfl, S, _, rfl, .inl (SqL.of eS), p, _, rfl, P6, by omega, by omega, fun v7 H7 k7 P7 a7 b7 => ?_⟩
      rw [hslm] at b7
      have hk7 : v7.toNat < ss.length := by omega
      refine ⟨S, _, v7, .int ss[v7.toNat], rfl, rfl, SqL.of (k7 _ _ nSp eS), at_of (j := v7.toNat) (by omega) (by rw [List.getElem?_map, List.getElem?_eq_getElem hk7] <;> rfl), ?_⟩
      have hv7 := hss _ (List.getElem_mem hk7)
      generalize ss[v7.toNat] = w7 at hv7
      refine ⟨_, rfl, p, 4, rfl, P7, by decide, by decide, fun v8 H8 k8 P8 a8 b8 => ?_⟩
      refine ⟨rfl, .inr ⟨_, rfl, _, _, rfl, rfl, _, _, rfl, ?_⟩⟩
      obtain ⟨m, em, hm⟩ : ∃ m : Int, (if w7 - (if decide (V.int v8 = V.int 0) = true then 1 else 0) > 0 then w7 - (if decide (V.int v8 = V.int 0) = true then 1 else 0) else 0) = m ∧ 0 ≤ m ∧ m ≤ 9999 := ⟨_, rfl, by split <;> split <;> omega, by split <;> split <;> omega⟩
      dsimp only
      rw [em]
      have k78 := k36.trans (k7.trans k8)
      have el8 := k78 _ _ npl el'
      refine ⟨l, _, _, rfl, rfl, el8, small1000 (by rw [List.length_map]; omega), ?_⟩
      refine ⟨_, _, _, ns ++ [m], rfl, fun b0 xs0 e0 => ?_, ?_, P8.put npl _, ?_, ?_, fun y hy => ?_⟩
      · have e1 := k78.tup P' _ _ (kT _ _ e0)
        rw [upd_ne (fun z0 => by rw [z0, el8] at e1; cases e1)]
        exact e1
      · exact (kH.trans k78).over nl _
      · rw [upd_same, List.map_append]
        rfl
      · rw [List.length_append, hnl]
        rfl
      · rcases List.mem_append.mp hy with hy | hy
        · exact hns y hy
        · rw [List.mem_singleton.mp hy]
          exact hm
    · rintro σ H' ⟨y3, y4, y5, ns, rfl, kT, kH, P', el', hnl, hns⟩
      match ns, hnl, hns, el' with
      | [d, kk], _, hns, el' =>
        refine ⟨_, rfl, l, _, 0, _, rfl, rfl, SqL.of el', atI_nat (j := 0) rfl, _, rfl, l, _, 1, _, rfl, rfl, SqL.of el', atI_nat (j := 1) rfl, (by show 2 ≤ sizeLine; decide), fun a na => ?_⟩
        exact q a d kk _ (kH.trans (Kp.new na _)) (P'.new na _) upd_same (hns d List.mem_cons_self) (hns kk (List.mem_cons_of_mem _ List.mem_cons_self))
end
end Deed

namespace Deed
open PySem PySem.Spec PyProof.Rows L2 LamX
section
variable {P : Program} {w : World} {K : PySem.W.Frag} {mg : Str → Option Value} {base : Heap} {T : List (Addr × Str)} {fW fI fY fA : Addr} {dW dI dY dA : FuncData}
/-! ### whole numbers, days: where they are such -/
abbrev sWhole : Stmt := topS 7
theorem scWhole : FnScope ["thing"] ["thing"] (defScope sWhole) := ⟨rfl, rfl, rfl, by decide +kernel, rfl, by decide +kernel, by decide +kernel⟩
def spWholeI : Sp := fun vs H Q _ => ∃ i : Int, vs = [.int i] ∧ Q (.bl true) H
theorem ok_wholeI {f : Addr} {fd : FuncData} {k : Nat} (F : Fun K "is_whole" "is_whole" sWhole f fd) (mi : mg "isinstance" = none) (mn : mg "int" = none) (mb : mg "bool" = none) : FnOk P w K mg base CX0 (k + 1) f fd ["thing"] spWholeI := by
  refine F.ok scWhole (fun vs H Q E h => ?_) (fun cdv A outer s H vs Q E hr h => ?_)
  · obtain ⟨i, rfl, _⟩ := h
    rfl
  · obtain ⟨i, rfl, q⟩ := h
    refine ⟨_, pss_one (ps_ret (pe_and (pe_callB call_isi (by rfl) mi (by decide +kernel) (pa_cons (pv 0) (pa_cons (pe_bltn (v := .ty "int") (by rfl) mn (by decide +kernel) rfl) pa_nil))) (pe_one (pe_not (pe_callB call_isi (by rfl) mi (by decide +kernel) (pa_cons (pv 0) (pa_cons (pe_bltn (v := .ty "bool") (by rfl) mb (by decide +kernel) rfl) pa_nil))))))), ?_⟩
    refine ⟨_, rfl, _, _, _, _, true, rfl, .ty "int", .base (.int i), kit_ty (by decide +kernel), _, rfl, ?_⟩
    refine iteT ?_
    exact ⟨_, rfl, _, _, _, _, false, rfl, .ty "bool", .base (.int i), kit_ty (by decide +kernel), _, rfl, q⟩
abbrev sWithin : Stmt := topS 8
theorem scWithin : FnScope ["thing", "low", "high"] ["thing", "low", "high"] (defScope sWithin) := ⟨rfl, rfl, rfl, by decide +kernel, rfl, by decide +kernel, by decide +kernel⟩
def spWithinI : Sp := fun vs H Q _ => ∃ i lo hi : Int, vs = [.int i, .int lo, .int hi] ∧ lo ≤ i ∧ i ≤ hi ∧ Q (.bl true) H
theorem ok_withinI {f : Addr} {fd : FuncData} {k : Nat} (F : Fun K "is_within" "is_within" sWithin f fd) (DW : Df K mg "is_whole" sWhole ["thing"] fW dW) (mi : mg "isinstance" = none) (mn : mg "int" = none) (mb : mg "bool" = none) : FnOk P w K mg base CX0 (k + 2) f fd ["thing", "low", "high"] spWithinI := by
  have GW : FnOk P w K mg base CX0 (k + 1) fW dW ["thing"] spWholeI := ok_wholeI DW.F mi mn mb
  refine F.ok scWithin (fun vs H Q E h => ?_) (fun cdv A outer s H vs Q E hr h => ?_)
  · obtain ⟨i, lo, hi, rfl, _⟩ := h
    rfl
  · obtain ⟨i, lo, hi, rfl, h1, h2, q⟩ := h
    refine ⟨_, pss_one (ps_ret (pe_and (pe_call GW hr (by rfl) DW.g DW.F.kp DW.b .nil pass0 (pa_cons (pv 0) pa_nil)) (pe_one (pe_chain op_le op_le (pv 1) (pv 0) (pv 2))))), ?_⟩
    refine ⟨_, rfl, i, rfl, true, rfl, ?_⟩
    refine iteT ?_
    refine ⟨_, rfl, _, rfl, _, _, rfl, rfl, _, rfl, ?_⟩
    rw [decide_eq_true h1]
    refine iteT ?_
    refine ⟨_, rfl, _, _, rfl, rfl, ?_⟩
    dsimp only
    rw [decide_eq_true h2]
    exact q
abbrev sIsDay : Stmt := topS 9
theorem scIsDay : FnScope ["thing"] ["thing"] (defScope sIsDay) := ⟨rfl, rfl, rfl, by decide +kernel, rfl, by decide +kernel, by decide +kernel⟩
def spDayI : Sp := fun vs H Q _ => ∃ i : Int, vs = [.int i] ∧ 0 ≤ i ∧ i ≤ 9999 ∧ Q (.bl true) H
theorem ok_dayI {f : Addr} {fd : FuncData} {k : Nat} (F : Fun K "is_day" "is_day" sIsDay f fd) (DI : Df K mg "is_within" sWithin ["thing", "low", "high"] fI dI) (DW : Df K mg "is_whole" sWhole ["thing"] fW dW) (mi : mg "isinstance" = none) (mn : mg "int" = none) (mb : mg "bool" = none) (mL : MgInt mg "LAST_DAY" 9999) : FnOk P w K mg base CX0 (k + 3) f fd ["thing"] spDayI := by
  have GI : FnOk P w K mg base CX0 (k + 2) fI dI ["thing", "low", "high"] spWithinI := ok_withinI DI.F DW mi mn mb
  refine F.ok scIsDay (fun vs H Q E h => ?_) (fun cdv A outer s H vs Q E hr h => ?_)
  · obtain ⟨i, rfl, _⟩ := h
    rfl
  · obtain ⟨i, rfl, h0, h1, q⟩ := h
    refine ⟨_, pss_one (ps_ret (pe_call GI hr (by rfl) DI.g DI.F.kp DI.b .nil pass0 (pa_cons (pv 0) (pa_cons pe_int (pa_cons (pe_num (by rfl) mL) pa_nil))))), ?_⟩
    exact ⟨_, rfl, i, 0, 9999, rfl, h0, h1, q⟩
abbrev sCheckDay : Stmt := topS 18
theorem scCheckDay : FnScope ["thing"] ["thing"] (defScope sCheckDay) := ⟨rfl, rfl, rfl, by decide +kernel, rfl, by decide +kernel, by decide +kernel⟩
def spCkDay : Sp := fun vs H Q _ => ∃ i : Int, vs = [.int i] ∧ 0 ≤ i ∧ i ≤ 9999 ∧ Q .non H
theorem ok_ckDay {f : Addr} {fd : FuncData} {k : Nat} (F : Fun K "check_day" "check_day" sCheckDay f fd) (DY : Df K mg "is_day" sIsDay ["thing"] fY dY) (DI : Df K mg "is_within" sWithin ["thing", "low", "high"] fI dI) (DW : Df K mg "is_whole" sWhole ["thing"] fW dW) (mi : mg "isinstance" = none) (mn : mg "int" = none) (mb : mg "bool" = none) (mL : MgInt mg "LAST_DAY" 9999) : FnOk P w K mg base CX0 (k + 4) f fd ["thing"] spCkDay := by
  have GY : FnOk P w K mg base CX0 (k + 3) fY dY ["thing"] spDayI := ok_dayI DY.F DI DW mi mn mb mL
  refine F.ok scCheckDay (fun vs H Q E h => ?_) (fun cdv A outer s H vs Q E hr h => ?_)
  · obtain ⟨i, rfl, _⟩ := h
    rfl
  · obtain ⟨i, rfl, h0, h1, q⟩ := h
    refine ⟨_, pss_one (ps_if (pt_not (pt_val (pe_call GY hr (by rfl) DY.g DY.F.kp DY.b .nil pass0 (pa_cons (pv 0) pa_nil)))) pss_never pss_nil), ?_⟩
    refine ⟨_, rfl, i, rfl, h0, h1, _, rfl, ?_⟩
    exact iteF q
end
end Deed

namespace Deed
open PySem PySem.Spec PyProof.Rows L2 LamX
section
variable {P : Program} {w : World} {K : PySem.W.Frag} {mg : Str → Option Value} {base : Heap} {T : List (Addr × Str)} {fW fA : Addr} {dW dA : FuncData}
abbrev sCheckAct : Stmt := topS 19
theorem scCheckAct : FnScope ["book", "thing"] ["book", "thing"] (defScope sCheckAct) := ⟨rfl, rfl, rfl, by decide +kernel, rfl, by decide +kernel, by decide +kernel⟩
/-- the number is one of those that φ picks -/
def spCkNum (φ : En → Bool) (T : List (Addr × Str)) : Sp := fun vs H Q _ => ∃ (b fk t : Addr) (n : Nat) (age : Int) (zs : List (Addr × En)) (e : En), vs = [.ref b, .int e.num] ∧ BookAt H b fk t n age zs ∧ Tabs T H ∧ e ∈ ens zs ∧ φ e = true ∧ ∀ H', ExtN H H' → Tabs T H' → Q .non H'
theorem ok_ckAct {f : Addr} {fd : FuncData} {k : Nat} (F : Fun K "check_act" "check_act" sCheckAct f fd) (DW : Df K mg "is_whole" sWhole ["thing"] fW dW) (mi : mg "isinstance" = none) (mn : mg "int" = none) (mb : mg "bool" = none) (DA : Df K mg "acts_of" sActsOf ["book"] fA dA) (GA : FnOk P w K mg base CX0 (k + 1) fA dA ["book"] (spNums (fun e => !e.isDeed) T)) :
    FnOk P w K mg base CX0 (k + 2) f fd ["book", "thing"] (spCkNum (fun e => !e.isDeed) T) := by
  have GW : FnOk P w K mg base CX0 (k + 1) fW dW ["thing"] spWholeI := ok_wholeI DW.F mi mn mb
  refine F.ok scCheckAct (fun vs H Q E h => ?_) (fun cdv A outer s H vs Q E hr h => ?_)
  · obtain ⟨b, fk, t, n, age, zs, e, rfl, _⟩ := h
    rfl
  · obtain ⟨b, fk, t, n, age, zs, e, rfl, hB, hT, he, hφ, q⟩ := h
    refine ⟨_, pss_one (ps_if (PW.pt (pw_or (pt_not (pt_val (pe_call GW hr (by rfl) DW.g DW.F.kp DW.b .nil pass0 (pa_cons (pv 1) pa_nil)))) (pw_or1 (pt_cmpR op_notIn_seq (pv 1) (pe_call GA hr (by rfl) DA.g DA.F.kp DA.b .nil pass0 (pa_cons (pv 0) pa_nil)) (by rfl))))) pss_never pss_nil), ?_⟩
    refine ⟨_, rfl, e.num, rfl, _, rfl, ?_⟩
    refine iteF ?_
    refine ⟨_, rfl, _, rfl, b, fk, t, n, age, zs, rfl, hB, hT, fun p zs' H1 eN T1 _ ep pm so => ?_⟩
    refine ⟨p, _, rfl, .inl (SqL.of ep), rfl, flat_ints _, _, rfl, ?_⟩
    have hm : e.num ∈ (zs'.filter fun z => !z.2.isDeed).map fun z => z.2.num := by
      obtain ⟨z, hz, rfl⟩ := List.mem_map.mp he
      exact List.mem_map.mpr ⟨z, List.mem_filter.mpr ⟨pm.mem_iff.mpr hz, hφ⟩, rfl⟩
    rw [mem_inV, decide_eq_true hm]
    exact iteF (q H1 eN T1)
end
end Deed

namespace Deed
open PySem PySem.Spec PyProof.Rows L2 LamX
section
variable {P : Program} {w : World} {K : PySem.W.Frag} {mg : Str → Option Value} {base : Heap} {T : List (Addr × Str)} {fAe fOn : Addr} {dAe dOn : FuncData}
/-! ### the open acts -/
abbrev sOpenA : Stmt := topS 21
abbrev nOpenA : List Str := ["book", "d", "k", "act"]
theorem scOpenA : FnScope nOpenA ["book", "d", "k"] (defScope sOpenA) := ⟨rfl, rfl, rfl, by decide +kernel, rfl, by decide +kernel, by decide +kernel⟩
/-- the open acts, by their numbers -/
structure OpenActs (n : Nat) (es : List En) (d k : Int) (ys : List (Addr × En)) : Prop where
  mem : ∀ z ∈ ys, z.2 ∈ es ∧ z.2.isDeed = false ∧ isOpen d k z.2 = true
  all : ∀ u ∈ es, u.isDeed = false → isOpen d k u = true → ∃ z ∈ ys, z.2 = u
  up : ys.Pairwise (fun a b => a.2.num < b.2.num)
  len : ys.length ≤ 16
def spOpenA (T : List (Addr × Str)) : Sp := fun vs H Q _ => ∃ (b fk t : Addr) (n : Nat) (age : Int) (zs : List (Addr × En)) (d k : Int), vs = [.ref b, .int d, .int k] ∧ BookAt H b fk t n age zs ∧ Tabs T H ∧
  ∀ (p : Addr) (ys : List (Addr × En)) (H' : Hp), ExtN H H' → Tabs T H' → Fresh H p → H' p = some (.lst (refs ys)) → (∀ z ∈ ys, EntAt H' z.1 z.2) → OpenActs n (ens zs) d k ys → Q (.ref p) H'
def t_openA (K : PySem.W.Frag) : TT := tAnd (tTest (tOp (rI0 fun i j => .bl (decide (i ≤ j))) (tOp (rIxT K) (tVar 3) (tC (.int 2))) (tVar 2))) (tTest (tOp (rI0 fun i j => .bl (decide (i ≤ j))) (tOp (rIxT K) (tVar 3) (tC (.int 1))) (tVar 1)))
theorem ok_openA {f : Addr} {fd : FuncData} {k : Nat} (F : Fun K "open_acts" "open_acts" sOpenA f fd) (DE : Df K mg "act_entries" sActE ["book"] fAe dAe) (GE : FnOk P w K mg base CX0 (k + 3) fAe dAe ["book"] (spPick (fun e => !e.isDeed) T)) (mW : MgInt mg "WRITTEN" 2) (mD : MgInt mg "DAY" 1) :
    FnOk P w K mg base CX0 (k + 4) f fd ["book", "d", "k"] (spOpenA T) := by
  refine F.ok scOpenA (fun vs H Q E h => ?_) (fun cdv A outer s H vs Q E hr h => ?_)
  · obtain ⟨b, fk, t, n, age, zs, d, k, rfl, _⟩ := h
    rfl
  · obtain ⟨b, fk, t, n, age, zs, d, kk, rfl, hB, hT, q⟩ := h
    refine ⟨_, pss_one (ps_ret (pe_lc (own := [("act", 3)]) (g := gName 3) (by rfl) scOpenA.nd (pi_list (pe_call GE hr (by rfl) DE.g DE.F.kp DE.b .nil pass0 (pa_cons (pv 0) pa_nil))) (blkOk_by (own := [("act", 3)]) (N := nOpenA) (sc := defScope sOpenA) (by decide +kernel)) (fun _ _ _ _ _ => pg_name (i := 3) scOpenA.nd rfl (Or.inl rfl))
      (fun _ _ _ _ _ => show PTs _ _ (t_openA K) from pts_one (PW.pt (pw_and (pt_cmpR op_le (pe_ix ix_tup (pv 3) (pe_num (by rfl) mW) (fun _ _ => rfl)) (pv 2) (nomark _)) (pw_and1 (pt_cmpR op_le (pe_ix ix_tup (pv 3) (pe_num (by rfl) mD) (fun _ _ => rfl)) (pv 1) (nomark _)))))) (fun _ _ _ _ _ => pv 3))), ?_⟩
    refine ⟨_, rfl, b, fk, t, n, age, zs, rfl, hB, hT, fun p zs' H1 eN T1 fr ep pm so => ?_⟩
    have hent : ∀ z ∈ zs', EntAt H1 z.1 z.2 := fun z hz => (hB.ent z (pm.mem_iff.mp hz)).kp (ExtN.tup eN)
    have hmem : ∀ z ∈ zs'.filter (fun z => !z.2.isDeed), z ∈ zs' := fun z hz => (List.mem_filter.mp hz).1
    have hlen : (zs'.filter fun z => !z.2.isDeed).length ≤ 16 := by
      have h1 := List.length_filter_le (fun z : Addr × En => !z.2.isDeed) zs'
      have h2 := pm.length_eq
      have h3 := hB.len
      omega
    have hso : (zs'.filter fun z => !z.2.isDeed).Pairwise (fun a b => a.2.num < b.2.num) := so.filter _
    have hact : ∀ z ∈ zs'.filter (fun z => !z.2.isDeed), z.2.isDeed = false := fun z hz => by
      have := (List.mem_filter.mp hz).2
      simpa using this
    have hall : ∀ u ∈ ens zs, u.isDeed = false → ∃ z ∈ zs'.filter (fun z => !z.2.isDeed), z.2 = u := fun u hu hd => by
      obtain ⟨z, hz, rfl⟩ := List.mem_map.mp ((ens_perm pm u).mpr hu)
      exact ⟨z, List.mem_filter.mpr ⟨hz, by rw [hd]; rfl⟩, rfl⟩
    generalize (zs'.filter fun z => !z.2.isDeed) = as at ep hmem hlen hso hact hall
    refine ⟨p, rfl, ⟨_, SqL.of ep⟩, fun D nD => ?_⟩
    refine lc_list (K := K) (a := p) (xs := refs as) (fun i H' => H' D = some (.lst (refs ((as.take i).filter fun z => isOpen d kk z.2))) ∧ Same H1 H') ⟨upd_same, fun b o e => by rw [upd_ne (ne_of_none e nD)]; exact e⟩ (fun i H' _ h => SqL.of (h.2 _ _ ep)) ?_ ?_
    · rintro i x H' hx ⟨eD, sm⟩
      obtain ⟨z, hz, rfl⟩ := ref_at hx
      have hzm := List.mem_of_getElem? hz
      obtain ⟨xs, ex, _, g1, g2, _⟩ := ((hent z (hmem z hzm)).kp (Same.tup sm)).tup
      have et := take_more hz
      have out : ∀ hno : isOpen d kk z.2 = false, H' D = some (.lst (refs ((as.take (i + 1)).filter fun z => isOpen d kk z.2))) ∧ Same H1 H' := fun hno => by
        refine ⟨?_, sm⟩
        rw [eD, et, List.filter_append]
        simp [hno]
      refine ⟨rfl, _, rfl, z.1, xs, 2, _, rfl, rfl, SqT.of ex, g2, _, rfl, _, _, rfl, rfl, _, rfl, ?_⟩
      refine ite2 (fun c1 => ?_) (fun c1 => ?_)
      · have c1' : z.2.wri ≤ kk := of_decide_eq_true c1
        refine ⟨_, rfl, z.1, xs, 1, _, rfl, rfl, SqT.of ex, g1, _, rfl, _, _, rfl, rfl, _, rfl, ?_⟩
        refine ite2 (fun c2 => ?_) (fun c2 => ?_)
        · have c2' : z.2.day ≤ d := of_decide_eq_true c2
          have hyes : isOpen d kk z.2 = true := by
            unfold isOpen
            rw [decide_eq_true c1', decide_eq_true c2']
            rfl
          refine ⟨_, rfl, _, eD, small1000 ?_, ?_, fun b o e => ?_⟩
          · have h1 := List.length_filter_le (fun z : Addr × En => isOpen d kk z.2) (as.take i)
            rw [List.length_map]
            rw [List.length_take] at h1
            omega
          · rw [upd_same, et, List.filter_append]
            simp [hyes, refs]
          · rw [upd_ne (ne_of_none e nD)]
            exact sm _ _ e
        · refine out ?_
          have c2' : ¬ z.2.day ≤ d := fun z0 => c2 (decide_eq_true z0)
          unfold isOpen
          rw [decide_eq_false c2', Bool.false_and]
      · refine iteF (out ?_)
        have c1' : ¬ z.2.wri ≤ kk := fun z0 => c1 (decide_eq_true z0)
        unfold isOpen
        rw [decide_eq_false c1', Bool.and_false]
    · rintro H' ⟨eD, sm⟩
      have el : as.take (refs as).length = as := List.take_of_length_le (by rw [List.length_map]; exact Nat.le_refl _)
      rw [el] at eD
      have esub : ∀ z ∈ as.filter (fun z => isOpen d kk z.2), z ∈ as := fun z hz => (List.mem_filter.mp hz).1
      refine q D _ H' (eN.trans (.of sm)) (T1.ext sm) (Fresh.of eN nD) eD (fun z hz => (hent z (hmem z (esub z hz))).kp (Same.tup sm)) ⟨fun z hz => ⟨?_, hact z (esub z hz), (List.mem_filter.mp hz).2⟩, fun u hu hd ho => ?_, hso.filter _, ?_⟩
      · exact (ens_perm pm _).mp (List.mem_map.mpr ⟨z, hmem z (esub z hz), rfl⟩)
      · obtain ⟨z, hz, rfl⟩ := hall u hu hd
        exact ⟨z, List.mem_filter.mpr ⟨hz, ho⟩, rfl⟩
      · have h1 := List.length_filter_le (fun z : Addr × En => isOpen d kk z.2) as
        omega
/-! ### acts of a word upon a number -/
abbrev sActsOn : Stmt := topS 22
abbrev nActsOn : List Str := ["acts", "word", "number", "act"]
abbrev pActsOn : List Str := ["acts", "word", "number"]
theorem scActsOn : FnScope nActsOn pActsOn (defScope sActsOn) := ⟨rfl, rfl, rfl, by decide +kernel, rfl, by decide +kernel, by decide +kernel⟩
def spActsOn : Sp := fun vs H Q _ => ∃ (la : Addr) (x : Str) (m : Int) (ys : List (Addr × En)), vs = [.ref la, .str x, .int m] ∧ H la = some (.lst (refs ys)) ∧ (∀ z ∈ ys, EntAt H z.1 z.2 ∧ z.2.isDeed = false) ∧ ys.length ≤ 1000 ∧
  ∀ p H', Same H H' → H p = none → H' p = some (.lst (((ys.filter fun z => isOn x m z.2).map fun z => z.2.num).map V.int)) → Q (.ref p) H'
def t_on (K : PySem.W.Frag) : TT := tAnd (tTest (tOp rEq (tOp (rIxT K) (tVar 3) (tC (.int 4))) (tVar 1))) (tTest (tOp rEq (tOp (rIxT K) (tVar 3) (tC (.int 5))) (tVar 2)))
theorem ok_actsOn {f : Addr} {fd : FuncData} {k : Nat} (F : Fun K "acts_on" "acts_on" sActsOn f fd) (mW : MgInt mg "WORD" 4) (mO : MgInt mg "OF" 5) (mN : MgInt mg "NUMBER" 0) : FnOk P w K mg base CX0 (k + 1) f fd pActsOn spActsOn := by
  refine F.ok scActsOn (fun vs H Q E h => ?_) (fun cdv A outer s H vs Q E hr h => ?_)
  · obtain ⟨la, x, m, ys, rfl, _⟩ := h
    rfl
  · obtain ⟨la, x, m, ys, rfl, hl, hys, hlen, q⟩ := h
    refine ⟨_, pss_one (ps_ret (pe_lc (own := [("act", 3)]) (g := gName 3) (by rfl) scActsOn.nd (pi_list (pv 0)) (blkOk_by (own := [("act", 3)]) (N := nActsOn) (sc := defScope sActsOn) (by decide +kernel)) (fun _ _ _ _ _ => pg_name (i := 3) scActsOn.nd rfl (Or.inl rfl))
      (fun _ _ _ _ _ => show PTs _ _ (t_on K) from pts_one (PW.pt (pw_and (pt_cmpR op_eq (pe_ix ix_tup (pv 3) (pe_num (by rfl) mW) (fun _ _ => rfl)) (pv 1) (nomark _)) (pw_and1 (pt_cmpR op_eq (pe_ix ix_tup (pv 3) (pe_num (by rfl) mO) (fun _ _ => rfl)) (pv 2) (nomark _))))))
      (fun _ _ _ _ _ => show PE _ _ (tOp (rIxT K) (tVar 3) (tC (.int 0))) from pe_ix ix_tup (pv 3) (pe_num (by rfl) mN) (fun _ _ => rfl)))), ?_⟩
    refine ⟨_, rfl, la, rfl, ⟨_, SqL.of hl⟩, fun D nD => ?_⟩
    refine lc_list (K := K) (a := la) (xs := refs ys) (fun i H' => H' D = some (.lst ((((ys.take i).filter fun z => isOn x m z.2).map fun z => z.2.num).map V.int)) ∧ Same H H') ⟨upd_same, fun b o e => by rw [upd_ne (ne_of_none e nD)]; exact e⟩ (fun i H' _ h => SqL.of (h.2 _ _ hl)) ?_ ?_
    · rintro i y H' hx ⟨eD, sm⟩
      obtain ⟨z, hz, rfl⟩ := ref_at hx
      have hzm := List.mem_of_getElem? hz
      have hi : i < ys.length := (List.getElem?_eq_some_iff.mp hz).1
      have hEz := (hys z hzm).1.kp (Same.tup sm)
      obtain ⟨xs, ex, g0, _, _, _, g4⟩ := hEz.tup
      obtain ⟨xs5, ex5, g5⟩ := hEz.five (hys z hzm).2
      have et := take_more hz
      have out : ∀ hno : isOn x m z.2 = false, H' D = some (.lst ((((ys.take (i + 1)).filter fun z => isOn x m z.2).map fun z => z.2.num).map V.int)) ∧ Same H H' := fun hno => by
        refine ⟨?_, sm⟩
        rw [eD, et, List.filter_append]
        simp [hno]
      refine ⟨rfl, _, rfl, z.1, xs, 4, _, rfl, rfl, SqT.of ex, g4, _, rfl, rfl, _, rfl, ?_⟩
      refine ite2 (fun c1 => ?_) (fun c1 => ?_)
      · have c1' : z.2.word = x := by
          have := of_decide_eq_true c1
          injection this
        refine ⟨_, rfl, z.1, xs5, 5, _, rfl, rfl, SqT.of ex5, g5, _, rfl, rfl, _, rfl, ?_⟩
        refine ite2 (fun c2 => ?_) (fun c2 => ?_)
        · have c2' : z.2.of = m := by
            have := of_decide_eq_true c2
            injection this
          have hyes : isOn x m z.2 = true := by
            unfold isOn
            rw [decide_eq_true c1', decide_eq_true c2']
            rfl
          refine ⟨_, rfl, z.1, xs, 0, _, rfl, rfl, SqT.of ex, g0, _, eD, small1000 ?_, ?_, fun b o e => ?_⟩
          · have h1 := List.length_filter_le (fun z : Addr × En => isOn x m z.2) (ys.take i)
            rw [List.length_map, List.length_map]
            rw [List.length_take] at h1
            omega
          · rw [upd_same, et, List.filter_append]
            simp [hyes]
          · rw [upd_ne (ne_of_none e nD)]
            exact sm _ _ e
        · refine out ?_
          have c2' : ¬ z.2.of = m := fun z0 => c2 (decide_eq_true (by rw [z0]))
          unfold isOn
          rw [decide_eq_false c2', Bool.and_false]
      · refine iteF (out ?_)
        have c1' : ¬ z.2.word = x := fun z0 => c1 (decide_eq_true (by rw [z0]))
        unfold isOn
        rw [decide_eq_false c1', Bool.false_and]
    · rintro H' ⟨eD, sm⟩
      have el : ys.take (refs ys).length = ys := List.take_of_length_le (by rw [List.length_map]; exact Nat.le_refl _)
      rw [el] at eD
      exact q D H' sm nD eD
/-! ### those in force -/
abbrev sForced : Stmt := topS 23
abbrev nForced : List Str := ["acts", "forced", "act"]
theorem scForced : FnScope nForced ["acts"] (defScope sForced) := ⟨rfl, rfl, rfl, by decide +kernel, rfl, by decide +kernel, by decide +kernel⟩
def spForced : Sp := fun vs H Q _ => ∃ (la : Addr) (n : Nat) (es : List En) (d k : Int) (ys : List (Addr × En)), vs = [.ref la] ∧ H la = some (.lst (refs ys)) ∧ (∀ z ∈ ys, EntAt H z.1 z.2) ∧ BkOk n es ∧ OpenActs n es d k ys ∧
  ∀ p H', Same H H' → H p = none → H' p = some (.lst (refs (ys.reverse.filter fun z => frc es d k z.2))) → Q (.ref p) H'
theorem ok_forced {f : Addr} {fd : FuncData} {k : Nat} (F : Fun K "acts_in_force" "acts_in_force" sForced f fd) (DO : Df K mg "acts_on" sActsOn pActsOn fOn dOn) (mW : MgInt mg "WORD" 4) (mO : MgInt mg "OF" 5) (mN : MgInt mg "NUMBER" 0) : FnOk P w K mg base CX0 (k + 2) f fd ["acts"] spForced := by
  have GO : FnOk P w K mg base CX0 (k + 1) fOn dOn pActsOn spActsOn := ok_actsOn DO.F mW mO mN
  refine F.ok scForced (fun vs H Q E h => ?_) (fun cdv A outer s H vs Q E hr h => ?_)
  · obtain ⟨la, n, es, d, k, ys, rfl, _⟩ := h
    rfl
  · obtain ⟨la, n, es, d, kk, ys, rfl, hl, hys, hB, hO, q⟩ := h
    refine ⟨_, pss_cons (ps_set (i := 1) scForced.nd rfl (.inl rfl) (pe_lst pa_nil))
      (pss_cons (ps_for PassesOwn.never rfl (pi_list (pe_revL (pv 0))) (pg_name (i := 2) scForced.nd rfl (.inl rfl))
        (pss_one (ps_if (pt_not (pt_truth (pe_call GO hr (by rfl) DO.g DO.F.kp DO.b .nil pass0 (pa_cons (pv 1) (pa_cons pe_str (pa_cons (pe_ix ix_tup (pv 2) (pe_num (by rfl) mN) (fun _ _ => rfl)) pa_nil)))) (by intro _; rfl)))
          (pss_one (ps_expr (pe_bm PySem.F.plainAttrs_list PySem.F.slot_list_append PySem.F.type_list_append mt_append (pv 1) (pa_cons (pv 2) pa_nil)))) pss_nil)))
      (pss_one (ps_ret (pv 1)))), ?_⟩
    refine ⟨Nat.zero_le _, fun fo nfo => ?_⟩
    have s1 : Same H (upd H fo (.lst [])) := fun b o e => by rw [upd_ne (ne_of_none e nfo)]; exact e
    have e1 : (upd H fo (.lst [])) fo = some (.lst []) := upd_same
    generalize (upd H fo (.lst [])) = H1 at s1 e1
    refine ⟨_, rfl, la, _, rfl, SqL.of (s1 _ _ hl), fun rv nrv => ?_⟩
    have s2 : Same H1 (upd H1 rv (.lst (refs ys).reverse)) := fun b o e => by rw [upd_ne (ne_of_none e nrv)]; exact e
    have erv : (upd H1 rv (.lst (refs ys).reverse)) rv = some (.lst (refs ys.reverse)) := by rw [upd_same, ← List.map_reverse]
    have e2 := s2 _ _ e1
    have nfr : fo ≠ rv := ne_of_none e1 nrv
    generalize (upd H1 rv (.lst (refs ys).reverse)) = H2 at s2 erv e2
    have s12 := s1.trans s2
    refine ⟨rv, rfl, ⟨_, SqL.of erv⟩, ?_⟩
    refine for_list (K := K) (a := rv) (xs := refs ys.reverse) (fun i σ H' => ∃ y2, σ = [some (.ref la), some (.ref fo), y2] ∧ Same H H' ∧ H' rv = some (.lst (refs ys.reverse)) ∧ H' fo = some (.lst (refs ((ys.reverse.take i).filter fun z => frc es d kk z.2)))) ⟨none, rfl, s12, erv, e2⟩ (fun i σ H' _ h => ?_) ?_ ?_
    · obtain ⟨_, _, _, e, _⟩ := h
      exact SqL.of e
    · rintro i x σ H' hx ⟨y2, rfl, sm, ev, ef⟩
      obtain ⟨z, hz, rfl⟩ := ref_at hx
      have hzr := List.mem_of_getElem? hz
      have hzm : z ∈ ys := List.mem_reverse.mp hzr
      have hi : i < ys.reverse.length := (List.getElem?_eq_some_iff.mp hz).1
      have hlr : ys.reverse.length = ys.length := List.length_reverse
      have hyl := hO.len
      obtain ⟨xs, ex, g0, _⟩ := ((hys z hzm).kp (Same.tup sm)).tup
      obtain ⟨m1, m2, m3⟩ := hO.mem z hzm
      have et := take_more hz
      have hsub : ∀ u ∈ (ys.reverse.take i).filter (fun z => frc es d kk z.2), u ∈ ys ∧ frc es d kk u.2 = true := fun u hu =>
        ⟨List.mem_reverse.mp (List.mem_of_mem_take (List.mem_filter.mp hu).1), (List.mem_filter.mp hu).2⟩
      have hfl : ((ys.reverse.take i).filter (fun z => frc es d kk z.2)).length ≤ 16 := by
        have h1 := List.length_filter_le (fun z : Addr × En => frc es d kk z.2) (ys.reverse.take i)
        rw [List.length_take] at h1
        omega
      refine ⟨_, rfl, _, rfl, z.1, xs, 0, _, rfl, rfl, SqT.of ex, g0, fo, "undone", z.2.num, _, rfl, ef, fun u hu => ⟨(hys u (hsub u hu).1).kp (Same.tup sm), (hO.mem u (hsub u hu).1).2.1⟩, by omega, fun p H3 s3 np ep => ⟨_, .inl ⟨_, SqL.of ep, rfl⟩, ?_⟩⟩
      -- none of the forced undoes it: just where it is in force
      have key : (((((ys.reverse.take i).filter fun z => frc es d kk z.2).filter fun u => isOn "undone" z.2.num u.2).map fun z => z.2.num).map V.int).isEmpty = frc es d kk z.2 := by
        rw [frc_eq hB d kk m1, m3, Bool.true_and, Bool.eq_iff_iff, List.all_eq_true]
        constructor
        · intro h u hu
          cases ho : isOn "undone" z.2.num u with
          | false => rfl
          | true =>
            cases hf : frc es d kk u with
            | false => rfl
            | true =>
              exfalso
              obtain ⟨h1, h2, h3⟩ := isOn_act (hB.ok u hu) (by decide) ho
              have lt := ((hB.ok u hu).of_lt h1).1
              obtain ⟨v, hv, rfl⟩ := hO.all u hu h1 (frc_open hB hu hf)
              -- it stands ahead in the turned list
              have hpre : v ∈ ys.reverse.take i := by
                have hv' : v ∈ ys.reverse := List.mem_reverse.mpr hv
                obtain ⟨j, hj, ej⟩ := List.mem_iff_getElem.mp hv'
                have hup : ys.reverse.Pairwise (fun a b => b.2.num < a.2.num) := List.pairwise_reverse.mpr hO.up
                have hji : j < i := by
                  rcases Nat.lt_trichotomy j i with q1 | q1 | q1
                  · exact q1
                  · subst q1
                    rw [List.getElem?_eq_getElem hj, ej] at hz
                    injection hz with hz
                    rw [hz] at lt h3
                    omega
                  · have := List.pairwise_iff_getElem.mp hup i j hi hj q1
                    have ei : ys.reverse[i] = z := by
                      rw [List.getElem?_eq_getElem hi] at hz
                      exact Option.some.inj hz
                    rw [ei, ej] at this
                    omega
                exact List.mem_take_iff_getElem.mpr ⟨j, by omega, ej⟩
              have hmem : v.2.num ∈ (((ys.reverse.take i).filter fun z => frc es d kk z.2).filter fun u => isOn "undone" z.2.num u.2).map fun z => z.2.num :=
                List.mem_map.mpr ⟨v, List.mem_filter.mpr ⟨List.mem_filter.mpr ⟨hpre, hf⟩, ho⟩, rfl⟩
              rw [List.isEmpty_iff] at h
              have h' := List.map_eq_nil_iff.mp h
              rw [h'] at hmem
              cases hmem
        · intro h
          rw [List.isEmpty_iff, List.map_eq_nil_iff, List.map_eq_nil_iff, List.filter_eq_nil_iff]
          intro u hu ho
          obtain ⟨hu1, hu2⟩ := hsub u hu
          have := h u.2 (hO.mem u hu1).1
          rw [ho, hu2] at this
          cases this
      rw [key]
      have ef3 := s3 _ _ ef
      cases hf : frc es d kk z.2 with
      | true =>
        refine iteT ?_
        refine ⟨_, rfl, .inl ⟨rfl, _, SqL.of ef3⟩, _, rfl, fo, _, _, rfl, rfl, ef3, small1000 (by rw [List.length_map]; omega), ?_⟩
        refine ⟨_, rfl, fun b o e => ?_, ?_, ?_⟩
        · rw [upd_ne (ne_of_none e nfo)]
          exact s3 _ _ (sm _ _ e)
        · rw [upd_ne nfr.symm]
          exact s3 _ _ ev
        · rw [upd_same, et, List.filter_append]
          simp [hf, refs]
      | false =>
        refine iteF ?_
        refine ⟨_, rfl, sm.trans s3, s3 _ _ ev, ?_⟩
        rw [ef3, et, List.filter_append]
        simp [hf]
    · rintro σ H' ⟨y2, rfl, sm, ev, ef⟩
      have el : ys.reverse.take (refs ys.reverse).length = ys.reverse := List.take_of_length_le (by rw [List.length_map]; exact Nat.le_refl _)
      rw [el] at ef
      exact ⟨_, rfl, q fo H' sm nfo ef⟩
end
end Deed

namespace Deed
open PySem PySem.Spec PyProof.Rows L2 LamX
section
variable {P : Program} {w : World} {K : PySem.W.Frag} {mg : Str → Option Value} {base : Heap} {T : List (Addr × Str)} {fCA fCD fOA fFo : Addr} {dCA dCD dOA dFo : FuncData}
/-! ### in_force -/
abbrev sInForce : Stmt := topS 24
abbrev nInForce : List Str := ["book", "act", "d", "k", "forced"]
abbrev pInForce : List Str := ["book", "act", "d", "k"]
theorem scInForce : FnScope nInForce pInForce (defScope sInForce) := ⟨rfl, rfl, rfl, by decide +kernel, rfl, by decide +kernel, by decide +kernel⟩
def spInForce (T : List (Addr × Str)) : Sp := fun vs H Q _ => ∃ (b fk t : Addr) (n : Nat) (age : Int) (zs : List (Addr × En)) (e : En) (d k : Int), vs = [.ref b, .int e.num, .int d, .int k] ∧ BookAt H b fk t n age zs ∧ Tabs T H ∧ e ∈ ens zs ∧ e.isDeed = false ∧ (0 ≤ d ∧ d ≤ 9999) ∧ (0 ≤ k ∧ k ≤ 9999) ∧
  ∀ H', ExtN H H' → Tabs T H' → Q (.bl (frc (ens zs) d k e)) H'
theorem ok_inForce {f : Addr} {fd : FuncData} {k : Nat} {dv : List V} (F : FunD K "in_force" "in_force" (defArgs sInForce) (defBody sInForce) (defScope sInForce) dv [] f fd) (mN : MgInt mg "NUMBER" 0)
    (DCA : Df K mg "check_act" sCheckAct ["book", "thing"] fCA dCA) (GCA : FnOk P w K mg base CX0 k fCA dCA ["book", "thing"] (spCkNum (fun e => !e.isDeed) T)) (DCD : Df K mg "check_day" sCheckDay ["thing"] fCD dCD) (GCD : FnOk P w K mg base CX0 k fCD dCD ["thing"] spCkDay)
    (DOA : Df K mg "open_acts" sOpenA ["book", "d", "k"] fOA dOA) (GOA : FnOk P w K mg base CX0 k fOA dOA ["book", "d", "k"] (spOpenA T)) (DFo : Df K mg "acts_in_force" sForced ["acts"] fFo dFo) (GFo : FnOk P w K mg base CX0 k fFo dFo ["acts"] spForced) : FnOk P w K mg base CX0 (k + 1) f fd pInForce (spInForce T) := by
  refine F.ok scInForce (fun vs H Q E h => ?_) (fun cdv A outer s H vs Q E hr h => ?_)
  · obtain ⟨b, fk, t, n, age, zs, e, d, k, rfl, _⟩ := h
    rfl
  · obtain ⟨b, fk, t, n, age, zs, e, d, kk, rfl, hB, hT, he, hd, hd0, hk0, q⟩ := h
    refine ⟨_, PSs.nox (pss_cons (ps_expr (pe_call GCA hr (by rfl) DCA.g DCA.F.kp DCA.b .nil pass0 (pa_cons (pv 0) (pa_cons (pv 1) pa_nil))))
      (pss_cons (ps_expr (pe_call GCD hr (by rfl) DCD.g DCD.F.kp DCD.b .nil pass0 (pa_cons (pv 2) pa_nil)))
      (pss_cons (ps_expr (pe_call GCD hr (by rfl) DCD.g DCD.F.kp DCD.b .nil pass0 (pa_cons (pv 3) pa_nil)))
      (pss_one (ps_ret (pe_cmpR op_in_seq (pv 1) (pe_lc (own := [("forced", 4)]) (g := gName 4) (by rfl) scInForce.nd (pi_list (pe_call GFo hr (by rfl) DFo.g DFo.F.kp DFo.b .nil pass0 (pa_cons (pe_call GOA hr (by rfl) DOA.g DOA.F.kp DOA.b .nil pass0 (pa_cons (pv 0) (pa_cons (pv 2) (pa_cons (pv 3) pa_nil)))) pa_nil))) (blkOk_by (own := [("forced", 4)]) (N := nInForce) (sc := defScope sInForce) (by decide +kernel)) (fun _ _ _ _ _ => pg_name (i := 4) scInForce.nd rfl (Or.inl rfl)) (fun _ _ _ _ _ => pts_nil)
        (fun _ _ _ _ _ => show PE _ _ (tOp (rIxT K) (tVar 4) (tC (.int 0))) from pe_ix ix_tup (pv 4) (pe_num (by rfl) mN) (fun _ _ => rfl))) (by rfl))))))), ?_⟩
    refine ⟨_, rfl, _, rfl, b, fk, t, n, age, zs, e, rfl, hB, hT, he, (by show (!e.isDeed) = true; rw [hd]; rfl), fun H1 e1 T1 => ?_⟩
    refine ⟨_, rfl, d, rfl, hd0.1, hd0.2, ?_⟩
    refine ⟨_, rfl, kk, rfl, hk0.1, hk0.2, ?_⟩
    refine ⟨_, rfl, ?_⟩
    refine ⟨_, rfl, _, rfl, _, rfl, b, fk, t, n, age, zs, d, kk, rfl, hB.kp (ExtN.tup e1), T1, fun p ys H2 e2 T2 fr2 ep2 hy2 hO => ?_⟩
    refine ⟨p, n, ens zs, d, kk, ys, rfl, ep2, hy2, hB.ok, hO, fun r H3 s3 nr er => ?_⟩
    have hlenF : (ys.reverse.filter fun z => frc (ens zs) d kk z.2).length ≤ 16 := by
      have h1 := List.length_filter_le (fun z : Addr × En => frc (ens zs) d kk z.2) ys.reverse
      have h2 := hO.len
      rw [List.length_reverse] at h1
      omega
    have hmemF : ∀ z ∈ ys.reverse.filter (fun z => frc (ens zs) d kk z.2), z ∈ ys ∧ frc (ens zs) d kk z.2 = true := fun z hz => ⟨List.mem_reverse.mp (List.mem_filter.mp hz).1, (List.mem_filter.mp hz).2⟩
    have hallF : ∀ z ∈ ys, frc (ens zs) d kk z.2 = true → z ∈ ys.reverse.filter (fun z => frc (ens zs) d kk z.2) := fun z hz hf => List.mem_filter.mpr ⟨List.mem_reverse.mpr hz, hf⟩
    generalize (ys.reverse.filter fun z => frc (ens zs) d kk z.2) = fs at er hlenF hmemF hallF
    refine ⟨r, rfl, ⟨_, SqL.of er⟩, fun D nD => ?_⟩
    refine lc_list (K := K) (a := r) (xs := refs fs) (fun i H' => H' D = some (.lst (((fs.take i).map fun z => z.2.num).map V.int)) ∧ Same H3 H') ⟨upd_same, fun b o e => by rw [upd_ne (ne_of_none e nD)]; exact e⟩ (fun i H' _ h => SqL.of (h.2 _ _ er)) ?_ ?_
    · rintro i x H' hx ⟨eD, sm⟩
      obtain ⟨z, hz, rfl⟩ := ref_at hx
      have hi : i < fs.length := (List.getElem?_eq_some_iff.mp hz).1
      obtain ⟨xs, ex, g0, _⟩ := (((hy2 z (hmemF z (List.mem_of_getElem? hz)).1).kp (Same.tup s3)).kp (Same.tup sm)).tup
      refine ⟨rfl, ?_⟩
      unfold tYes
      dsimp only
      rw [if_pos rfl]
      refine ⟨_, rfl, z.1, xs, 0, _, rfl, rfl, SqT.of ex, g0, _, eD, small1000 (by rw [List.length_map, List.length_map, List.length_take]; omega), ?_, fun b o e => ?_⟩
      · rw [upd_same, take_more hz, List.map_append, List.map_append]
        rfl
      · rw [upd_ne (ne_of_none e nD)]
        exact sm _ _ e
    · rintro H' ⟨eD, sm⟩
      have el : fs.take (refs fs).length = fs := List.take_of_length_le (by rw [List.length_map]; exact Nat.le_refl _)
      rw [el] at eD
      refine ⟨D, _, rfl, .inl (SqL.of eD), rfl, flat_ints _, ?_⟩
      have fin : decide (e.num ∈ fs.map fun z => z.2.num) = frc (ens zs) d kk e := by
        rw [Bool.eq_iff_iff, decide_eq_true_iff]
        constructor
        · intro h
          obtain ⟨z, hz, hn⟩ := List.mem_map.mp h
          obtain ⟨h1, h2⟩ := hmemF z hz
          rw [← num_inj hB.ok (hO.mem z h1).1 he hn]
          exact h2
        · intro h
          obtain ⟨z, hz, rfl⟩ := hO.all e he hd (frc_open hB.ok he h)
          exact List.mem_map.mpr ⟨z, hallF z hz h, rfl⟩
      rw [mem_inV, fin]
      exact q H' (e1.trans (e2.trans ((ExtN.of s3).trans (.of sm)))) ((T2.ext s3).ext sm)
end
end Deed

namespace Deed
open PySem PySem.Spec PyProof.Rows L2 LamX
theorem BkOk.snoc {n : Nat} {es : List En} {e : En} (hok : BkOk n es) (hlt : ∀ e' ∈ es, e'.num < e.num) (h0 : 0 ≤ e.num) (h30 : e.num ≤ 30) (hEn : EnOk n (dn es) (an es) e) : BkOk n (es ++ [e]) := by
  have hd : ∀ x ∈ dn es, x ∈ dn (es ++ [e]) := fun x hx => by rw [dn_snoc]; exact List.mem_append_left _ hx
  have ha : ∀ x ∈ an es, x ∈ an (es ++ [e]) := fun x hx => by rw [an_snoc]; exact List.mem_append_left _ hx
  refine ⟨?_, fun e' he' => ?_, fun e' he' => ?_⟩
  · rw [List.map_append]
    refine List.nodup_append.mpr ⟨hok.nd, List.pairwise_singleton _ _, fun x hx y hy => ?_⟩
    obtain ⟨e', he', rfl⟩ := List.mem_map.mp hx
    have hy' : y = e.num := by simpa using hy
    rw [hy']
    exact Int.ne_of_lt (hlt e' he')
  · rcases List.mem_append.mp he' with he' | he'
    · exact hok.rng e' he'
    · rw [List.mem_singleton.mp he']
      exact ⟨h0, h30⟩
  · rcases List.mem_append.mp he' with he' | he'
    · exact (hok.ok e' he').mono hd ha
    · rw [List.mem_singleton.mp he']
      exact hEn.mono hd ha
section
variable {P : Program} {w : World} {K : PySem.W.Frag} {mg : Str → Option Value} {base : Heap} {T : List (Addr × Str)} {fDr fDy fFo fMi : Addr} {dDr dDy dFo dMi : FuncData}
/-! ### a book of undones -/
abbrev sUndo : Stmt := topS 43
abbrev nUndo : List Str := ["_law_pen_here", "_law_folk_here", "_law_found", "_law_number", "_law_of_here"]
theorem scUndo : FnScope nUndo ["_law_pen_here"] (defScope sUndo) := ⟨rfl, rfl, rfl, by decide +kernel, rfl, by decide +kernel, by decide +kernel⟩
def spUndo : Sp := fun vs H Q _ => ∃ (p : Addr), vs = [.ref p] ∧ PenAt H p ∧ ∀ b fk t n age zs H', Kp p H H' → PenAt H' p → BookAt H' b fk t n age zs → Q (.ref b) H'
theorem ok_undo {f : Addr} {fd : FuncData} {k : Nat} (F : Fun K "_law_undoing" "_law_undoing" sUndo f fd) (D : DrawD K mg fDr dDr) (DY : DayD K mg fDy dDy) (DO : FolkD K mg fFo dFo) (DM : MixedD K mg fMi dMi) (B : Bi mg) : FnOk P w K mg base CX0 (k + 3) f fd ["_law_pen_here"] spUndo := by
  have G : FnOk P w K mg base CX0 (k + 2) fDr dDr ["_law_pen_here", "_law_bound"] spDraw := ok_draw D.F
  have GY : FnOk P w K mg base CX0 (k + 2) fDy dDy ["_law_pen_here"] spDay := ok_day DY.F D
  have GO : FnOk P w K mg base CX0 (k + 2) fFo dFo ["_law_pen_here", "_law_least"] spFolk := ok_folk DO.F D B.range B.min B.tuple
  have GM : FnOk P w K mg base CX0 (k + 2) fMi dMi ["_law_pen_here", "_law_some"] (spMixed K) := ok_mixed DM.F D B
  refine F.ok scUndo (fun vs H Q E h => ?_) (fun cdv A outer s H vs Q E hr h => ?_)
  · obtain ⟨p, rfl, _⟩ := h
    rfl
  · obtain ⟨p, rfl, hP, q⟩ := h
    refine ⟨_, pss_cons (ps_set (i := 1) scUndo.nd rfl (.inl rfl) (pe_call GO hr (by rfl) DO.g DO.F.kp DO.b .nil pass0 (pa_cons (pv 0) (pa_cons pe_int pa_nil))))
      (pss_cons (ps_set (i := 2) scUndo.nd rfl (.inl rfl) (pe_lst (pa_cons (pe_tup (pa_cons pe_int (pa_cons pe_int (pa_cons pe_int (pa_cons pe_int (pa_cons pe_str (pa_cons pe_int (pa_cons pe_int (pa_cons (pe_tup pa_nil) (pa_cons (pe_tup pa_nil) pa_nil)))))))))) (pa_cons (pe_tup (pa_cons pe_int (pa_cons (pe_call GY hr (by rfl) DY.g DY.F.kp DY.b .nil pass0 (pa_cons (pv 0) pa_nil)) (pa_cons (pe_call GY hr (by rfl) DY.g DY.F.kp DY.b .nil pass0 (pa_cons (pv 0) pa_nil)) (pa_cons pe_int (pa_cons pe_str (pa_cons pe_int pa_nil))))))) pa_nil))))
      (pss_cons (ps_for PassesOwn.never rfl (pi_range2 (by rfl) B.range (pa_cons pe_int (pa_cons (pe_op op_add pe_int (pe_call G hr (by rfl) D.g D.F.kp D.b .nil pass0 (pa_cons (pv 0) (pa_cons pe_int pa_nil)))) pa_nil))) (pg_name (i := 3) scUndo.nd rfl (.inl rfl))
        (pss_cons (ps_set (i := 4) scUndo.nd rfl (.inl rfl) (pe_ix ix_list (pe_lst (pa_cons (pe_op op_sub (pv 3) pe_int) (pa_cons (pe_op op_add pe_int (pe_call G hr (by rfl) D.g D.F.kp D.b .nil pass0 (pa_cons (pv 0) (pa_cons (pe_op op_sub (pv 3) pe_int) pa_nil)))) pa_nil))) (pe_callTy call_int1 (by rfl) B.int (by decide +kernel) (pa_cons (pe_cmpR op_eq (pe_call G hr (by rfl) D.g D.F.kp D.b .nil pass0 (pa_cons (pv 0) (pa_cons pe_int pa_nil))) pe_int (nomark _)) pa_nil)) (fun _ _ => rfl)))
        (pss_one (ps_expr (pe_bm PySem.F.plainAttrs_list PySem.F.slot_list_append PySem.F.type_list_append mt_append (pv 2) (pa_cons (pe_tup (pa_cons (pv 3) (pa_cons (pe_call GY hr (by rfl) DY.g DY.F.kp DY.b .nil pass0 (pa_cons (pv 0) pa_nil)) (pa_cons (pe_call GY hr (by rfl) DY.g DY.F.kp DY.b .nil pass0 (pa_cons (pv 0) pa_nil)) (pa_cons pe_int (pa_cons pe_str (pa_cons (pv 4) pa_nil))))))) pa_nil))))))
      (pss_one (ps_ret (pe_tup (pa_cons (pv 1) (pa_cons pe_int (pa_cons (pe_callTy call_tuple_of (by rfl) B.tuple (by decide +kernel) (pa_cons (pe_call GM hr (by rfl) DM.g DM.F.kp DM.b .nil pass0 (pa_cons (pv 0) (pa_cons (pv 2) pa_nil))) pa_nil)) pa_nil)))))))), ?_⟩
    refine ⟨_, rfl, p, 2, rfl, hP, by decide, by decide, fun fk n H1 k1 P1 F1 hn2 hn6 => ?_⟩
    have hn2' : 2 ≤ n := by omega
    -- the first two entries
    refine ⟨Nat.zero_le _, fun r0 nr0 => ?_⟩
    have k2 : Kp p H1 (upd H1 r0 (.tup [])) := Kp.new nr0 _
    have P2 := P1.new nr0 (.tup [])
    have er2 : (upd H1 r0 (.tup [])) r0 = some (.tup []) := upd_same
    generalize (upd H1 r0 (.tup [])) = H2 at k2 P2 er2
    refine ⟨Nat.zero_le _, fun w0 nw0 => ?_⟩
    have k3 : Kp p H2 (upd H2 w0 (.tup [])) := Kp.new nw0 _
    have P3 := P2.new nw0 (.tup [])
    have ew3 : (upd H2 w0 (.tup [])) w0 = some (.tup []) := upd_same
    generalize (upd H2 w0 (.tup [])) = H3 at k3 P3 ew3
    refine ⟨(by show 9 ≤ sizeLine; decide), fun a0 na0 => ?_⟩
    have k4 : Kp p H3 (upd H3 a0 (.tup [.int 0, .int 0, .int 0, .int 0, .str "deed", .int 0, .int 1, .ref r0, .ref w0])) := Kp.new na0 _
    have P4 := P3.new na0 (.tup [.int 0, .int 0, .int 0, .int 0, .str "deed", .int 0, .int 1, .ref r0, .ref w0])
    have ea4 : (upd H3 a0 (.tup [.int 0, .int 0, .int 0, .int 0, .str "deed", .int 0, .int 1, .ref r0, .ref w0])) a0 = some (.tup [.int 0, .int 0, .int 0, .int 0, .str "deed", .int 0, .int 1, .ref r0, .ref w0]) := upd_same
    generalize (upd H3 a0 (.tup [.int 0, .int 0, .int 0, .int 0, .str "deed", .int 0, .int 1, .ref r0, .ref w0])) = H4 at k4 P4 ea4
    have E4 : EntAt H4 a0 ⟨0, 0, 0, 0, .deed 0 1 [] []⟩ := ⟨r0, w0, ea4, k4.tup P3 _ _ (k3.tup P2 _ _ er2), k4.tup P3 _ _ ew3⟩
    refine ⟨_, rfl, p, rfl, P4, fun v5 H5 k5 P5 a5 b5 => ?_⟩
    refine ⟨_, rfl, p, rfl, P5, fun v6 H6 k6 P6 a6 b6 => ?_⟩
    refine ⟨(by show 6 ≤ sizeLine; decide), fun a1 na1 => ?_⟩
    have k7 : Kp p H6 (upd H6 a1 (.tup [.int 1, .int v5, .int v6, .int 0, .str "void", .int 0])) := Kp.new na1 _
    have P7 := P6.new na1 (.tup [.int 1, .int v5, .int v6, .int 0, .str "void", .int 0])
    have ea7 : (upd H6 a1 (.tup [.int 1, .int v5, .int v6, .int 0, .str "void", .int 0])) a1 = some (.tup [.int 1, .int v5, .int v6, .int 0, .str "void", .int 0]) := upd_same
    generalize (upd H6 a1 (.tup [.int 1, .int v5, .int v6, .int 0, .str "void", .int 0])) = H7 at k7 P7 ea7
    have E7 : EntAt H7 a1 ⟨1, v5, v6, 0, .act "void" 0⟩ := ea7
    have k47 : Kp p H4 H7 := k5.trans (k6.trans k7)
    refine ⟨(by show 2 ≤ sizeLine; decide), fun l nl => ?_⟩
    have k8 : Kp p H7 (upd H7 l (.lst [.ref a0, .ref a1])) := Kp.new nl _
    have P8 := P7.new nl (.lst [.ref a0, .ref a1])
    have npl : l ≠ p := P7.free nl
    have el8 : (upd H7 l (.lst [.ref a0, .ref a1])) l = some (.lst [.ref a0, .ref a1]) := upd_same
    generalize (upd H7 l (.lst [.ref a0, .ref a1])) = H8 at k8 P8 el8
    have k08 : Kp p H H8 := k1.trans (k2.trans (k3.trans (k4.trans (k47.trans k8))))
    have hlH : H l = none := by
      cases z : H l with
      | none => rfl
      | some o =>
        have := (k1.trans (k2.trans (k3.trans (k4.trans k47)))) _ _ npl z
        rw [this] at nl
        cases nl
    have ok0 : BkOk n [⟨0, 0, 0, 0, .deed 0 1 [] []⟩] := BkOk.snoc (es := []) ⟨List.nodup_nil, (fun _ h => nomatch h), (fun _ h => nomatch h)⟩ (fun _ h => nomatch h) (by decide) (by decide)
      ⟨⟨by decide, by decide⟩, ⟨by decide, by decide⟩, ⟨by decide, by decide⟩, ⟨by decide, by show (0 : Int) < n; omega⟩, ⟨by decide, by show (1 : Int) < n; omega⟩, by decide, by decide, .nil, (fun _ h => nomatch h), by decide, .nil, fun _ h => nomatch h⟩
    have ok1 : BkOk n ([⟨0, 0, 0, 0, .deed 0 1 [] []⟩] ++ [⟨1, v5, v6, 0, .act "void" 0⟩]) := ok0.snoc (fun e' he' => by rw [List.mem_singleton.mp he']; show (0 : Int) < 1; decide) (by show (0 : Int) ≤ 1; decide) (by show (1 : Int) ≤ 30; decide)
      ⟨⟨a5, b5⟩, ⟨a6, b6⟩, ⟨by show (0 : Int) ≤ 0; decide, by show (0 : Int) ≤ 3; decide⟩, .inr ⟨.inr rfl, by decide⟩, by show (0 : Int) < 1; decide⟩
    refine ⟨_, rfl, p, 14, rfl, P8, by decide, by decide, fun v9 H9 k9 P9 a9 b9 => ?_⟩
    refine ⟨_, _, rfl, rfl, 2, 2 + v9, rfl, ⟨by decide, by decide, by omega, by omega⟩, ?_⟩
    refine for_range (lo := 2) (n := (2 + v9 - 2).toNat) (fun i σ H' => ∃ y3 y4, ∃ zs : List (Addr × En), σ = [some (.ref p), some (.ref fk), some (.ref l), y3, y4] ∧ Kp p H H' ∧ PenAt H' p ∧ FolkAt H' fk n ∧ H' l = some (.lst (refs zs)) ∧ (∀ z ∈ zs, EntAt H' z.1 z.2) ∧ zs.length = i + 2 ∧ BkOk n (ens zs) ∧ (∀ e ∈ ens zs, e.num < (i : Int) + 2) ∧ ∀ m : Int, 1 ≤ m → m < (i : Int) + 2 → m ∈ an (ens zs))
      ⟨none, none, [(a0, ⟨0, 0, 0, 0, .deed 0 1 [] []⟩), (a1, ⟨1, v5, v6, 0, .act "void" 0⟩)], rfl, k08.trans k9, P9, ((((((F1.kp k2 P1).kp k3 P2).kp k4 P3).kp k47 P4).kp k8 P7).kp k9 P8), k9 _ _ npl el8, fun z hz => ?_, rfl, ok1, fun e he => ?_, fun m h1 h2 => ?_⟩ ?_ ?_
    · rcases List.mem_cons.mp hz with rfl | hz
      · exact E4.kp ((k47.tup P4).trans ((k8.tup P7).trans (k9.tup P8)))
      · rw [List.mem_singleton.mp hz]
        exact E7.kp ((k8.tup P7).trans (k9.tup P8))
    · rcases List.mem_cons.mp he with rfl | he
      · show (0 : Int) < ((0 : Nat) : Int) + 2
        decide
      · rw [List.mem_singleton.mp he]
        show (1 : Int) < ((0 : Nat) : Int) + 2
        decide
    · have hm : m = 1 := by omega
      subst hm
      show (1 : Int) ∈ [1]
      exact List.mem_cons_self
    · rintro i σ H' hi ⟨y3, y4, zs, rfl, k', P', F', el', hent, hlen, hok, hlt, hall⟩
      have hi14 : i < 14 := by omega
      refine ⟨_, rfl, _, _, rfl, rfl, ?_⟩
      refine ⟨_, rfl, _, rfl, _, _, rfl, rfl, p, _, rfl, P', by omega, by omega, fun v10 H10 k10 P10 a10 b10 => ?_⟩
      refine ⟨_, _, rfl, rfl, (by show 2 ≤ sizeLine; decide), fun m2 nm2 => ?_⟩
      refine ⟨_, rfl, p, 3, rfl, P10.new nm2 _, by decide, by decide, fun v11 H11 k11 P11 a11 b11 => ?_⟩
      refine ⟨rfl, .inr ⟨_, rfl, ?_⟩⟩
      obtain ⟨o, go, ho⟩ : ∃ o : Int, atI [V.int (2 + (i : Int) - 1), V.int (1 + v10)] (if decide (V.int v11 = V.int 0) = true then 1 else 0) = some (.int o) ∧ 1 ≤ o ∧ o < 2 + (i : Int) := by
        by_cases hc : V.int v11 = V.int 0
        · rw [decide_eq_true hc]
          exact ⟨_, atI_nat (j := 1) rfl, by omega, by omega⟩
        · rw [decide_eq_false hc]
          exact ⟨_, atI_nat (j := 0) rfl, by omega, by omega⟩
      have k11' : Kp p H' H11 := k10.trans ((Kp.new nm2 _).trans k11)
      refine ⟨m2, _, _, _, rfl, rfl, SqL.of (k11 _ _ (P10.free nm2) upd_same), go, ?_⟩
      have el11 := k11' _ _ npl el'
      refine ⟨_, rfl, .inl ⟨rfl, _, SqL.of el11⟩, _, rfl, ?_⟩
      refine ⟨_, rfl, p, rfl, P11, fun v12 H12 k12 P12 a12 b12 => ?_⟩
      refine ⟨_, rfl, p, rfl, P12, fun v13 H13 k13 P13 a13 b13 => ?_⟩
      refine ⟨_, rfl, (by show 6 ≤ sizeLine; decide), fun a na => ?_⟩
      have k14 : Kp p H13 (upd H13 a (.tup [.int (2 + (i : Int)), .int v12, .int v13, .int 0, .str "undone", .int o])) := Kp.new na _
      have P14 := P13.new na (.tup [.int (2 + (i : Int)), .int v12, .int v13, .int 0, .str "undone", .int o])
      have ea14 : (upd H13 a (.tup [.int (2 + (i : Int)), .int v12, .int v13, .int 0, .str "undone", .int o])) a = some (.tup [.int (2 + (i : Int)), .int v12, .int v13, .int 0, .str "undone", .int o]) := upd_same
      generalize (upd H13 a (.tup [.int (2 + (i : Int)), .int v12, .int v13, .int 0, .str "undone", .int o])) = H14 at k14 P14 ea14
      have kk : Kp p H' H14 := k11'.trans (k12.trans (k13.trans k14))
      have el14 := kk _ _ npl el'
      have E14 : EntAt H14 a ⟨2 + (i : Int), v12, v13, 0, .act "undone" o⟩ := ea14
      refine ⟨l, _, _, rfl, rfl, el14, small1000 (by rw [List.length_map]; omega), ?_⟩
      have kTl := KpT.lst el14 (.lst (refs zs ++ [.ref a]))
      have kT := (kk.tup P').trans kTl
      have ee : ens (zs ++ [(a, ⟨2 + (i : Int), v12, v13, 0, .act "undone" o⟩)]) = ens zs ++ [⟨2 + (i : Int), v12, v13, 0, .act "undone" o⟩] := by simp [ens]
      refine ⟨_, _, zs ++ [(a, ⟨2 + (i : Int), v12, v13, 0, .act "undone" o⟩)], rfl, (k'.trans kk).over hlH _, P14.put npl _, F'.kpT kT, ?_, fun z hz => ?_, ?_, ?_, fun e he => ?_, fun m h1 h2 => ?_⟩
      · rw [upd_same]
        simp [refs]
      · rcases List.mem_append.mp hz with hz | hz
        · exact (hent z hz).kp kT
        · rw [List.mem_singleton.mp hz]
          exact E14.kp kTl
      · rw [List.length_append, hlen]
        rfl
      · rw [ee]
        refine hok.snoc (fun e' he' => ?_) ?_ ?_ ⟨⟨a12, b12⟩, ⟨a13, b13⟩, ⟨by show (0 : Int) ≤ 0; decide, by show (0 : Int) ≤ 3; decide⟩, .inl ⟨rfl, hall o (by omega) (by omega)⟩, by show o < 2 + (i : Int); omega⟩
        · have := hlt e' he'
          show e'.num < 2 + (i : Int)
          omega
        · show 0 ≤ 2 + (i : Int)
          omega
        · show 2 + (i : Int) ≤ 30
          omega
      · rw [ee] at he
        rcases List.mem_append.mp he with he | he
        · have := hlt e he
          omega
        · rw [List.mem_singleton.mp he]
          show 2 + (i : Int) < ((i + 1 : Nat) : Int) + 2
          omega
      · rw [ee, an_snoc]
        by_cases hm : m = 2 + (i : Int)
        · subst hm
          exact List.mem_append_right _ List.mem_cons_self
        · exact List.mem_append_left _ (hall m h1 (by omega))
    · rintro σ H' ⟨y3, y4, zs, rfl, k', P', F', el', hent, hlen, hok, hlt, hall⟩
      refine ⟨_, rfl, _, rfl, _, rfl, p, l, refs zs, rfl, P', .inl (SqL.of el'), by rw [List.length_map]; omega, fun l2 ys H6' k6' P6' nl2 el2 hpm => ?_⟩
      refine ⟨l2, ys, rfl, .inl ⟨SqL.of el2, fun t ht => ?_⟩⟩
      have k7' : Kp p H6' (upd H6' t (.tup ys)) := Kp.new ht _
      have P7' := P6'.new ht (.tup ys)
      refine ⟨(by show 3 ≤ sizeLine; decide), fun b hb => ?_⟩
      have k8' : Kp p (upd H6' t (.tup ys)) (upd (upd H6' t (.tup ys)) b (.tup [.ref fk, .int 0, .ref t])) := Kp.new hb _
      obtain ⟨zs', hy, hz⟩ := perm_pairs (fun z : Addr × En => V.ref z.1) hpm zs rfl
      have kT : KpT H' (upd (upd H6' t (.tup ys)) b (.tup [.ref fk, .int 0, .ref t])) := (k6'.tup P').trans ((k7'.tup P6').trans (k8'.tup P7'))
      have hlen' : zs'.length = zs.length := hz.length_eq
      refine q b fk t n 0 zs' _ (k'.trans (k6'.trans (k7'.trans k8'))) (P7'.new hb _) ⟨upd_same, F'.kpT kT, hn2', hn6, by decide, by decide, ?_, fun z hz' => (hent z (hz.mem_iff.mp hz')).kp kT, hok.perm (hz.map _), by omega⟩
      refine k8'.tup P7' _ _ ?_
      rw [upd_same, hy]
end
end Deed

namespace Deed
open PySem PySem.Spec PyProof.Rows L2 LamX
/-- all but the pen and the tables is as it was -/
def XP (p : Addr) (H H' : Hp) : Prop := ∀ b o, b ≠ p → H b = some o → (∀ ps, o ≠ .tbl ps) → H' b = some o
theorem XP.refl (p : Addr) (H : Hp) : XP p H H := fun _ _ _ h _ => h
theorem XP.trans {p : Addr} {H H1 H2 : Hp} (a : XP p H H1) (b : XP p H1 H2) : XP p H H2 := fun c o n h t => b c o n (a c o n h t) t
theorem XP.ofN {p : Addr} {H H' : Hp} (e : ExtN H H') : XP p H H' := fun b o _ h t => e b o h t
theorem XP.ofK {p : Addr} {H H' : Hp} (k : Kp p H H') : XP p H H' := fun b o n h _ => k b o n h
theorem XP.ofS {p : Addr} {H H' : Hp} (s : Same H H') : XP p H H' := fun b o _ h _ => s b o h
theorem XP.tup {p : Addr} {H H' : Hp} (x : XP p H H') (P : PenAt H p) : KpT H H' := fun b xs e => x _ _ (P.ne e fun _ z => by cases z) e fun ps z => by cases z
theorem XP.toN {p : Addr} {H0 H H' : Hp} (e : ExtN H0 H) (n : H0 p = none) (x : XP p H H') : ExtN H0 H' := fun b o h t => x b o (ne_of_none h n) (e b o h t) t
theorem EdAt.xp {p : Addr} {H H' : Hp} {ed : Addr} {n : Nat} {zs : List (Addr × En)} (h : EdAt H ed n zs) (x : XP p H H') (P : PenAt H p) : EdAt H' ed n zs :=
  ⟨x _ _ (P.ne h.at_ fun _ z => by cases z) h.at_ fun ps z => (by cases z), fun z hz => (h.ent z hz).kp (x.tup P), h.ok, h.len⟩
theorem EdAt.extN {H H' : Hp} {ed : Addr} {n : Nat} {zs : List (Addr × En)} (h : EdAt H ed n zs) (e : ExtN H H') : EdAt H' ed n zs :=
  ⟨e _ _ h.at_ fun ps z => (by cases z), fun z hz => (h.ent z hz).kp (ExtN.tup e), h.ok, h.len⟩
section
variable (K : PySem.W.Frag) (mg : Str → Option Value)
abbrev CellD := Df K mg "_law_cell_at" sCell ["_law_script", "_law_k"]
abbrev PenD := Df K mg "_law_pen" sPen ["_law_cell"]
abbrev BookD := Df K mg "_law_book" sBook ["_law_pen_here", "_law_most"]
end
/-- how many cells are looked at -/
theorem turns3 (m : Nat) : ∃ tn : Int, (if (if 3 < (m : Int) then 3 else (m : Int)) > 1 then (if 3 < (m : Int) then 3 else (m : Int)) else 1) = tn ∧ 0 ≤ tn ∧ tn ≤ 3 := ⟨_, rfl, by split <;> split <;> omega, by split <;> split <;> omega⟩
end Deed

namespace Deed
open PySem PySem.Spec PyProof.Rows L2 LamX
section
variable {P : Program} {w : World} {K : PySem.W.Frag} {mg : Str → Option Value} {base : Heap} {T : List (Addr × Str)}
abbrev sLaw : Stmt := topS 44
abbrev nLaw : List Str := ["_law_script", "_law_k", "_law_pen_here", "_law_book_here", "_law_entries_here", "_law_turn", "_law_d", "_law_known", "_law_number", "_law_found"]
theorem scLaw : FnScope nLaw ["_law_script"] (defScope sLaw) := ⟨rfl, rfl, rfl, by decide +kernel, rfl, by decide +kernel, by decide +kernel⟩
def spLaw (K : PySem.W.Frag) (T : List (Addr × Str)) : Sp := fun vs H Q _ => ∃ (a : Addr) (ns : List Int), vs = [.ref a] ∧ SqL K H a (ns.map V.int) ∧ ns.length ≤ 63 ∧ Tabs T H ∧ ∀ H', Q (.bl true) H'
structure All06 (P : Program) (w : World) (K : PySem.W.Frag) (mg : Str → Option Value) (base : Heap) (T : List (Addr × Str)) (fCe fPe fBo fUn fEn fDa fFc fIn : Addr) (dCe dPe dBo dUn dEn dDa dFc dIn : FuncData) : Prop where
  B : Bi mg
  mi : mg "isinstance" = none
  mb : mg "bool" = none
  ce : CellD K mg fCe dCe
  pe : PenD K mg fPe dPe
  bo : BookD K mg fBo dBo
  un : Df K mg "_law_undoing" sUndo ["_law_pen_here"] fUn dUn
  en : Df K mg "_law_entries" sEnts ["_law_book_here"] fEn dEn
  da : Df K mg "_law_days" sDays pDays fDa dDa
  fc : ForceD K mg fFc dFc
  gIn : mg "in_force" = some (.ref fIn)
  kIn : PySem.W.keepIn K (.ref fIn) = true
  bIn : Binds K dIn pInForce []
  gce : FnOk P w K mg base CX0 32 fCe dCe ["_law_script", "_law_k"] (spCell K)
  gpe : FnOk P w K mg base CX0 32 fPe dPe ["_law_cell"] spPen
  gbo : FnOk P w K mg base CX0 32 fBo dBo ["_law_pen_here", "_law_most"] spBook
  gun : FnOk P w K mg base CX0 32 fUn dUn ["_law_pen_here"] spUndo
  gen : FnOk P w K mg base CX0 32 fEn dEn ["_law_book_here"] spEnts
  gda : FnOk P w K mg base CX0 32 fDa dDa pDays spDays
  gfc : FnOk P w K mg base CX0 32 fFc dFc pForce (spForce 31)
  gin : FnOk P w K mg base CX0 32 fIn dIn pInForce (spInForce T)
theorem ok_law {f fCe fPe fBo fUn fEn fDa fFc fIn : Addr} {fd dCe dPe dBo dUn dEn dDa dFc dIn : FuncData} (F : Fun K "law" "law" sLaw f fd) (A6 : All06 P w K mg base T fCe fPe fBo fUn fEn fDa fFc fIn dCe dPe dBo dUn dEn dDa dFc dIn) : FnOk P w K mg base CX0 33 f fd ["_law_script"] (spLaw K T) := by
  obtain ⟨B, mi, mb, CE, PE', BO, UN, EN, DA, FC, gIn, kIn, bIn, GCE, GPE, GBO, GUN, GEN, GDA, GFC, GIN⟩ := A6
  refine F.ok scLaw (fun vs H Q E h => ?_) (fun cdv A outer s H vs Q E hr h => ?_)
  · obtain ⟨a, ns, rfl, _⟩ := h
    rfl
  · obtain ⟨a, ns, rfl, hS, h63, hT, q⟩ := h
    have nd := scLaw.nd
    have hu := hu_of hr
    refine ⟨_, pss_cons (ps_for PassesOwn.never rfl (pi_range1 rfl B.range (pa_cons (pe_callB (call_max2 rfl) (by rfl) B.max (by decide +kernel) (pa_cons pe_int (pa_cons (pe_callB (call_min2 rfl) (by rfl) B.min (by decide +kernel) (pa_cons (pe_callB call_len_seq (by rfl) B.len PySem.boot_len (pa_cons (pv 0) pa_nil)) (pa_cons pe_int pa_nil))) pa_nil))) pa_nil)) (pg_name (i := 1) nd rfl (.inl rfl))
        (pss_cons (ps_set (i := 2) nd rfl (.inl rfl) (pe_call GPE hr (by rfl) PE'.g PE'.F.kp PE'.b .nil pass0 (pa_cons (pe_call GCE hr (by rfl) CE.g CE.F.kp CE.b .nil pass0 (pa_cons (pv 0) (pa_cons (pv 1) pa_nil))) pa_nil)))
        (pss_one (ps_for PassesOwn.never rfl (pi_tup (pe_tup (pa_cons (pe_call GBO hr (by rfl) BO.g BO.F.kp BO.b .nil pass0 (pa_cons (pv 2) (pa_cons pe_int pa_nil))) (pa_cons (pe_call GUN hr (by rfl) UN.g UN.F.kp UN.b .nil pass0 (pa_cons (pv 2) pa_nil)) pa_nil)))) (pg_name (i := 3) nd rfl (.inl rfl))
          (pss_cons (ps_set (i := 4) nd rfl (.inl rfl) (pe_call GEN hr (by rfl) EN.g EN.F.kp EN.b .nil pass0 (pa_cons (pv 3) pa_nil)))
          (pss_one (ps_for PassesOwn.never rfl (pi_range1 rfl B.range (pa_cons pe_int pa_nil)) (pg_name (i := 5) nd rfl (.inl rfl))
            (pss_cons (ps_asg (pe_call GDA hr (by rfl) DA.g DA.F.kp DA.b .nil pass0 (pa_cons (pv 2) (pa_cons (pv 3) pa_nil))) (pg_tup (by rfl) (pgs_cons (pg_name (i := 6) nd rfl (.inl rfl)) (pgs_cons (pg_name (i := 7) nd rfl (.inl rfl)) pgs_nil))))
            (pss_one (ps_for PassesOwn.never rfl (pi_list (pe_callB (call_sortedDI rfl) (by rfl) B.sorted (by decide +kernel) (pa_cons (pv 4) pa_nil))) (pg_name (i := 8) nd rfl (.inl rfl))
              (pss_one (ps_if (pt_cmpR op_ne (pe_ix ix_tup (pe_dget hu (pv 4) (pv 8) (fun _ _ => rfl)) pe_int (fun _ _ => rfl)) pe_str (nomark _))
                (pss_cons (ps_set (i := 9) nd rfl (.inl rfl) (pe_call GIN hr (by rfl) gIn kIn bIn .nil pass0 (pa_cons (pv 3) (pa_cons (pv 8) (pa_cons (pv 6) (pa_cons (pv 7) pa_nil))))))
                (pss_one (ps_if (PW.pt (pw_or (pt_not (pt_val (pe_callB call_isi (by rfl) mi (by decide +kernel) (pa_cons (pv 9) (pa_cons (pe_bltn (v := .ty "bool") (by rfl) mb (by decide +kernel) rfl) pa_nil))))) (pw_or1 (pt_cmpR op_ne (pv 9) (pe_call GFC hr (by rfl) FC.g FC.F.kp FC.b .nil pass0 (pa_cons (pv 4) (pa_cons (pv 8) (pa_cons (pv 6) (pa_cons (pv 7) pa_nil))))) (nomark _))))) (pss_one (ps_ret pe_bl)) pss_nil))) pss_nil))))))))))))
      (pss_one (ps_ret pe_bl)), ?_⟩
    have hl : (ns.map V.int).length = ns.length := List.length_map _
    refine ⟨_, rfl, a, _, rfl, .inl hS, _, _, rfl, _, _, rfl, ?_⟩
    rw [hl]
    obtain ⟨tn, etn, ht0, ht3⟩ := turns3 ns.length
    rw [etn]
    refine ⟨_, rfl, by omega, by omega, ?_⟩
    refine for_range (lo := 0) (n := tn.toNat) (fun i σ H' => ∃ r, σ = some (.ref a) :: r ∧ r.length = 9 ∧ ExtN H H' ∧ Tabs T H') ⟨_, rfl, rfl, ExtN.refl H, hT⟩ ?_ ?_
    · rintro i σ H' hi ⟨r, rfl, hrl, eN, T'⟩
      obtain ⟨y1, y2, y3, y4, y5, y6, y7, y8, y9, rfl⟩ : ∃ y1 y2 y3 y4 y5 y6 y7 y8 y9, r = [y1, y2, y3, y4, y5, y6, y7, y8, y9] := by
        match r, hrl with
        | [a, b, c, d, e, f, g, h, i], _ => exact ⟨a, b, c, d, e, f, g, h, i, rfl⟩
      refine ⟨_, rfl, _, rfl, a, ns, _, rfl, ExtN.sqL eN hS, by omega, fun cv => ?_⟩
      refine ⟨cv, rfl, fun p H1 s1 np P1 => ?_⟩
      have T1 : Tabs T H1 := T'.ext s1
      -- the two books
      refine ⟨_, rfl, p, 16, rfl, P1, by decide, by decide, fun b1 fk1 t1 n1 age1 zs1 H2 k2 P2 hB1 _ => ?_⟩
      refine ⟨_, rfl, p, rfl, P2, fun b2 fk2 t2 n2 age2 zs2 H3 k3 P3 hB2 => ?_⟩
      refine ⟨(by show 2 ≤ sizeLine; decide), fun tt ntt => ?_⟩
      have k4 : Kp p H3 (upd H3 tt (.tup [.ref b1, .ref b2])) := Kp.new ntt _
      have P4 := P3.new ntt (.tup [.ref b1, .ref b2])
      have ett : (upd H3 tt (.tup [.ref b1, .ref b2])) tt = some (.tup [.ref b1, .ref b2]) := upd_same
      generalize (upd H3 tt (.tup [.ref b1, .ref b2])) = H4 at k4 P4 ett
      have hB1' : BookAt H4 b1 fk1 t1 n1 age1 zs1 := (hB1.kp (k3.tup P2)).kp (k4.tup P3)
      have hB2' : BookAt H4 b2 fk2 t2 n2 age2 zs2 := hB2.kp (k4.tup P3)
      have T4 : Tabs T H4 := Tabs.kp (Tabs.kp (Tabs.kp T1 k2 P1) k3 P2) k4 P3
      have e4 : ExtN H' H4 := ExtN.kp (ExtN.kp (ExtN.kp (ExtN.of s1) np k2) np k3) np k4
      refine ⟨tt, rfl, ⟨_, SqT.of ett⟩, ?_⟩
      refine for_tup (K := K) (a := tt) (xs := [.ref b1, .ref b2]) (fun j σ H5 => ∃ y3 y4 y5 y6 y7 y8 y9, σ = [some (.ref a), some (.int (0 + (i : Int))), some (.ref p), y3, y4, y5, y6, y7, y8, y9] ∧ XP p H4 H5 ∧ PenAt H5 p ∧ Tabs T H5) ⟨y3, y4, y5, y6, y7, y8, y9, rfl, XP.refl _ _, P4, T4⟩ (fun j σ H5 _ h => ?_) ?_ ?_
      · obtain ⟨_, _, _, _, _, _, _, _, x5, _⟩ := h
        exact SqT.of (x5.tup P4 _ _ ett)
      · rintro j x σ H5 hx ⟨z3, z4, z5, z6, z7, z8, z9, rfl, x5, P5, T5⟩
        obtain ⟨b, fk, t, n, age, zs, rfl, hB⟩ : ∃ b fk t n age zs, x = .ref b ∧ BookAt H4 b fk t n age zs := by
          have hm : x ∈ [V.ref b1, V.ref b2] := List.mem_of_getElem? hx
          rcases List.mem_cons.mp hm with e | hm
          · exact ⟨b1, fk1, t1, n1, age1, zs1, e, hB1'⟩
          · exact ⟨b2, fk2, t2, n2, age2, zs2, List.mem_singleton.mp hm, hB2'⟩
        have hB5 := hB.kp (x5.tup P4)
        refine ⟨_, rfl, b, fk, t, n, age, zs, rfl, hB5, fun ed H6 s6 ned hE6 => ?_⟩
        have P6 : PenAt H6 p := ExtN.pen (.of s6) P5
        have T6 : Tabs T H6 := T5.ext s6
        have hB6 := hB5.kp (Same.tup s6)
        have x6 : XP p H4 H6 := x5.trans (XP.ofS s6)
        refine ⟨6, rfl, by decide, by decide, ?_⟩
        refine for_range (lo := 0) (n := (6 : Int).toNat) (fun j σ H7 => ∃ y5 y6 y7 y8 y9, σ = [some (.ref a), some (.int (0 + (i : Int))), some (.ref p), some (.ref b), some (.ref ed), y5, y6, y7, y8, y9] ∧ XP p H6 H7 ∧ PenAt H7 p ∧ Tabs T H7) ⟨z5, z6, z7, z8, z9, rfl, XP.refl _ _, P6, T6⟩ ?_ ?_
        · rintro j2 σ H7 hj2 ⟨w5, w6, w7, w8, w9, rfl, x7, P7, T7⟩
          have hB7 := hB6.kp (x7.tup P6)
          refine ⟨_, rfl, _, rfl, p, b, fk, t, n, age, zs, rfl, P7, hB7, fun ta d kk H8 k8 P8 eta hd hk => ?_⟩
          refine ⟨ta, [.int d, .int kk], rfl, SqT.of eta, rfl, .int d, [.int kk], rfl, .int kk, [], rfl, rfl, ?_⟩
          have x8 : XP p H6 H8 := x7.trans (XP.ofK k8)
          have T8 : Tabs T H8 := Tabs.kp T7 k8 P7
          have hB8 := hB6.kp (x8.tup P6)
          have hE8 := hE6.xp x8 P6
          refine ⟨_, rfl, ed, dks zs, (ens zs).map (·.num), rfl, .inl hE8.at_, by simp [dks, ens], by rw [List.length_map, List.length_map]; have := hE8.len; omega, fun ys sl pm up nsl => ?_⟩
          have e9 : ExtN H8 (upd H8 sl (.lst (ys.map V.int))) := ExtN.new nsl _
          have T9 : Tabs T (upd H8 sl (.lst (ys.map V.int))) := Tabs.new T8 nsl _
          have esl : (upd H8 sl (.lst (ys.map V.int))) sl = some (.lst (ys.map V.int)) := upd_same
          generalize (upd H8 sl (.lst (ys.map V.int))) = H9 at e9 T9 esl
          have hB9 := hB8.kp (ExtN.tup e9)
          have hE9 := hE8.extN e9
          refine ⟨sl, rfl, ⟨_, SqL.of esl⟩, ?_⟩
          refine for_list (K := K) (a := sl) (xs := ys.map V.int) (fun j σ H10 => ∃ y8 y9, σ = [some (.ref a), some (.int (0 + (i : Int))), some (.ref p), some (.ref b), some (.ref ed), some (.int (0 + (j2 : Int))), some (.int d), some (.int kk), y8, y9] ∧ ExtN H9 H10 ∧ Tabs T H10) ⟨w8, w9, rfl, ExtN.refl _, T9⟩ (fun j σ H10 _ h => ?_) ?_ ?_
          · obtain ⟨_, _, _, e10, _⟩ := h
            exact SqL.of (e10 _ _ esl fun ps z => by cases z)
          · rintro j3 x σ H10 hx ⟨v8, v9, rfl, e10, T10⟩
            rw [List.getElem?_map] at hx
            cases hn : ys[j3]? with
            | none => rw [hn] at hx; cases hx
            | some m =>
              rw [hn] at hx
              injection hx with hx
              subst hx
              obtain ⟨e, he, rfl⟩ := List.mem_map.mp (pm.mem_iff.mp (List.mem_of_getElem? hn))
              obtain ⟨z, hz, rfl⟩ := List.mem_map.mp he
              have hB10 := hB9.kp (ExtN.tup e10)
              have hE10 := hE9.extN e10
              obtain ⟨xs, ex, _, _, _, _, g4⟩ := (hE10.ent z hz).tup
              have wd := (hE10.ok.ok z.2 he).word
              refine ⟨_, rfl, _, rfl, ed, _, rfl, hE10.get hz, z.1, xs, 4, _, rfl, rfl, SqT.of ex, g4, rfl, _, rfl, ?_⟩
              refine ite2 (fun c => ?_) (fun c => ?_)
              · have hdd : z.2.isDeed = false := by
                  cases hh : z.2.isDeed with
                  | false => rfl
                  | true =>
                    have c' : (!decide (V.str z.2.word = V.str "deed")) = true := c
                    rw [wd.mpr hh] at c'
                    simp at c'
                have rg := hE10.ok.rng z.2 he
                refine ⟨_, rfl, _, rfl, _, rfl, _, rfl, b, fk, t, n, age, zs, z.2, d, kk, rfl, hB10, T10, he, hdd, hd, hk, fun H11 e11 T11 => ?_⟩
                refine ⟨_, rfl, _, _, _, _, true, rfl, .ty "bool", .base (.bl _), kit_ty (by decide +kernel), _, rfl, ?_⟩
                refine iteF ?_
                refine ⟨_, rfl, _, rfl, _, rfl, _, rfl, _, rfl, ed, z.2, d, kk, n, zs, rfl, hE10.extN e11, he, by omega, fun H12 s12 => ?_⟩
                refine ⟨rfl, _, rfl, ?_⟩
                rw [decide_eq_true rfl]
                refine iteF ?_
                exact ⟨_, _, rfl, e10.trans (e11.trans (.of s12)), T11.ext s12⟩
              · exact ⟨_, _, rfl, e10, T10⟩
          · rintro σ H10 ⟨v8, v9, rfl, e10, T10⟩
            exact ⟨_, _, _, _, _, rfl, x8.trans (XP.ofN (e9.trans e10)), ExtN.pen (e9.trans e10) P8, T10⟩
        · rintro σ H7 ⟨w5, w6, w7, w8, w9, rfl, x7, P7, T7⟩
          exact ⟨_, _, _, _, _, _, _, rfl, x6.trans x7, P7, T7⟩
      · rintro σ H5 ⟨z3, z4, z5, z6, z7, z8, z9, rfl, x5, P5, T5⟩
        exact ⟨_, rfl, rfl, eN.trans (XP.toN e4 np x5), T5⟩
    · rintro σ H' _
      exact q H'
end
end Deed

namespace Deed
open PySem PySem.Spec PyProof.Rows L2 LamX
/-! ### the end: the facts by names -/
def mkD (x : Str) (st : Stmt) : He.DefD := ⟨(x, none), x, x, defArgs st, defBody st, defScope st, [], []⟩
def mkDd (x : Str) (st : Stmt) (dfl : List He.Dv) : He.DefD := ⟨(x, none), x, x, defArgs st, defBody st, defScope st, dfl, []⟩
def fnAll : List He.DefD := [mkD "_law_cell_at" sCell, mkD "_law_pen" sPen, mkD "_law_draw" sDraw, mkD "_law_day" sDay, mkD "_law_folk" sFolk, mkD "_law_few" sFew, mkD "_law_deed" sDeed, mkD "_law_entry" sEntry, mkD "_law_mixed" sMixed, mkD "_law_book" sBook, mkD "entries_rising" sRising, mkD "act_entries" sActE, mkD "acts_of" sActsOf, mkD "is_whole" sWhole, mkD "is_within" sWithin, mkD "is_day" sIsDay, mkD "check_day" sCheckDay, mkD "check_act" sCheckAct, mkD "open_acts" sOpenA, mkD "acts_on" sActsOn, mkD "acts_in_force" sForced, mkDd "in_force" sInForce [.int 9999], mkD "_law_open" sOpen, mkD "_law_of" sOf, mkD "_law_force" sForce, mkD "_law_entries" sEnts, mkD "_law_days" sDays, mkD "_law_undoing" sUndo, mkD "law" sLaw]
def faAll : List He.Fa := [.glo "_law_cell_at", .glo "_law_pen", .glo "_law_draw", .glo "_law_day", .glo "_law_folk", .glo "_law_few", .glo "_law_deed", .glo "_law_entry", .glo "_law_mixed", .glo "_law_book", .glo "entries_rising", .glo "act_entries", .glo "acts_of", .glo "is_whole", .glo "is_within", .glo "is_day", .glo "check_day", .glo "check_act", .glo "open_acts", .glo "acts_on", .glo "acts_in_force", .glo "in_force", .glo "_law_open", .glo "_law_of", .glo "_law_force", .glo "_law_entries", .glo "_law_days", .glo "_law_undoing", .glo "law", .free "range", .free "min", .free "max", .free "tuple", .free "list", .free "len", .free "sorted", .free "int", .free "isinstance", .free "bool", .free "dict", .int "NUMBER" 0, .int "WORD" 4, .int "DAY" 1, .int "WRITTEN" 2, .int "OF" 5, .int "LAST_DAY" 9999]
def tfAll : List He.Defn := [("entries_rising", none)]
abbrev tsAll : List He.Tab := []
def exAll (K : PySem.W.Frag) : Bool := true
abbrev rowR : PySem.W.OpenRow := PySem.W.OpenLaw.row PySem.Challenge.rw_deedsheaf_k06_acts_in_force
abbrev hk : PySem.W.Hook := He.hookX 4 faAll fnAll tsAll tfAll exAll
def ob (s : PySem.W.SharedT) : He.AlX := He.obsX 4 faAll fnAll tsAll tfAll exAll (HandSHeadRun.getT s)
theorem ob_eq (s : PySem.W.SharedT) : ob s = hk.obs s.abs := He.obsX_eq (HandSHeadRun.getT_eq s)
def looseAll : List Str := (["NUMBER", "DAY", "WRITTEN", "WORD", "OF", "LAST_DAY", "is_whole", "is_within", "is_day", "entries_rising", "act_entries", "acts_of"] : List Str) ++ (["SheafError", "NoDay", "NoAct", "check_day", "check_act", "open_acts", "acts_on", "acts_in_force", "in_force", "_law_cell_at", "_law_pen", "_law_draw"] : List Str) ++ (["_law_day", "_law_folk", "_law_few", "_law_deed", "_law_entry", "_law_mixed", "_law_book", "_law_open", "_law_of", "_law_force", "_law_any", "_law_words"] : List Str) ++ (["_law_entries", "_law_days", "_law_undoing"] : List Str)
theorem run (w : World) : HandSHeadRun.RunEq rowR (PySem.W.view rowR.prog [44]) hk ob 9000 looseAll w := by
  intro os
  kernel_rfl
theorem funOf {K : PySem.W.Frag} {x : Str} {st : Stmt} {f : Addr} {fd : FuncData} (F : FunD K x x (defArgs st) (defBody st) (defScope st) [] [] f fd) : Fun K x x st f fd := by
  obtain ⟨oc, od, dV, kV, doc, pm, an, cdv, ct, osl, e, lk, hcd, hD, hK⟩ := F.ex
  rcases hD with ⟨_, hD⟩ | ⟨hD, _⟩
  · subst hD
    exact ⟨⟨oc, od, kV, doc, pm, an, cdv, ct, osl, e, lk, hcd⟩, F.kp⟩
  · exact absurd rfl hD
theorem codeAt {K : PySem.W.Frag} {x : Str} {st : Stmt} {p : He.Defn} {fd : FuncData} (F : Fun K x x st (He.fAd K p) fd) : fd.code = .ref (He.cT K p).1 := by
  obtain ⟨oc, od, kV, doc, pm, an, cdv, ct, osl, e, lk, hcd⟩ := F.ex
  obtain ⟨c, ec⟩ := He.codeIn_ref hcd
  have e2 : fd.code = .ref c := by rw [e, ← ec]
  rw [show (He.cT K p).1 = c from He.codeOf_eq lk e2]
  exact e2
theorem facts {l : PySem.W.OpenLaw} {w : World} {K : PySem.W.Frag} {h : Heap} {mg : Str → Option Value} {f : Addr} (X : K.In h) (G : h.Ns mainGlobals mg) (hfa : mg ("law" : Str) = some (.ref f)) (c : He.SaysX faAll fnAll tsAll tfAll exAll w h K) : LawAtS l w K CX0 33 63 "_law_script" mg f h := by
  obtain ⟨d0, F0'⟩ := c.t.d.def_ 0 (d := mkD "_law_cell_at" sCell) rfl
  have g0 := He.glo_ok X G (c.t.d.fact 0 (f := .glo "_law_cell_at") rfl)
  have F0 : Fun K "_law_cell_at" "_law_cell_at" sCell (He.fAd K ("_law_cell_at", none)) d0 := funOf F0'
  have D0 : Df K mg "_law_cell_at" sCell ["_law_script", "_law_k"] _ d0 := ⟨F0, F0.binds (ps := ["_law_script", "_law_k"]) (fun _ _ _ _ _ _ us hl => match us, hl with | [_, _], _ => rfl), g0⟩
  obtain ⟨d1, F1'⟩ := c.t.d.def_ 1 (d := mkD "_law_pen" sPen) rfl
  have g1 := He.glo_ok X G (c.t.d.fact 1 (f := .glo "_law_pen") rfl)
  have F1 : Fun K "_law_pen" "_law_pen" sPen (He.fAd K ("_law_pen", none)) d1 := funOf F1'
  have D1 : Df K mg "_law_pen" sPen ["_law_cell"] _ d1 := ⟨F1, F1.binds (ps := ["_law_cell"]) (fun _ _ _ _ _ _ us hl => match us, hl with | [_], _ => rfl), g1⟩
  obtain ⟨d2, F2'⟩ := c.t.d.def_ 2 (d := mkD "_law_draw" sDraw) rfl
  have g2 := He.glo_ok X G (c.t.d.fact 2 (f := .glo "_law_draw") rfl)
  have F2 : Fun K "_law_draw" "_law_draw" sDraw (He.fAd K ("_law_draw", none)) d2 := funOf F2'
  have D2 : Df K mg "_law_draw" sDraw ["_law_pen_here", "_law_bound"] _ d2 := ⟨F2, F2.binds (ps := ["_law_pen_here", "_law_bound"]) (fun _ _ _ _ _ _ us hl => match us, hl with | [_, _], _ => rfl), g2⟩
  obtain ⟨d3, F3'⟩ := c.t.d.def_ 3 (d := mkD "_law_day" sDay) rfl
  have g3 := He.glo_ok X G (c.t.d.fact 3 (f := .glo "_law_day") rfl)
  have F3 : Fun K "_law_day" "_law_day" sDay (He.fAd K ("_law_day", none)) d3 := funOf F3'
  have D3 : Df K mg "_law_day" sDay ["_law_pen_here"] _ d3 := ⟨F3, F3.binds (ps := ["_law_pen_here"]) (fun _ _ _ _ _ _ us hl => match us, hl with | [_], _ => rfl), g3⟩
  obtain ⟨d4, F4'⟩ := c.t.d.def_ 4 (d := mkD "_law_folk" sFolk) rfl
  have g4 := He.glo_ok X G (c.t.d.fact 4 (f := .glo "_law_folk") rfl)
  have F4 : Fun K "_law_folk" "_law_folk" sFolk (He.fAd K ("_law_folk", none)) d4 := funOf F4'
  have D4 : Df K mg "_law_folk" sFolk ["_law_pen_here", "_law_least"] _ d4 := ⟨F4, F4.binds (ps := ["_law_pen_here", "_law_least"]) (fun _ _ _ _ _ _ us hl => match us, hl with | [_, _], _ => rfl), g4⟩
  obtain ⟨d5, F5'⟩ := c.t.d.def_ 5 (d := mkD "_law_few" sFew) rfl
  have g5 := He.glo_ok X G (c.t.d.fact 5 (f := .glo "_law_few") rfl)
  have F5 : Fun K "_law_few" "_law_few" sFew (He.fAd K ("_law_few", none)) d5 := funOf F5'
  have D5 : Df K mg "_law_few" sFew ["_law_pen_here", "_law_some", "_law_most"] _ d5 := ⟨F5, F5.binds (ps := ["_law_pen_here", "_law_some", "_law_most"]) (fun _ _ _ _ _ _ us hl => match us, hl with | [_, _, _], _ => rfl), g5⟩
  obtain ⟨d6, F6'⟩ := c.t.d.def_ 6 (d := mkD "_law_deed" sDeed) rfl
  have g6 := He.glo_ok X G (c.t.d.fact 6 (f := .glo "_law_deed") rfl)
  have F6 : Fun K "_law_deed" "_law_deed" sDeed (He.fAd K ("_law_deed", none)) d6 := funOf F6'
  have D6 : Df K mg "_law_deed" sDeed ["_law_pen_here", "_law_folk_here", "_law_deeds"] _ d6 := ⟨F6, F6.binds (ps := ["_law_pen_here", "_law_folk_here", "_law_deeds"]) (fun _ _ _ _ _ _ us hl => match us, hl with | [_, _, _], _ => rfl), g6⟩
  obtain ⟨d7, F7'⟩ := c.t.d.def_ 7 (d := mkD "_law_entry" sEntry) rfl
  have g7 := He.glo_ok X G (c.t.d.fact 7 (f := .glo "_law_entry") rfl)
  have F7 : Fun K "_law_entry" "_law_entry" sEntry (He.fAd K ("_law_entry", none)) d7 := funOf F7'
  have D7 : Df K mg "_law_entry" sEntry ["_law_pen_here", "_law_folk_here", "_law_number", "_law_deeds", "_law_acts"] _ d7 := ⟨F7, F7.binds (ps := ["_law_pen_here", "_law_folk_here", "_law_number", "_law_deeds", "_law_acts"]) (fun _ _ _ _ _ _ us hl => match us, hl with | [_, _, _, _, _], _ => rfl), g7⟩
  obtain ⟨d8, F8'⟩ := c.t.d.def_ 8 (d := mkD "_law_mixed" sMixed) rfl
  have g8 := He.glo_ok X G (c.t.d.fact 8 (f := .glo "_law_mixed") rfl)
  have F8 : Fun K "_law_mixed" "_law_mixed" sMixed (He.fAd K ("_law_mixed", none)) d8 := funOf F8'
  have D8 : Df K mg "_law_mixed" sMixed ["_law_pen_here", "_law_some"] _ d8 := ⟨F8, F8.binds (ps := ["_law_pen_here", "_law_some"]) (fun _ _ _ _ _ _ us hl => match us, hl with | [_, _], _ => rfl), g8⟩
  obtain ⟨d9, F9'⟩ := c.t.d.def_ 9 (d := mkD "_law_book" sBook) rfl
  have g9 := He.glo_ok X G (c.t.d.fact 9 (f := .glo "_law_book") rfl)
  have F9 : Fun K "_law_book" "_law_book" sBook (He.fAd K ("_law_book", none)) d9 := funOf F9'
  have D9 : Df K mg "_law_book" sBook ["_law_pen_here", "_law_most"] _ d9 := ⟨F9, F9.binds (ps := ["_law_pen_here", "_law_most"]) (fun _ _ _ _ _ _ us hl => match us, hl with | [_, _], _ => rfl), g9⟩
  obtain ⟨d10, F10'⟩ := c.t.d.def_ 10 (d := mkD "entries_rising" sRising) rfl
  have g10 := He.glo_ok X G (c.t.d.fact 10 (f := .glo "entries_rising") rfl)
  have F10 : Fun K "entries_rising" "entries_rising" sRising (He.fAd K ("entries_rising", none)) d10 := funOf F10'
  have D10 : Df K mg "entries_rising" sRising ["book"] _ d10 := ⟨F10, F10.binds (ps := ["book"]) (fun _ _ _ _ _ _ us hl => match us, hl with | [_], _ => rfl), g10⟩
  obtain ⟨d11, F11'⟩ := c.t.d.def_ 11 (d := mkD "act_entries" sActE) rfl
  have g11 := He.glo_ok X G (c.t.d.fact 11 (f := .glo "act_entries") rfl)
  have F11 : Fun K "act_entries" "act_entries" sActE (He.fAd K ("act_entries", none)) d11 := funOf F11'
  have D11 : Df K mg "act_entries" sActE ["book"] _ d11 := ⟨F11, F11.binds (ps := ["book"]) (fun _ _ _ _ _ _ us hl => match us, hl with | [_], _ => rfl), g11⟩
  obtain ⟨d12, F12'⟩ := c.t.d.def_ 12 (d := mkD "acts_of" sActsOf) rfl
  have g12 := He.glo_ok X G (c.t.d.fact 12 (f := .glo "acts_of") rfl)
  have F12 : Fun K "acts_of" "acts_of" sActsOf (He.fAd K ("acts_of", none)) d12 := funOf F12'
  have D12 : Df K mg "acts_of" sActsOf ["book"] _ d12 := ⟨F12, F12.binds (ps := ["book"]) (fun _ _ _ _ _ _ us hl => match us, hl with | [_], _ => rfl), g12⟩
  obtain ⟨d13, F13'⟩ := c.t.d.def_ 13 (d := mkD "is_whole" sWhole) rfl
  have g13 := He.glo_ok X G (c.t.d.fact 13 (f := .glo "is_whole") rfl)
  have F13 : Fun K "is_whole" "is_whole" sWhole (He.fAd K ("is_whole", none)) d13 := funOf F13'
  have D13 : Df K mg "is_whole" sWhole ["thing"] _ d13 := ⟨F13, F13.binds (ps := ["thing"]) (fun _ _ _ _ _ _ us hl => match us, hl with | [_], _ => rfl), g13⟩
  obtain ⟨d14, F14'⟩ := c.t.d.def_ 14 (d := mkD "is_within" sWithin) rfl
  have g14 := He.glo_ok X G (c.t.d.fact 14 (f := .glo "is_within") rfl)
  have F14 : Fun K "is_within" "is_within" sWithin (He.fAd K ("is_within", none)) d14 := funOf F14'
  have D14 : Df K mg "is_within" sWithin ["thing", "low", "high"] _ d14 := ⟨F14, F14.binds (ps := ["thing", "low", "high"]) (fun _ _ _ _ _ _ us hl => match us, hl with | [_, _, _], _ => rfl), g14⟩
  obtain ⟨d15, F15'⟩ := c.t.d.def_ 15 (d := mkD "is_day" sIsDay) rfl
  have g15 := He.glo_ok X G (c.t.d.fact 15 (f := .glo "is_day") rfl)
  have F15 : Fun K "is_day" "is_day" sIsDay (He.fAd K ("is_day", none)) d15 := funOf F15'
  have D15 : Df K mg "is_day" sIsDay ["thing"] _ d15 := ⟨F15, F15.binds (ps := ["thing"]) (fun _ _ _ _ _ _ us hl => match us, hl with | [_], _ => rfl), g15⟩
  obtain ⟨d16, F16'⟩ := c.t.d.def_ 16 (d := mkD "check_day" sCheckDay) rfl
  have g16 := He.glo_ok X G (c.t.d.fact 16 (f := .glo "check_day") rfl)
  have F16 : Fun K "check_day" "check_day" sCheckDay (He.fAd K ("check_day", none)) d16 := funOf F16'
  have D16 : Df K mg "check_day" sCheckDay ["thing"] _ d16 := ⟨F16, F16.binds (ps := ["thing"]) (fun _ _ _ _ _ _ us hl => match us, hl with | [_], _ => rfl), g16⟩
  obtain ⟨d17, F17'⟩ := c.t.d.def_ 17 (d := mkD "check_act" sCheckAct) rfl
  have g17 := He.glo_ok X G (c.t.d.fact 17 (f := .glo "check_act") rfl)
  have F17 : Fun K "check_act" "check_act" sCheckAct (He.fAd K ("check_act", none)) d17 := funOf F17'
  have D17 : Df K mg "check_act" sCheckAct ["book", "thing"] _ d17 := ⟨F17, F17.binds (ps := ["book", "thing"]) (fun _ _ _ _ _ _ us hl => match us, hl with | [_, _], _ => rfl), g17⟩
  obtain ⟨d18, F18'⟩ := c.t.d.def_ 18 (d := mkD "open_acts" sOpenA) rfl
  have g18 := He.glo_ok X G (c.t.d.fact 18 (f := .glo "open_acts") rfl)
  have F18 : Fun K "open_acts" "open_acts" sOpenA (He.fAd K ("open_acts", none)) d18 := funOf F18'
  have D18 : Df K mg "open_acts" sOpenA ["book", "d", "k"] _ d18 := ⟨F18, F18.binds (ps := ["book", "d", "k"]) (fun _ _ _ _ _ _ us hl => match us, hl with | [_, _, _], _ => rfl), g18⟩
  obtain ⟨d19, F19'⟩ := c.t.d.def_ 19 (d := mkD "acts_on" sActsOn) rfl
  have g19 := He.glo_ok X G (c.t.d.fact 19 (f := .glo "acts_on") rfl)
  have F19 : Fun K "acts_on" "acts_on" sActsOn (He.fAd K ("acts_on", none)) d19 := funOf F19'
  have D19 : Df K mg "acts_on" sActsOn ["acts", "word", "number"] _ d19 := ⟨F19, F19.binds (ps := ["acts", "word", "number"]) (fun _ _ _ _ _ _ us hl => match us, hl with | [_, _, _], _ => rfl), g19⟩
  obtain ⟨d20, F20'⟩ := c.t.d.def_ 20 (d := mkD "acts_in_force" sForced) rfl
  have g20 := He.glo_ok X G (c.t.d.fact 20 (f := .glo "acts_in_force") rfl)
  have F20 : Fun K "acts_in_force" "acts_in_force" sForced (He.fAd K ("acts_in_force", none)) d20 := funOf F20'
  have D20 : Df K mg "acts_in_force" sForced ["acts"] _ d20 := ⟨F20, F20.binds (ps := ["acts"]) (fun _ _ _ _ _ _ us hl => match us, hl with | [_], _ => rfl), g20⟩
  obtain ⟨d21, F21'⟩ := c.t.d.def_ 21 (d := mkDd "in_force" sInForce [.int 9999]) rfl
  have g21 := He.glo_ok X G (c.t.d.fact 21 (f := .glo "in_force") rfl)
  have F21 : FunD K "in_force" "in_force" (defArgs sInForce) (defBody sInForce) (defScope sInForce) [V.int 9999] [] (He.fAd K ("in_force", none)) d21 := F21'
  obtain ⟨ds21, hv21, b21⟩ := FunD.binds1 (ps := ["book", "act", "d", "k"]) F21 4 1 (by decide) rfl (fun T kV doc pm an cdv ct us its h1 h2 => match us, its, h1, h2 with | [_, _, _, _], [_], _, _ => ⟨_, rfl, rfl⟩)
  cases hv21
  obtain ⟨d22, F22'⟩ := c.t.d.def_ 22 (d := mkD "_law_open" sOpen) rfl
  have g22 := He.glo_ok X G (c.t.d.fact 22 (f := .glo "_law_open") rfl)
  have F22 : Fun K "_law_open" "_law_open" sOpen (He.fAd K ("_law_open", none)) d22 := funOf F22'
  have D22 : Df K mg "_law_open" sOpen ["_law_entry_here", "_law_d", "_law_k"] _ d22 := ⟨F22, F22.binds (ps := ["_law_entry_here", "_law_d", "_law_k"]) (fun _ _ _ _ _ _ us hl => match us, hl with | [_, _, _], _ => rfl), g22⟩
  obtain ⟨d23, F23'⟩ := c.t.d.def_ 23 (d := mkD "_law_of" sOf) rfl
  have g23 := He.glo_ok X G (c.t.d.fact 23 (f := .glo "_law_of") rfl)
  have F23 : Fun K "_law_of" "_law_of" sOf (He.fAd K ("_law_of", none)) d23 := funOf F23'
  have D23 : Df K mg "_law_of" sOf ["_law_entries_here", "_law_number", "_law_words_here"] _ d23 := ⟨F23, F23.binds (ps := ["_law_entries_here", "_law_number", "_law_words_here"]) (fun _ _ _ _ _ _ us hl => match us, hl with | [_, _, _], _ => rfl), g23⟩
  obtain ⟨d24, F24'⟩ := c.t.d.def_ 24 (d := mkD "_law_force" sForce) rfl
  have g24 := He.glo_ok X G (c.t.d.fact 24 (f := .glo "_law_force") rfl)
  have F24 : Fun K "_law_force" "_law_force" sForce (He.fAd K ("_law_force", none)) d24 := funOf F24'
  have D24 : Df K mg "_law_force" sForce ["_law_entries_here", "_law_act", "_law_d", "_law_k"] _ d24 := ⟨F24, F24.binds (ps := ["_law_entries_here", "_law_act", "_law_d", "_law_k"]) (fun _ _ _ _ _ _ us hl => match us, hl with | [_, _, _, _], _ => rfl), g24⟩
  obtain ⟨d25, F25'⟩ := c.t.d.def_ 25 (d := mkD "_law_entries" sEnts) rfl
  have g25 := He.glo_ok X G (c.t.d.fact 25 (f := .glo "_law_entries") rfl)
  have F25 : Fun K "_law_entries" "_law_entries" sEnts (He.fAd K ("_law_entries", none)) d25 := funOf F25'
  have D25 : Df K mg "_law_entries" sEnts ["_law_book_here"] _ d25 := ⟨F25, F25.binds (ps := ["_law_book_here"]) (fun _ _ _ _ _ _ us hl => match us, hl with | [_], _ => rfl), g25⟩
  obtain ⟨d26, F26'⟩ := c.t.d.def_ 26 (d := mkD "_law_days" sDays) rfl
  have g26 := He.glo_ok X G (c.t.d.fact 26 (f := .glo "_law_days") rfl)
  have F26 : Fun K "_law_days" "_law_days" sDays (He.fAd K ("_law_days", none)) d26 := funOf F26'
  have D26 : Df K mg "_law_days" sDays ["_law_pen_here", "_law_book_here"] _ d26 := ⟨F26, F26.binds (ps := ["_law_pen_here", "_law_book_here"]) (fun _ _ _ _ _ _ us hl => match us, hl with | [_, _], _ => rfl), g26⟩
  obtain ⟨d27, F27'⟩ := c.t.d.def_ 27 (d := mkD "_law_undoing" sUndo) rfl
  have g27 := He.glo_ok X G (c.t.d.fact 27 (f := .glo "_law_undoing") rfl)
  have F27 : Fun K "_law_undoing" "_law_undoing" sUndo (He.fAd K ("_law_undoing", none)) d27 := funOf F27'
  have D27 : Df K mg "_law_undoing" sUndo ["_law_pen_here"] _ d27 := ⟨F27, F27.binds (ps := ["_law_pen_here"]) (fun _ _ _ _ _ _ us hl => match us, hl with | [_], _ => rfl), g27⟩
  obtain ⟨d28, F28'⟩ := c.t.d.def_ 28 (d := mkD "law" sLaw) rfl
  have g28 := He.glo_ok X G (c.t.d.fact 28 (f := .glo "law") rfl)
  have F28 : Fun K "law" "law" sLaw (He.fAd K ("law", none)) d28 := funOf F28'
  have m_range := He.free_ok X G (c.t.d.fact 29 (f := .free "range") rfl)
  have m_min := He.free_ok X G (c.t.d.fact 30 (f := .free "min") rfl)
  have m_max := He.free_ok X G (c.t.d.fact 31 (f := .free "max") rfl)
  have m_tuple := He.free_ok X G (c.t.d.fact 32 (f := .free "tuple") rfl)
  have m_list := He.free_ok X G (c.t.d.fact 33 (f := .free "list") rfl)
  have m_len := He.free_ok X G (c.t.d.fact 34 (f := .free "len") rfl)
  have m_sorted := He.free_ok X G (c.t.d.fact 35 (f := .free "sorted") rfl)
  have m_int := He.free_ok X G (c.t.d.fact 36 (f := .free "int") rfl)
  have m_isinstance := He.free_ok X G (c.t.d.fact 37 (f := .free "isinstance") rfl)
  have m_bool := He.free_ok X G (c.t.d.fact 38 (f := .free "bool") rfl)
  have m_dict := He.free_ok X G (c.t.d.fact 39 (f := .free "dict") rfl)
  have i_NUMBER : MgInt mg "NUMBER" 0 := He.int_ok X G (c.t.d.fact 40 (f := .int "NUMBER" 0) rfl)
  have i_WORD : MgInt mg "WORD" 4 := He.int_ok X G (c.t.d.fact 41 (f := .int "WORD" 4) rfl)
  have i_DAY : MgInt mg "DAY" 1 := He.int_ok X G (c.t.d.fact 42 (f := .int "DAY" 1) rfl)
  have i_WRITTEN : MgInt mg "WRITTEN" 2 := He.int_ok X G (c.t.d.fact 43 (f := .int "WRITTEN" 2) rfl)
  have i_OF : MgInt mg "OF" 5 := He.int_ok X G (c.t.d.fact 44 (f := .int "OF" 5) rfl)
  have i_LAST_DAY : MgInt mg "LAST_DAY" 9999 := He.int_ok X G (c.t.d.fact 45 (f := .int "LAST_DAY" 9999) rfl)
  have e := hfa.symm.trans g28
  cases e
  have b := FunD.bindsA (ps := ["_law_script"]) F28' fun _ _ _ _ _ _ us hl => match us, hl with | [_], _ => rfl
  have B : Bi mg := ⟨m_range, m_min, m_max, m_tuple, m_list, m_len, m_sorted, m_int⟩
  have t0 : (("entries_rising", none) : He.Defn) ∈ tfAll := List.mem_cons_self
  refine ⟨d28, tfAll.map (He.cT K), spLaw K [((He.cT K ("entries_rising", none)).2, qRis)], fun p hp => ?_, fun p hp => ?_, fun p hp => ?_, fun s v => b s [v] rfl, fun H a ns hl _ hH hS => ?_, fun base hK hG hTB => ?_⟩
  · obtain ⟨q, hq, rfl⟩ := List.mem_map.mp hp
    exact c.empty q hq
  · obtain ⟨q, hq, rfl⟩ := List.mem_map.mp hp
    exact c.out q hq
  · obtain ⟨q, hq, rfl⟩ := List.mem_map.mp hp
    exact PySem.W.codeHd_of_K X (c.hd q hq)
  · refine ⟨a, ns, rfl, hS, hl, fun p hp => ?_, fun _ => rfl⟩
    rw [List.mem_singleton.mp hp]
    exact TabS.nil (hH _ (List.mem_map.mpr ⟨_, t0, rfl⟩))
  · have tb0 := hTB _ (List.mem_map.mpr ⟨_, t0, rfl⟩)
    have R : RisD K mg base [((He.cT K ("entries_rising", none)).2, qRis)] _ d10 := ⟨D10, ⟨_, _, codeAt F10, tb0, List.mem_cons_self, fun p hp e => by rw [List.mem_singleton.mp hp]⟩, m_sorted, i_NUMBER⟩
    have GAE : ∀ k, FnOk l.prog w K mg base CX0 (k + 3) _ d11 ["book"] (spPick (fun e => !e.isDeed) _) := fun k => ok_actE (k := k) D11.F R i_WORD
    have GAO : FnOk l.prog w K mg base CX0 30 _ d12 ["book"] (spNums (fun e => !e.isDeed) _) := ok_ActsOf (k := 26) D12.F D11 (GAE 26) i_NUMBER
    have GCA : FnOk l.prog w K mg base CX0 31 _ d17 ["book", "thing"] (spCkNum (fun e => !e.isDeed) _) := ok_ckAct (k := 29) D17.F D13 m_isinstance m_int m_bool D12 GAO
    have GCD : FnOk l.prog w K mg base CX0 31 _ d16 ["thing"] spCkDay := ok_ckDay (k := 27) D16.F D15 D14 D13 m_isinstance m_int m_bool i_LAST_DAY
    have GOA : FnOk l.prog w K mg base CX0 31 _ d18 ["book", "d", "k"] (spOpenA _) := ok_openA (k := 27) D18.F D11 (GAE 27) i_WRITTEN i_DAY
    have GFO : FnOk l.prog w K mg base CX0 31 _ d20 ["acts"] spForced := ok_forced (k := 29) D20.F D19 i_WORD i_OF i_NUMBER
    exact ok_law F28 ⟨B, m_isinstance, m_bool, D0, D1, D9, D27, D25, D26, D24, g21, F21.kp, b21, ok_cell D0.F m_len, ok_pen D1.F m_int, ok_book (k := 27) D9.F D2 D5 D3 D6 D7 D4 D8 B, ok_undo (k := 29) D27.F D2 D3 D4 D8 B, ok_ents D25.F m_dict, ok_days (k := 30) D26.F D2 B, ok_force D24 D22 D23 m_sorted 31,
      ok_inForce (k := 31) F21 i_NUMBER D17 GCA D16 GCD D18 GOA D20 GFO⟩
end Deed
open PySem PySem.W PySem.Calls PyProof.Rows
theorem PySem.Challenge.cw_deedsheaf_k06_acts_in_force_holds : PySem.Challenge.rw_deedsheaf_k06_acts_in_force.Holds := by
  w_on; o_law
  refine HandSHeadRun.head_any (r := OpenLaw.row PySem.Challenge.rw_deedsheaf_k06_acts_in_force) (q := view (OpenLaw.row PySem.Challenge.rw_deedsheaf_k06_acts_in_force).prog [44]) (H := Deed.hk) (ob := Deed.ob) (M := 9000) (loose := Deed.looseAll) (d := HandSHeadRun.topDef (OpenLaw.row PySem.Challenge.rw_deedsheaf_k06_acts_in_force).prog 44) (kwd := []) Deed.ob_eq
    (by kernel_rfl) (fun s => by kernel_rfl) Deed.run (by kernel_rfl) (by kernel_rfl) (by kernel_rfl) (by rfl) (by first | assumption | decide +kernel) (by decide +kernel) ⟨rfl, rfl, rfl, rfl, rfl, by decide +kernel⟩ ?hw ?hc
  case hw => w_witness2
  case hc =>
    refine LamX.walk_ofTsE (l := PySem.Challenge.rw_deedsheaf_k06_acts_in_force) (n := 63) (k := 33) (x := "_law_script") (CX := fun _ => L2.CX0) rfl (by decide) (by kernel_rfl) ⟨rfl, by decide, by decide⟩ ?F (fun _ _ _ _ _ z => z)
    intro w mg fa h Y G hmg0
    obtain ⟨K, KX, c⟩ := Y
    have hmg : mg ("law" : PySem.Str) = some (.ref fa) := by
      have e : (HandSHeadRun.topDef (OpenLaw.row PySem.Challenge.rw_deedsheaf_k06_acts_in_force).prog 44).name = ("law" : PySem.Str) := by kernel_rfl
      rw [← e]
      exact hmg0
    exact ⟨K, KX, Deed.facts KX G hmg c⟩
