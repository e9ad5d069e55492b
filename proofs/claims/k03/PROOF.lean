import PyProof.Rows.All
import Wide.All
import OpenK.AllK
import Wide.FinOn
import KE.SortKeyHeap
import KE.KLam
import HandS.ForMost
import HandS.Flow
import HandS.Style
import HandS.SortInts
import HandS.SortKw
import HandS.TupAny
import HandS.Lambda
import HandS.EndTab
import HandS.Head2
import HandS.HeadEnd
import HandS.HeadHook4
import HandS.HeadWalk
import HandS.Walk
import HandS.IsInst
import HandS.Defaults
import HandS.More
import HandS.DictComp
import HandS.ListItems
import HandS.SetFor
import HandS.Strs
import HandS.Zip
import HandS.TupSets
import KE.SortData
import HandS.Conv
import HandS.WordsDict
import PySem.Challenge.RW_deedsheaf_k03_deeds_and_acts_listed
set_option Elab.async false
set_option linter.all false
set_option maxRecDepth 100000
set_option maxHeartbeats 0

namespace Deed
open PySem PySem.Spec PyProof.Rows L2
def topS (i : Nat) : Stmt := PySem.Challenge.pw_deedsheaf_k03_deeds_and_acts_listed.main.body.getD i (.Pass ⟨0, 0, 0, 0⟩)
/-! ### heaps: all but the pen at p is as it was -/
def Kp (p : Addr) (H H' : Hp) : Prop := ∀ b o, b ≠ p → H b = some o → H' b = some o
theorem Kp.refl (p : Addr) (H : Hp) : Kp p H H := fun _ _ _ h => h
theorem Kp.trans {p : Addr} {H H1 H2 : Hp} (a : Kp p H H1) (b : Kp p H1 H2) : Kp p H H2 := fun c o n h => b c o n (a c o n h)
theorem Kp.new {p q : Addr} {H : Hp} (n : H q = none) (o : HO) : Kp p H (upd H q o) := fun b u _ e => by
  rw [upd_ne (ne_of_none e n)]
  exact e
theorem Kp.put {p : Addr} {H : Hp} (o : HO) : Kp p H (upd H p o) := fun b u n e => by
  rw [upd_ne n]
  exact e
theorem Kp.same {p : Addr} {H H' : Hp} (h : Same H H') : Kp p H H' := fun b o _ e => h b o e
/-- the pen: four whole numbers, the last one a rest -/
def PenAt (H : Hp) (p : Addr) : Prop := ∃ a f c e : Int, H p = some (.lst [.int a, .int f, .int c, .int e]) ∧ 0 ≤ e ∧ e < 1000000007
theorem PenAt.new {p q : Addr} {H : Hp} (h : PenAt H p) (n : H q = none) (o : HO) : PenAt (upd H q o) p := by
  obtain ⟨a, f, c, e, h1, h2⟩ := h
  refine ⟨a, f, c, e, ?_, h2⟩
  rw [upd_ne (ne_of_none h1 n)]
  exact h1
theorem PenAt.ne {p q : Addr} {H : Hp} {o : HO} (h : PenAt H p) (e : H q = some o) (no : ∀ xs, o ≠ .lst xs) : q ≠ p := fun z => by
  obtain ⟨a, f, c, e', h1, _⟩ := h
  rw [z, h1] at e
  exact no _ (Option.some.inj e).symm
theorem PenAt.free {p q : Addr} {H : Hp} (h : PenAt H p) (n : H q = none) : q ≠ p := fun z => by
  obtain ⟨a, f, c, e', h1, _⟩ := h
  rw [z, h1] at n
  cases n
section
variable {P : Program} {w : World} {K : PySem.W.Frag} {mg : Str → Option Value} {base : Heap}
/-! ### the script's cell -/
abbrev sCell : Stmt := topS 9
theorem scCell : FnScope ["_law_script", "_law_k"] ["_law_script", "_law_k"] (defScope sCell) := ⟨rfl, rfl, rfl, by decide +kernel, rfl, by decide +kernel, by decide +kernel⟩
def spCell (K : PySem.W.Frag) : Sp := fun vs H Q _ => ∃ (a : Addr) (ns : List Int) (k : Int), vs = [.ref a, .int k] ∧ SqL K H a (ns.map V.int) ∧ 0 ≤ k ∧ ∀ v : Int, Q (.int v) H
theorem ok_cell {f : Addr} {fd : FuncData} {k : Nat} (F : Fun K "_law_cell_at" "_law_cell_at" sCell f fd) (ml : mg "len" = none) : FnOk P w K mg base CX0 (k + 1) f fd ["_law_script", "_law_k"] (spCell K) := by
  refine F.ok scCell (fun vs H Q E h => ?_) (fun cdv A outer s H vs Q E hr h => ?_)
  · obtain ⟨a, ns, k, rfl, _⟩ := h
    rfl
  · obtain ⟨a, ns, k, rfl, hS, h0, q⟩ := h
    refine ⟨_, pss_cons (ps_if (pt_cmpR op_lt (pv 1) (pe_callB call_len_seq (by rfl) ml PySem.boot_len (pa_cons (pv 0) pa_nil)) (nomark _)) (pss_one (ps_ret (pe_ix ix_list (pv 0) (pv 1) (fun _ _ => rfl)))) pss_nil)
      (pss_one (ps_ret pe_int)), ?_⟩
    have hl : (ns.map V.int).length = ns.length := List.length_map _
    refine ⟨_, rfl, _, rfl, a, _, rfl, .inl hS, _, _, rfl, rfl, _, rfl, ?_⟩
    refine ite2 (fun c => ?_) (fun c => ?_)
    · have c' : k < (((ns.map V.int).length : Nat) : Int) := of_decide_eq_true c
      rw [hl] at c'
      have hk : k.toNat < ns.length := by omega
      have ek : k = ((k.toNat : Nat) : Int) := by omega
      refine ⟨_, rfl, _, rfl, a, _, _, .int ns[k.toNat], rfl, rfl, hS, ?_, q _⟩
      exact at_of ek (by rw [List.getElem?_map, List.getElem?_eq_getElem hk] <;> rfl)
    · exact q 0
/-! ### the pen -/
abbrev sPen : Stmt := topS 10
theorem scPen : FnScope ["_law_cell"] ["_law_cell"] (defScope sPen) := ⟨rfl, rfl, rfl, by decide +kernel, rfl, by decide +kernel, by decide +kernel⟩
def spPen : Sp := fun vs H Q _ => ∃ (c : Int), vs = [.int c] ∧ ∀ p H', Same H H' → H p = none → PenAt H' p → Q (.ref p) H'
theorem ok_pen {f : Addr} {fd : FuncData} {k : Nat} (F : Fun K "_law_pen" "_law_pen" sPen f fd) (mi : mg "int" = none) : FnOk P w K mg base CX0 (k + 1) f fd ["_law_cell"] spPen := by
  refine F.ok scPen (fun vs H Q E h => ?_) (fun cdv A outer s H vs Q E hr h => ?_)
  · obtain ⟨c, rfl, _⟩ := h
    rfl
  · obtain ⟨c, rfl, q⟩ := h
    refine ⟨_, pss_one (ps_ret (pe_lst (pa_cons (pv 0) (pa_cons (pe_callTy call_int1 (by rfl) mi (by decide +kernel) (pa_cons (pe_cmpR op_ge (pv 0) (pe_op op_pow pe_int pe_int) (nomark _)) pa_nil)) (pa_cons pe_int (pa_cons (pe_op op_mod (pv 0) pe_int) pa_nil)))))), ?_⟩
    refine ⟨_, rfl, _, rfl, _, _, rfl, rfl, ⟨by decide, by decide, by decide⟩, _, _, rfl, rfl, .inr ⟨_, rfl, ?_⟩⟩
    refine ⟨_, rfl, _, _, rfl, rfl, (by show (0 : Int) < 1000000007; decide), (by show 4 ≤ sizeLine; decide), fun p hp => ?_⟩
    refine q p _ (fun b o e => ?_) hp ⟨_, _, _, _, upd_same, Int.emod_nonneg _ (by decide), Int.emod_lt_of_pos _ (by decide)⟩
    rw [upd_ne (ne_of_none e hp)]
    exact e
/-! ### a draw -/
abbrev sDraw : Stmt := topS 11
theorem scDraw : FnScope ["_law_pen_here", "_law_bound", "_law_found", "_law_stir"] ["_law_pen_here", "_law_bound"] (defScope sDraw) := ⟨rfl, rfl, rfl, by decide +kernel, rfl, by decide +kernel, by decide +kernel⟩
def spDraw : Sp := fun vs H Q _ => ∃ (p : Addr) (b : Int), vs = [.ref p, .int b] ∧ PenAt H p ∧ 0 < b ∧ b < 1073741824 ∧ ∀ v H', Kp p H H' → PenAt H' p → 0 ≤ v → v < b → Q (.int v) H'
theorem ok_draw {f : Addr} {fd : FuncData} {k : Nat} (F : Fun K "_law_draw" "_law_draw" sDraw f fd) : FnOk P w K mg base CX0 (k + 1) f fd ["_law_pen_here", "_law_bound"] spDraw := by
  refine F.ok scDraw (fun vs H Q E h => ?_) (fun cdv A outer s H vs Q E hr h => ?_)
  · obtain ⟨p, b, rfl, _⟩ := h
    rfl
  · obtain ⟨p, b, rfl, ⟨x, y, c, e, hp, he0, he1⟩, hb0, hb1, q⟩ := h
    refine ⟨_, pss_cons (ps_if (PW.pt (pw_and (pt_cmpR op_eq (pe_ix ix_list (pv 0) pe_int (fun _ _ => rfl)) pe_int (nomark _)) (pw_and1 (pt_cmpR op_gt (pe_ix ix_list (pv 0) pe_int (fun _ _ => rfl)) pe_int (nomark _)))))
        (pss_cons (ps_set (i := 2) scDraw.nd rfl (.inl rfl) (pe_op op_mod (pe_ix ix_list (pv 0) pe_int (fun _ _ => rfl)) (pv 1)))
        (pss_cons (ps_asg (pe_op op_fdiv (pe_ix ix_list (pv 0) pe_int (fun _ _ => rfl)) (pv 1)) (pg_sub (pv 0) pe_int set_list))
        (pss_one (ps_ret (pv 2))))) pss_nil)
      (pss_cons (ps_asg (pe_op op_add (pe_ix ix_list (pv 0) pe_int (fun _ _ => rfl)) pe_int) (pg_sub (pv 0) pe_int set_list))
      (pss_cons (ps_set (i := 3) scDraw.nd rfl (.inl rfl) (pe_op op_mod (pe_op op_mul (pe_op op_add (pe_ix ix_list (pv 0) pe_int (fun _ _ => rfl)) pe_int) (pe_op op_add pe_int (pe_op op_mul pe_int (pe_ix ix_list (pv 0) pe_int (fun _ _ => rfl))))) pe_int))
      (pss_cons (ps_set (i := 3) scDraw.nd rfl (.inl rfl) (pe_op op_mod (pe_op op_add (pe_op op_add (pe_op op_mul (pv 3) (pv 3)) (pe_op op_mul pe_int (pe_ix ix_list (pv 0) pe_int (fun _ _ => rfl)))) pe_int) pe_int))
      (pss_one (ps_ret (pe_op op_mod (pe_op op_fdiv (pe_op op_mod (pe_op op_mul (pv 3) pe_int) pe_int) pe_int) (pv 1))))))), ?_⟩
    have i0 : ∀ u : V, ∀ r : List V, atI (u :: r) 0 = some u := fun u r => atI_nat (j := 0) rfl
    have i1 : ∀ u v : V, ∀ r : List V, atI (u :: v :: r) 1 = some v := fun u v r => atI_nat (j := 1) rfl
    have i2 : ∀ u v w : V, ∀ r : List V, atI (u :: v :: w :: r) 2 = some w := fun u v w r => atI_nat (j := 2) rfl
    have i3 : ∀ u v w z : V, ∀ r : List V, atI (u :: v :: w :: z :: r) 3 = some z := fun u v w z r => atI_nat (j := 3) rfl
    have hS : SqL K H p [.int x, .int y, .int c, .int e] := SqL.of hp
    refine ⟨_, rfl, p, _, _, _, rfl, rfl, hS, i1 _ _ _, rfl, _, rfl, ?_⟩
    refine ite2 (fun c1 => ?_) (fun c1 => ?slow1)
    refine ⟨_, rfl, p, _, _, _, rfl, rfl, hS, i0 _ _, _, _, rfl, rfl, _, rfl, ?_⟩
    refine ite2 (fun c2 => ?_) (fun c2 => ?slow2)
    · refine ⟨_, rfl, p, _, _, _, rfl, rfl, hS, i0 _ _, _, rfl, _, _, rfl, rfl, hb0, ?_⟩
      refine ⟨_, rfl, p, _, _, _, rfl, rfl, hS, i0 _ _, _, rfl, _, _, rfl, rfl, ⟨hb0, hb1⟩, _, rfl, p, _, 0, 0, rfl, rfl, hp, rfl, ?_⟩
      exact ⟨_, rfl, q _ _ (Kp.put _) ⟨_, _, _, _, upd_same, he0, he1⟩ (Int.emod_nonneg _ (by omega)) (Int.emod_lt_of_pos _ hb0)⟩
    all_goals
      refine ⟨_, rfl, p, _, _, _, rfl, rfl, hS, i2 _ _ _ _, _, _, rfl, rfl, _, rfl, p, _, 2, 2, rfl, rfl, hp, rfl, ?_⟩
      have hp1 : (upd H p (.lst [.int x, .int y, .int (c + 1), .int e])) p = some (.lst [.int x, .int y, .int (c + 1), .int e]) := upd_same
      have hS1 : SqL K (upd H p (.lst [.int x, .int y, .int (c + 1), .int e])) p [.int x, .int y, .int (c + 1), .int e] := SqL.of hp1
      refine ⟨_, rfl, p, _, _, _, rfl, rfl, hS1, i3 _ _ _ _ _, _, _, rfl, rfl, _, rfl, p, _, _, _, rfl, rfl, hS1, i2 _ _ _ _, _, _, rfl, rfl, .inl ⟨by decide, by decide⟩, _, _, rfl, rfl, _, _, rfl, rfl, .inl ⟨by omega, by omega⟩, _, _, rfl, rfl, (by show (0 : Int) < 2147483647; decide), ?_⟩
      have r1 := Int.emod_nonneg ((e + 17) * (69621 + 2 * (c + 1))) (b := 2147483647) (by decide)
      have r2 := Int.emod_lt_of_pos ((e + 17) * (69621 + 2 * (c + 1))) (b := 2147483647) (by decide)
      generalize (e + 17) * (69621 + 2 * (c + 1)) % 2147483647 = st at r1 r2
      refine ⟨_, rfl, _, rfl, _, _, rfl, rfl, .inl ⟨by omega, by omega⟩, _, rfl, p, _, _, _, rfl, rfl, hS1, i2 _ _ _ _, _, _, rfl, rfl, .inl ⟨by decide, by decide⟩, _, _, rfl, rfl, _, _, rfl, rfl, _, _, rfl, rfl, (by show (0 : Int) < 2147483629; decide), ?_⟩
      refine ⟨_, rfl, _, _, rfl, rfl, .inr ⟨by decide, by decide⟩, _, _, rfl, rfl, (by show (0 : Int) < 2147483647; decide), _, _, rfl, rfl, ⟨by decide, by decide⟩, _, rfl, _, _, rfl, rfl, hb0, ?_⟩
      exact q _ _ (Kp.put _) ⟨_, _, _, _, upd_same, he0, he1⟩ (Int.emod_nonneg _ (by omega)) (Int.emod_lt_of_pos _ hb0)
end
end Deed

namespace Deed
open PySem PySem.Spec PyProof.Rows L2
/-- a def of the top: where it stands, how its arguments come, its name -/
structure Df (K : PySem.W.Frag) (mg : Str → Option Value) (x : Str) (st : Stmt) (ps : List Str) (f : Addr) (fd : FuncData) : Prop where
  F : Fun K x x st f fd
  b : Binds K fd ps []
  g : mg x = some (.ref f)
theorem am0 {φ : V → Prop} : ∀ y ∈ ([] : List V), φ y := fun _ h => nomatch h
theorem am1 {φ : V → Prop} {x : V} {xs : List V} (h : φ x) (r : ∀ y ∈ xs, φ y) : ∀ y ∈ x :: xs, φ y := fun y hy => (List.mem_cons.mp hy).elim (fun e => e ▸ h) (r y)
/-- an item of a written list at an open place -/
theorem pick {xs : List V} {i : Int} (φ : V → Prop) (h0 : 0 ≤ i) (h1 : i < (xs.length : Int)) (hx : ∀ x ∈ xs, φ x) : ∃ v, atI xs i = some v ∧ φ v := by
  have hk : i.toNat < xs.length := by omega
  exact ⟨xs[i.toNat], at_of (j := i.toNat) (by omega) (List.getElem?_eq_getElem hk), hx _ (List.getElem_mem hk)⟩
/-- an int within bounds -/
def Within (lo hi : Int) (x : V) : Prop := ∃ n : Int, x = .int n ∧ lo ≤ n ∧ n ≤ hi
section
variable {P : Program} {w : World} {K : PySem.W.Frag} {mg : Str → Option Value} {base : Heap} {fDr : Addr} {dDr : FuncData}
abbrev DrawD (K : PySem.W.Frag) (mg : Str → Option Value) := Df K mg "_law_draw" sDraw ["_law_pen_here", "_law_bound"]
/-! ### a day -/
abbrev sDay : Stmt := topS 12
theorem scDay : FnScope ["_law_pen_here", "_law_far"] ["_law_pen_here"] (defScope sDay) := ⟨rfl, rfl, rfl, by decide +kernel, rfl, by decide +kernel, by decide +kernel⟩
def spDay : Sp := fun vs H Q _ => ∃ (p : Addr), vs = [.ref p] ∧ PenAt H p ∧ ∀ v H', Kp p H H' → PenAt H' p → 0 ≤ v → v ≤ 9999 → Q (.int v) H'
theorem ok_day {f : Addr} {fd : FuncData} {k : Nat} (F : Fun K "_law_day" "_law_day" sDay f fd) (D : DrawD K mg fDr dDr) : FnOk P w K mg base CX0 (k + 2) f fd ["_law_pen_here"] spDay := by
  have G : FnOk P w K mg base CX0 (k + 1) fDr dDr ["_law_pen_here", "_law_bound"] spDraw := ok_draw D.F
  refine F.ok scDay (fun vs H Q E h => ?_) (fun cdv A outer s H vs Q E hr h => ?_)
  · obtain ⟨p, rfl, _⟩ := h
    rfl
  · obtain ⟨p, rfl, hP, q⟩ := h
    refine ⟨_, pss_cons (ps_set (i := 1) scDay.nd rfl (.inl rfl) (pe_ix ix_list (pe_lst (pa_cons pe_int (pa_cons (pe_call G hr (by rfl) D.g D.F.kp D.b .nil pass0 (pa_cons (pv 0) (pa_cons pe_int pa_nil))) pa_nil))) (pe_call G hr (by rfl) D.g D.F.kp D.b .nil pass0 (pa_cons (pv 0) (pa_cons pe_int pa_nil))) (fun _ _ => rfl)))
      (pss_one (ps_ret (pe_ix ix_list (pe_lst (pa_cons (pe_call G hr (by rfl) D.g D.F.kp D.b .nil pass0 (pa_cons (pv 0) (pa_cons pe_int pa_nil))) (pa_cons (pe_call G hr (by rfl) D.g D.F.kp D.b .nil pass0 (pa_cons (pv 0) (pa_cons pe_int pa_nil))) (pa_cons (pe_call G hr (by rfl) D.g D.F.kp D.b .nil pass0 (pa_cons (pv 0) (pa_cons pe_int pa_nil))) (pa_cons (pv 1) pa_nil))))) (pe_call G hr (by rfl) D.g D.F.kp D.b .nil pass0 (pa_cons (pv 0) (pa_cons pe_int pa_nil))) (fun _ _ => rfl)))), ?_⟩
    refine ⟨_, rfl, p, 10000, rfl, hP, by decide, by decide, fun v1 H1 k1 P1 a1 b1 => ?_⟩
    refine ⟨(by show 2 ≤ sizeLine; decide), fun l hl => ?_⟩
    refine ⟨_, rfl, p, 2, rfl, P1.new hl _, by decide, by decide, fun v2 H2 k2 P2 a2 b2 => ?_⟩
    obtain ⟨v3, g3, n3, rfl, a3, b3⟩ := pick (xs := [.int 9999, .int v1]) (Within 0 9999) a2 b2 (am1 ⟨9999, rfl, by decide, by decide⟩ (am1 ⟨v1, rfl, a1, by omega⟩ am0))
    refine ⟨l, _, v2, _, rfl, rfl, SqL.of (k2 _ _ (P1.free hl) upd_same), g3, ?_⟩
    have kA : Kp p H H2 := (k1.trans (Kp.new hl _)).trans k2
    refine ⟨_, rfl, p, 6, rfl, P2, by decide, by decide, fun v4 H4 k4 P4 a4 b4 => ?_⟩
    refine ⟨_, rfl, p, 6, rfl, P4, by decide, by decide, fun v5 H5 k5 P5 a5 b5 => ?_⟩
    refine ⟨_, rfl, p, 40, rfl, P5, by decide, by decide, fun v6 H6 k6 P6 a6 b6 => ?_⟩
    refine ⟨_, rfl, (by show 4 ≤ sizeLine; decide), fun m hm => ?_⟩
    refine ⟨_, rfl, p, 4, rfl, P6.new hm _, by decide, by decide, fun v7 H7 k7 P7 a7 b7 => ?_⟩
    obtain ⟨v8, g8, n8, rfl, a8, b8⟩ := pick (xs := [.int v4, .int v5, .int v6, .int n3]) (Within 0 9999) a7 b7 (am1 ⟨_, rfl, by omega, by omega⟩ (am1 ⟨_, rfl, by omega, by omega⟩ (am1 ⟨_, rfl, by omega, by omega⟩ (am1 ⟨_, rfl, by omega, by omega⟩ am0))))
    refine ⟨m, _, v7, _, rfl, rfl, SqL.of (k7 _ _ (P6.free hm) upd_same), g8, ?_⟩
    exact q n8 _ (kA.trans (k4.trans (k5.trans (k6.trans ((Kp.new hm _).trans k7))))) P7 a8 b8
/-! ### folk -/
abbrev sFolk : Stmt := topS 13
theorem scFolk : FnScope ["_law_pen_here", "_law_least", "_law_found", "_law_k", "_law_born", "_law_died"] ["_law_pen_here", "_law_least"] (defScope sFolk) := ⟨rfl, rfl, rfl, by decide +kernel, rfl, by decide +kernel, by decide +kernel⟩
/-- a person at x -/
def PersonAt (H : Hp) (x : V) : Prop := ∃ (a : Addr) (b : Int) (d : V), x = .ref a ∧ H a = some (.tup [.int b, d]) ∧ -9999 ≤ b ∧ b ≤ 9998 ∧ (d = .non ∨ ∃ i : Int, d = .int i ∧ b < i ∧ i ≤ 9999)
theorem PersonAt.kp {p : Addr} {H H' : Hp} {x : V} (h : PersonAt H x) (k : Kp p H H') (P : PenAt H p) : PersonAt H' x := by
  obtain ⟨a, b, d, e, h1, r⟩ := h
  exact ⟨a, b, d, e, k _ _ (P.ne h1 fun _ z => by cases z) h1, r⟩
def FolkAt (H : Hp) (t : Addr) (n : Nat) : Prop := ∃ xs : List V, H t = some (.tup xs) ∧ xs.length = n ∧ ∀ x ∈ xs, PersonAt H x
theorem FolkAt.kp {p : Addr} {H H' : Hp} {t : Addr} {n : Nat} (h : FolkAt H t n) (k : Kp p H H') (P : PenAt H p) : FolkAt H' t n := by
  obtain ⟨xs, h1, h2, h3⟩ := h
  exact ⟨xs, k _ _ (P.ne h1 fun _ z => by cases z) h1, h2, fun x hx => (h3 x hx).kp k P⟩
def spFolk : Sp := fun vs H Q _ => ∃ (p : Addr) (least : Int), vs = [.ref p, .int least] ∧ PenAt H p ∧ 1 ≤ least ∧ least ≤ 6 ∧ ∀ t (n : Nat) H', Kp p H H' → PenAt H' p → FolkAt H' t n → least ≤ n → n ≤ 6 → Q (.ref t) H'
theorem ok_folk {f : Addr} {fd : FuncData} {k : Nat} (F : Fun K "_law_folk" "_law_folk" sFolk f fd) (D : DrawD K mg fDr dDr) (mr : mg "range" = none) (mm : mg "min" = none) (mt : mg "tuple" = none) : FnOk P w K mg base CX0 (k + 2) f fd ["_law_pen_here", "_law_least"] spFolk := by
  have G : FnOk P w K mg base CX0 (k + 1) fDr dDr ["_law_pen_here", "_law_bound"] spDraw := ok_draw D.F
  refine F.ok scFolk (fun vs H Q E h => ?_) (fun cdv A outer s H vs Q E hr h => ?_)
  · obtain ⟨p, l, rfl, _⟩ := h
    rfl
  · obtain ⟨p, least, rfl, hP, hl1, hl6, q⟩ := h
    refine ⟨_, pss_cons (ps_set (i := 2) scFolk.nd rfl (.inl rfl) (pe_lst pa_nil))
      (pss_cons (ps_for PassesOwn.never rfl (pi_range1 rfl mr (pa_cons (pe_op op_add (pv 1) (pe_call G hr (by rfl) D.g D.F.kp D.b .nil pass0 (pa_cons (pv 0) (pa_cons (pe_op op_sub pe_int (pv 1)) pa_nil)))) pa_nil)) (pg_name (i := 3) scFolk.nd rfl (.inl rfl))
        (pss_cons (ps_set (i := 4) scFolk.nd rfl (.inl rfl) (pe_ix ix_list (pe_lst (pa_cons (pe_op op_sub (pe_call G hr (by rfl) D.g D.F.kp D.b .nil pass0 (pa_cons (pv 0) (pa_cons pe_int pa_nil))) pe_int) (pa_cons (pe_op op_sub (pe_call G hr (by rfl) D.g D.F.kp D.b .nil pass0 (pa_cons (pv 0) (pa_cons pe_int pa_nil))) pe_int) (pa_cons (pe_un un_neg pe_int) pa_nil)))) (pe_call G hr (by rfl) D.g D.F.kp D.b .nil pass0 (pa_cons (pv 0) (pa_cons pe_int pa_nil))) (fun _ _ => rfl)))
        (pss_cons (ps_set (i := 5) scFolk.nd rfl (.inl rfl) (pe_callB (call_min2 rfl) (by rfl) mm (by decide +kernel) (pa_cons pe_int (pa_cons (pe_op op_add (pe_op op_add (pv 4) pe_int) (pe_ix ix_list (pe_lst (pa_cons (pe_call G hr (by rfl) D.g D.F.kp D.b .nil pass0 (pa_cons (pv 0) (pa_cons pe_int pa_nil))) (pa_cons (pe_call G hr (by rfl) D.g D.F.kp D.b .nil pass0 (pa_cons (pv 0) (pa_cons pe_int pa_nil))) pa_nil))) (pe_call G hr (by rfl) D.g D.F.kp D.b .nil pass0 (pa_cons (pv 0) (pa_cons pe_int pa_nil))) (fun _ _ => rfl))) pa_nil))))
        (pss_one (ps_expr (pe_bm PySem.F.plainAttrs_list PySem.F.slot_list_append PySem.F.type_list_append mt_append (pv 2) (pa_cons (pe_tup (pa_cons (pv 4) (pa_cons (pe_ix ix_list (pe_lst (pa_cons pe_non (pa_cons (pv 5) pa_nil))) (pe_call G hr (by rfl) D.g D.F.kp D.b .nil pass0 (pa_cons (pv 0) (pa_cons pe_int pa_nil))) (fun _ _ => rfl)) pa_nil))) pa_nil)))))))
      (pss_one (ps_ret (pe_callTy call_tuple_of (by rfl) mt (by decide +kernel) (pa_cons (pv 2) pa_nil))))), ?_⟩
    refine ⟨Nat.zero_le _, fun l hl => ?_⟩
    have Pl : PenAt (upd H l (.lst [])) p := hP.new hl _
    have nl : l ≠ p := hP.free hl
    refine ⟨_, rfl, _, rfl, _, rfl, _, _, rfl, rfl, p, 7 - least, rfl, Pl, by omega, by omega, fun v1 H1 k1 P1 a1 b1 => ?_⟩
    refine ⟨_, _, rfl, rfl, _, rfl, by omega, by omega, ?_⟩
    refine for_range (lo := 0) (n := (least + v1).toNat) (fun i σ H' => ∃ y3 y4 y5 xs, σ = [some (.ref p), some (.int least), some (.ref l), y3, y4, y5] ∧ Kp p H H' ∧ PenAt H' p ∧ H' l = some (.lst xs) ∧ xs.length = i ∧ ∀ x ∈ xs, PersonAt H' x)
      ⟨none, none, none, [], rfl, (Kp.new hl _).trans k1, P1, k1 _ _ nl upd_same, rfl, am0⟩ ?_ ?_
    · rintro i σ H' hi ⟨y3, y4, y5, xs, rfl, k', P', el, ln, ps⟩
      -- born
      refine ⟨_, rfl, p, 9, rfl, P', by decide, by decide, fun v2 H2 k2 P2 a2 b2 => ⟨_, _, rfl, rfl, ?_⟩⟩
      refine ⟨_, rfl, p, 19998, rfl, P2, by decide, by decide, fun v3 H3 k3 P3 a3 b3 => ⟨_, _, rfl, rfl, ?_⟩⟩
      refine ⟨_, rfl, (by show 3 ≤ sizeLine; decide), fun m hm => ?_⟩
      refine ⟨_, rfl, p, 3, rfl, P3.new hm _, by decide, by decide, fun v4 H4 k4 P4 a4 b4 => ?_⟩
      obtain ⟨_, g5, n5, rfl, a5, b5⟩ := pick (xs := [.int (v2 - 4), .int (v3 - 9999), .int (-9999)]) (Within (-9999) 9998) a4 b4 (am1 ⟨_, rfl, by omega, by omega⟩ (am1 ⟨_, rfl, by omega, by omega⟩ (am1 ⟨_, rfl, by omega, by omega⟩ am0)))
      refine ⟨m, _, v4, _, rfl, rfl, SqL.of (k4 _ _ (P3.free hm) upd_same), g5, ?_⟩
      have kA : Kp p H' H4 := k2.trans (k3.trans ((Kp.new hm _).trans k4))
      -- died
      refine ⟨_, rfl, _, _, rfl, rfl, ?_⟩
      refine ⟨_, rfl, p, 12, rfl, P4, by decide, by decide, fun v6 H6 k6 P6 a6 b6 => ?_⟩
      refine ⟨_, rfl, p, 9999, rfl, P6, by decide, by decide, fun v7 H7 k7 P7 a7 b7 => ?_⟩
      refine ⟨(by show 2 ≤ sizeLine; decide), fun m2 hm2 => ?_⟩
      refine ⟨_, rfl, p, 2, rfl, P7.new hm2 _, by decide, by decide, fun v8 H8 k8 P8 a8 b8 => ?_⟩
      obtain ⟨_, g9, n9, rfl, a9, b9⟩ := pick (xs := [.int v6, .int v7]) (Within 0 9998) a8 b8 (am1 ⟨_, rfl, by omega, by omega⟩ (am1 ⟨_, rfl, by omega, by omega⟩ am0))
      refine ⟨m2, _, v8, _, rfl, rfl, SqL.of (k8 _ _ (P7.free hm2) upd_same), g9, _, _, rfl, rfl, _, _, rfl, ?_⟩
      have kB : Kp p H4 H8 := k6.trans (k7.trans ((Kp.new hm2 _).trans k8))
      have hd : n5 < (if n5 + 1 + n9 < 9999 then n5 + 1 + n9 else 9999) ∧ (if n5 + 1 + n9 < 9999 then n5 + 1 + n9 else 9999) ≤ 9999 := by
        split <;> omega
      generalize (if n5 + 1 + n9 < 9999 then n5 + 1 + n9 else 9999) = dd at hd
      have kC := kA.trans kB
      have el8 := kC _ _ nl el
      -- found.append((born, ..))
      refine ⟨_, rfl, .inl ⟨rfl, _, SqL.of el8⟩, _, rfl, _, rfl, (by show 2 ≤ sizeLine; decide), fun m3 hm3 => ?_⟩
      refine ⟨_, rfl, p, 2, rfl, P8.new hm3 _, by decide, by decide, fun v10 H10 k10 P10 a10 b10 => ?_⟩
      obtain ⟨vd, g11, hvd⟩ := pick (xs := [.non, .int dd]) (fun d => d = .non ∨ ∃ i : Int, d = .int i ∧ n5 < i ∧ i ≤ 9999) a10 b10 (am1 (.inl rfl) (am1 (.inr ⟨_, rfl, hd⟩) am0))
      refine ⟨m3, _, v10, _, rfl, rfl, SqL.of (k10 _ _ (P8.free hm3) upd_same), g11, (by show 2 ≤ sizeLine; decide), fun t ht => ?_⟩
      have kD := (kC.trans ((Kp.new hm3 _).trans k10)).trans (Kp.new (p := p) ht (.tup [.int n5, vd]))
      have elD := kD _ _ nl el
      have PD : PenAt (upd H10 t (.tup [.int n5, vd])) p := P10.new ht _
      refine ⟨l, _, _, rfl, rfl, elD, small1000 (by omega), ?_⟩
      have kE : ∀ b o, b ≠ p → b ≠ l → H' b = some o → (upd (upd H10 t (.tup [.int n5, vd])) l (.lst (xs ++ [.ref t]))) b = some o := fun b o n1 n2 e => by
        rw [upd_ne n2]
        exact kD _ _ n1 e
      have ntl : t ≠ l := fun z => by
        have := (kC.trans ((Kp.new hm3 _).trans k10)) _ _ nl el
        rw [z, this] at ht
        cases ht
      refine ⟨_, _, _, xs ++ [.ref t], rfl, fun b o n1 e => ?_, ?_, upd_same, ?_, fun x hx => ?_⟩
      · by_cases hb : b = l
        · rw [hb, hl] at e
          cases e
        · exact kE b o n1 hb (k' _ _ n1 e)
      · obtain ⟨x1, x2, x3, x4, e1, e2⟩ := PD
        exact ⟨x1, x2, x3, x4, by rw [upd_ne nl.symm]; exact e1, e2⟩
      · rw [List.length_append, ln]
        rfl
      · rcases List.mem_append.mp hx with hx | hx
        · obtain ⟨a, b, d, e, h1, r⟩ := ps x hx
          exact ⟨a, b, d, e, kE _ _ (P'.ne h1 fun _ z => by cases z) (fun z => by rw [z, el] at h1; cases h1) h1, r⟩
        · rw [List.mem_singleton.mp hx]
          exact ⟨t, n5, vd, rfl, by rw [upd_ne ntl, upd_same], by omega, by omega, hvd⟩
    · rintro σ H' ⟨y3, y4, y5, xs, rfl, k', P', el, ln, ps⟩
      refine ⟨_, rfl, l, xs, rfl, .inl ⟨SqL.of el, fun t ht => ?_⟩⟩
      have kF : Kp p H' (upd H' t (.tup xs)) := Kp.new ht _
      exact q t (least + v1).toNat _ (k'.trans kF) (P'.new ht _) ⟨xs, upd_same, ln, fun x hx => (ps x hx).kp kF P'⟩ (by omega) (by omega)
end
end Deed

namespace Deed
open PySem PySem.Spec PyProof.Rows L2
theorem seqIx {i : Int} {n : Nat} (h0 : 0 ≤ i) (h1 : i < n) : seqIndex? i n = some i.toNat := seqIndex_of h0 h1
theorem rising_of {l : List Int} (hn : l.Nodup) (hp : l.Pairwise (· ≤ ·)) : l.Pairwise (· < ·) := by
  induction l with
  | nil => exact .nil
  | cons x r ih =>
    have h1 := List.nodup_cons.mp hn
    have h2 := List.pairwise_cons.mp hp
    refine List.pairwise_cons.mpr ⟨fun y hy => ?_, ih h1.2 h2.2⟩
    have h3 := h2.1 y hy
    have h4 : x ≠ y := fun e => h1.1 (e ▸ hy)
    omega
theorem perm_erase {α : Type} {l : List α} {k : Nat} {y : α} (h : l[k]? = some y) : (y :: l.eraseIdx k).Perm l := by
  induction l generalizing k with
  | nil => simp at h
  | cons a r ih =>
    cases k with
    | zero =>
      have e : a = y := by simpa using h
      subst e
      exact List.Perm.refl _
    | succ k =>
      have h' : r[k]? = some y := by simpa using h
      show (y :: a :: r.eraseIdx k).Perm (a :: r)
      exact (List.Perm.swap a y _).trans ((ih h').cons a)
theorem erase_map {α β : Type} (f : α → β) : ∀ (l : List α) (k : Nat), (l.map f).eraseIdx k = (l.eraseIdx k).map f
  | [], _ => rfl
  | _ :: _, 0 => rfl
  | a :: r, k + 1 => congrArg (List.cons (f a)) (erase_map f r k)
section
variable {P : Program} {w : World} {K : PySem.W.Frag} {mg : Str → Option Value} {base : Heap} {fDr : Addr} {dDr : FuncData}
/-! ### a few of some -/
abbrev sFew : Stmt := topS 14
theorem scFew : FnScope ["_law_pen_here", "_law_some", "_law_most", "_law_left", "_law_found", "_law_k"] ["_law_pen_here", "_law_some", "_law_most"] (defScope sFew) := ⟨rfl, rfl, rfl, by decide +kernel, rfl, by decide +kernel, by decide +kernel⟩
def spFew (K : PySem.W.Frag) : Sp := fun vs H Q _ => ∃ (p a : Addr) (most : Int) (ns : List Int), vs = [.ref p, .ref a, .int most] ∧ PenAt H p ∧ SqL K H a (ns.map V.int) ∧ 0 ≤ most ∧ most ≤ 1000 ∧ ns.length ≤ 1000 ∧
  ∀ t (rs ls : List Int) H', Kp p H H' → PenAt H' p → H' t = some (.tup (rs.map V.int)) → (rs ++ ls).Perm ns → rs.Pairwise (· ≤ ·) → rs.length ≤ most → Q (.ref t) H'
theorem ok_few {f : Addr} {fd : FuncData} {k : Nat} (F : Fun K "_law_few" "_law_few" sFew f fd) (D : DrawD K mg fDr dDr) (mr : mg "range" = none) (mm : mg "min" = none) (mt : mg "tuple" = none) (ml : mg "list" = none) (mn : mg "len" = none) (ms : mg "sorted" = none) :
    FnOk P w K mg base CX0 (k + 2) f fd ["_law_pen_here", "_law_some", "_law_most"] (spFew K) := by
  have G : FnOk P w K mg base CX0 (k + 1) fDr dDr ["_law_pen_here", "_law_bound"] spDraw := ok_draw D.F
  refine F.ok scFew (fun vs H Q E h => ?_) (fun cdv A outer s H vs Q E hr h => ?_)
  · obtain ⟨p, a, most, ns, rfl, _⟩ := h
    rfl
  · obtain ⟨p, a, most, ns, rfl, hP, hS, hm0, hm1, hn1, q⟩ := h
    refine ⟨_, pss_cons (ps_par (i := 3) (j := 4) (by rfl) scFew.nd rfl rfl (by decide) rfl rfl (pa_cons (pe_callTy call_list_of (by rfl) ml (by decide +kernel) (pa_cons (pv 1) pa_nil)) (pa_cons (pe_lst pa_nil) pa_nil)) (by rfl))
      (pss_cons (ps_for PassesOwn.never rfl (pi_range1 rfl mr (pa_cons (pe_callB (call_min2 rfl) (by rfl) mm (by decide +kernel) (pa_cons (pe_callB call_len_seq (by rfl) mn PySem.boot_len (pa_cons (pv 3) pa_nil)) (pa_cons (pe_call G hr (by rfl) D.g D.F.kp D.b .nil pass0 (pa_cons (pv 0) (pa_cons (pe_op op_add (pv 2) pe_int) pa_nil))) pa_nil))) pa_nil)) (pg_name (i := 5) scFew.nd rfl (.inl rfl))
        (pss_one (ps_expr (pe_bm PySem.F.plainAttrs_list PySem.F.slot_list_append PySem.F.type_list_append mt_append (pv 4) (pa_cons (pe_bm PySem.F.plainAttrs_list PySem.F.slot_list_pop PySem.F.type_list_pop mt_popAt (pv 3) (pa_cons (pe_call G hr (by rfl) D.g D.F.kp D.b .nil pass0 (pa_cons (pv 0) (pa_cons (pe_callB call_len_seq (by rfl) mn PySem.boot_len (pa_cons (pv 3) pa_nil)) pa_nil))) pa_nil)) pa_nil)))))
      (pss_one (ps_ret (pe_callTy call_tuple_of (by rfl) mt (by decide +kernel) (pa_cons (pe_callB cr_sortedI (by rfl) ms (by decide +kernel) (pa_cons (pv 4) pa_nil)) pa_nil))))), ?_⟩
    refine ⟨_, rfl, a, _, rfl, .inl hS, fun l hl => ?_⟩
    have Pl : PenAt (upd H l (.lst (ns.map V.int))) p := hP.new hl _
    have nl : l ≠ p := hP.free hl
    refine ⟨Nat.zero_le _, fun g hg => ⟨_, _, rfl, ?_⟩⟩
    have ng : g ≠ p := Pl.free hg
    have nlg : l ≠ g := fun z => by
      rw [← z, upd_same] at hg
      cases hg
    have Pg := Pl.new hg (.lst [])
    have el : (upd (upd H l (.lst (ns.map V.int))) g (.lst [])) l = some (.lst (ns.map V.int)) := by rw [upd_ne nlg, upd_same]
    refine ⟨_, rfl, l, _, rfl, .inl (SqL.of el), _, rfl, _, rfl, _, _, rfl, rfl, p, most + 1, rfl, Pg, by omega, by omega, fun v1 H1 k1 P1 a1 b1 => ?_⟩
    have hlen : (ns.map V.int).length = ns.length := List.length_map _
    refine ⟨_, _, rfl, ?_⟩
    rw [hlen]
    have hj : 0 ≤ (if v1 < (ns.length : Int) then v1 else (ns.length : Int)) ∧ (if v1 < (ns.length : Int) then v1 else (ns.length : Int)) ≤ ns.length ∧ (if v1 < (ns.length : Int) then v1 else (ns.length : Int)) ≤ most := by
      split <;> omega
    generalize (if v1 < (ns.length : Int) then v1 else (ns.length : Int)) = j at hj
    refine ⟨_, rfl, by omega, by omega, ?_⟩
    have k0 : Kp p H H1 := ((Kp.new hl _).trans (Kp.new hg _)).trans k1
    refine for_range (lo := 0) (n := j.toNat) (fun i σ H' => ∃ y5, ∃ rs ls : List Int, σ = [some (.ref p), some (.ref a), some (.int most), some (.ref l), some (.ref g), y5] ∧ Kp p H H' ∧ PenAt H' p ∧ H' l = some (.lst (ls.map V.int)) ∧ H' g = some (.lst (rs.map V.int)) ∧ rs.length = i ∧ (rs ++ ls).Perm ns)
      ⟨none, [], ns, rfl, k0, P1, k1 _ _ nl el, k1 _ _ ng upd_same, rfl, List.Perm.refl _⟩ ?_ ?_
    · rintro i σ H' hi ⟨y5, rs, ls, rfl, k', P', e1, e2, hrl, hpm⟩
      have hll : ls.length = ns.length - i := by
        have := hpm.length_eq
        rw [List.length_append] at this
        omega
      have hml : (ls.map V.int).length = ls.length := List.length_map _
      refine ⟨_, rfl, .inl ⟨rfl, _, SqL.of e2⟩, _, rfl, .inl ⟨rfl, _, SqL.of e1⟩, _, rfl, _, rfl, l, _, rfl, .inl (SqL.of e1), p, _, rfl, P', by omega, by omega, fun v2 H2 k2 P2 a2 b2 => ?_⟩
      rw [hml] at b2
      have e1' := k2 _ _ nl e1
      have e2' := k2 _ _ ng e2
      have hk : v2.toNat < ls.length := by omega
      refine ⟨l, _, v2, v2.toNat, .int ls[v2.toNat], rfl, rfl, e1', by omega, by omega, seqIx a2 (by rw [hml]; omega), by rw [List.getElem?_map, List.getElem?_eq_getElem hk] <;> rfl, ?_⟩
      have e2'' : (upd H2 l (.lst ((ls.map V.int).eraseIdx v2.toNat))) g = some (.lst (rs.map V.int)) := by rw [upd_ne nlg.symm]; exact e2'
      refine ⟨g, _, _, rfl, rfl, e2'', small1000 (by rw [List.length_map]; omega), ?_⟩
      refine ⟨_, rs ++ [ls[v2.toNat]], ls.eraseIdx v2.toNat, rfl, fun b o n1 e => ?_, ?_, ?_, ?_, ?_, ?_⟩
      · rw [upd_ne (ne_of_none e (show H g = none by rw [upd_ne nlg.symm] at hg; exact hg)), upd_ne (ne_of_none e hl)]
        exact (k'.trans k2) _ _ n1 e
      · obtain ⟨x1, x2, x3, x4, z1, z2⟩ := P2
        exact ⟨x1, x2, x3, x4, by rw [upd_ne ng.symm, upd_ne nl.symm]; exact z1, z2⟩
      · rw [upd_ne nlg, upd_same, erase_map]
      · rw [upd_same, List.map_append]
        rfl
      · rw [List.length_append, hrl]
        rfl
      · have h1 : (ls[v2.toNat] :: ls.eraseIdx v2.toNat).Perm ls := perm_erase (List.getElem?_eq_getElem hk)
        refine List.Perm.trans ?_ hpm
        rw [List.append_assoc]
        exact (List.Perm.append_left rs h1)
    · rintro σ H' ⟨y5, rs, ls, rfl, k', P', e1, e2, hrl, hpm⟩
      refine ⟨_, rfl, g, rs, rfl, SqL.of e2, fun rs' m pm up hm => ?_⟩
      have hm' : (upd H' m (.lst (rs'.map V.int))) m = some (.lst (rs'.map V.int)) := upd_same
      refine ⟨m, _, rfl, .inl ⟨SqL.of hm', fun t ht => ?_⟩⟩
      refine q t rs' ls _ (k'.trans ((Kp.new hm _).trans (Kp.new ht _))) ((P'.new hm _).new ht _) upd_same ((List.Perm.append_right ls pm).trans hpm) up ?_
      rw [pm.length_eq, hrl]
      omega
end
end Deed

namespace Deed
open PySem PySem.Spec PyProof.Rows L2
/-! ### lists of ints compared -/
theorem dp_ints {K : PySem.W.Frag} {H : Hp} : ∀ ns : List Int, DpAll K H (ns.map V.int) (ns.map PyData.int)
  | [] => .nil
  | n :: r => .cons (.int n) (dp_ints r)
theorem lay_ints : ∀ ns : List Int, PyData.canLayAll0 (ns.map PyData.int) = true
  | [] => by simp [PyData.canLayAll0]
  | n :: r => by simp [PyData.canLayAll0, PyData.canLay0, lay_ints r]
theorem depth_ints : ∀ ns : List Int, PyData.depthAll (ns.map PyData.int) ≤ 1
  | [] => by simp [PyData.depthAll]
  | n :: r => by
    have h := depth_ints r
    simp only [List.map_cons, PyData.depthAll, PyData.depth]
    omega
theorem shaped_ints (ns : List Int) : SeqAt.shaped (.list (ns.map PyData.int)) = true := by
  have h1 := depth_ints ns
  have h2 : PyData.depth (.list (ns.map PyData.int)) ≤ 64 := by
    simp only [PyData.depth]
    omega
  show (PyData.canLay0 (.list (ns.map PyData.int)) && decide (PyData.depth (.list (ns.map PyData.int)) ≤ 64)) = true
  rw [Bool.and_eq_true]
  exact ⟨by simp only [PyData.canLay0]; exact lay_ints ns, decide_eq_true h2⟩
theorem eqvAll_ints : ∀ ns ms : List Int, PyData.eqvAll (ns.map PyData.int) (ms.map PyData.int) = decide (ns = ms)
  | [], [] => by simp [PyData.eqvAll]
  | [], _ :: _ => by simp [PyData.eqvAll]
  | _ :: _, [] => by simp [PyData.eqvAll]
  | n :: r, m :: q => by
    simp only [List.map_cons, PyData.eqvAll, PyData.eqv, eqvAll_ints r q]
    by_cases h : n = m
    · subst h
      simp
    · simp [h]
theorem eqv_ints (ns ms : List Int) : PyData.eqv (.list (ns.map PyData.int)) (.list (ms.map PyData.int)) = decide (ns = ms) := by
  simp only [PyData.eqv]
  exact eqvAll_ints ns ms
theorem mem_inV {n : Int} {ns : List Int} : inV (.int n) (ns.map V.int) = decide (n ∈ ns) := by
  induction ns with
  | nil => simp [inV]
  | cons m r ih =>
    have e : inV (.int n) ((m :: r).map V.int) = (eqV (.int m) (.int n) || inV (.int n) (r.map V.int)) := by simp [inV]
    have e2 : eqV (.int m) (.int n) = decide (m = n) := by
      first | rfl | simp [eqV] | (unfold eqV; simp)
    rw [e, ih, e2]
    by_cases h : m = n
    · subst h
      simp
    · have h' : ¬ n = m := fun z => h z.symm
      simp [h, h']
theorem flat_ints (ns : List Int) : (ns.map V.int).all flatV = true := by
  induction ns with
  | nil => rfl
  | cons n r ih =>
    rw [List.map_cons, List.all_cons, ih]
    rfl
/-! ### entries -/
inductive Kd where
  | deed (g t : Int) (rs ws : List Int)
  | act (x : Str) (o : Int)
structure En where
  num : Int
  day : Int
  wri : Int
  hand : Int
  kd : Kd
def En.isDeed (e : En) : Bool := match e.kd with
  | .deed _ _ _ _ => true
  | .act _ _ => false
/-- the entry e at the address a -/
def EntAt (H : Hp) (a : Addr) (e : En) : Prop := match e.kd with
  | .deed g t rs ws => ∃ r w : Addr, H a = some (.tup [.int e.num, .int e.day, .int e.wri, .int e.hand, .str "deed", .int g, .int t, .ref r, .ref w]) ∧ H r = some (.tup (rs.map V.int)) ∧ H w = some (.tup (ws.map V.int))
  | .act x o => H a = some (.tup [.int e.num, .int e.day, .int e.wri, .int e.hand, .str x, .int o])
/-- all that isn't a list is kept -/
def KpT (H H' : Hp) : Prop := ∀ b xs, H b = some (.tup xs) → H' b = some (.tup xs)
theorem Kp.tup {p : Addr} {H H' : Hp} (k : Kp p H H') (P : PenAt H p) : KpT H H' := fun b xs e => k _ _ (P.ne e fun _ z => by cases z) e
theorem Same.tup {H H' : Hp} (k : Same H H') : KpT H H' := fun b xs e => k _ _ e
theorem KpT.trans {H H1 H2 : Hp} (a : KpT H H1) (b : KpT H1 H2) : KpT H H2 := fun c o h => b c o (a c o h)
theorem EntAt.kp {H H' : Hp} {a : Addr} {e : En} (h : EntAt H a e) (k : KpT H H') : EntAt H' a e := by
  unfold EntAt at h ⊢
  cases hk : e.kd with
  | deed g t rs ws =>
    rw [hk] at h
    obtain ⟨r, w, h1, h2, h3⟩ := h
    exact ⟨r, w, k _ _ h1, k _ _ h2, k _ _ h3⟩
  | act x o =>
    rw [hk] at h
    exact k _ _ h
def EnOk (n : Nat) (ds as : List Int) (e : En) : Prop := (0 ≤ e.day ∧ e.day ≤ 9999) ∧ (0 ≤ e.wri ∧ e.wri ≤ 9999) ∧ (0 ≤ e.hand ∧ e.hand ≤ 3) ∧ match e.kd with
  | .deed g t rs ws => (0 ≤ g ∧ g < n) ∧ (0 ≤ t ∧ t < n) ∧ g ≠ t ∧ rs.length ≤ 2 ∧ rs.Pairwise (· < ·) ∧ (∀ r ∈ rs, r ∈ ds ∧ r < e.num) ∧ ws.length ≤ 3 ∧ ws.Pairwise (· < ·) ∧ ∀ x ∈ ws, 0 ≤ x ∧ x < n ∧ x ≠ g ∧ x ≠ t
  | .act x o => ((x = "undone" ∧ o ∈ as) ∨ ((x = "paid" ∨ x = "void") ∧ o ∈ ds)) ∧ o < e.num
theorem EnOk.mono {n : Nat} {ds as ds' as' : List Int} {e : En} (h : EnOk n ds as e) (h1 : ∀ x ∈ ds, x ∈ ds') (h2 : ∀ x ∈ as, x ∈ as') : EnOk n ds' as' e := by
  unfold EnOk at h ⊢
  obtain ⟨a, b, c, d⟩ := h
  refine ⟨a, b, c, ?_⟩
  cases hk : e.kd with
  | deed g t rs ws =>
    rw [hk] at d
    obtain ⟨d1, d2, d3, d4, d5, d6, d7⟩ := d
    exact ⟨d1, d2, d3, d4, d5, fun r hr => ⟨h1 _ (d6 r hr).1, (d6 r hr).2⟩, d7⟩
  | act x o =>
    rw [hk] at d
    obtain ⟨d1, d2⟩ := d
    refine ⟨?_, d2⟩
    rcases d1 with ⟨z, m⟩ | ⟨z, m⟩
    · exact .inl ⟨z, h2 _ m⟩
    · exact .inr ⟨z, h1 _ m⟩
section
variable {P : Program} {w : World} {K : PySem.W.Frag} {mg : Str → Option Value} {base : Heap} {fDr fFe fDy fDe : Addr} {dDr dFe dDy dDe : FuncData}
abbrev FewD (K : PySem.W.Frag) (mg : Str → Option Value) := Df K mg "_law_few" sFew ["_law_pen_here", "_law_some", "_law_most"]
abbrev DayD (K : PySem.W.Frag) (mg : Str → Option Value) := Df K mg "_law_day" sDay ["_law_pen_here"]
/-- the built-ins' names are the built-ins' -/
structure Bi (mg : Str → Option Value) : Prop where
  range : mg "range" = none
  min : mg "min" = none
  max : mg "max" = none
  tuple : mg "tuple" = none
  list : mg "list" = none
  len : mg "len" = none
  sorted : mg "sorted" = none
  int : mg "int" = none
/-! ### what stands behind a deed's word -/
abbrev sDeed : Stmt := topS 15
abbrev nDeed : List Str := ["_law_pen_here", "_law_folk_here", "_law_deeds", "_law_giver", "_law_taker", "_law_others", "_law_one"]
theorem scDeed : FnScope nDeed ["_law_pen_here", "_law_folk_here", "_law_deeds"] (defScope sDeed) := ⟨rfl, rfl, rfl, by decide +kernel, rfl, by decide +kernel, by decide +kernel⟩
def spDeed (K : PySem.W.Frag) : Sp := fun vs H Q _ => ∃ (p fk ld : Addr) (n : Nat) (ds : List Int), vs = [.ref p, .ref fk, .ref ld] ∧ PenAt H p ∧ FolkAt H fk n ∧ 2 ≤ n ∧ n ≤ 6 ∧ H ld = some (.lst (ds.map V.int)) ∧ ld ≠ p ∧ ds.Nodup ∧ ds.length ≤ 1000 ∧
  ∀ a r x (g t : Int) (rs ws : List Int) H', Kp p H H' → PenAt H' p → H' a = some (.tup [.int g, .int t, .ref r, .ref x]) → H' r = some (.tup (rs.map V.int)) → H' x = some (.tup (ws.map V.int)) →
    (0 ≤ g ∧ g < n) → (0 ≤ t ∧ t < n) → g ≠ t → rs.length ≤ 2 → rs.Pairwise (· < ·) → (∀ r ∈ rs, r ∈ ds) → ws.length ≤ 3 → ws.Pairwise (· < ·) → (∀ y ∈ ws, 0 ≤ y ∧ y < n ∧ y ≠ g ∧ y ≠ t) → Q (.ref a) H'
theorem taker_ne {g v : Int} {n : Nat} (h2 : 2 ≤ n) (h6 : n ≤ 6) (hg : 0 ≤ g) (hg' : g < n) (hv : 0 ≤ v) (hv' : v < (n : Int) - 1) : 0 ≤ (g + 1 + v) % (n : Int) ∧ (g + 1 + v) % (n : Int) < n ∧ g ≠ (g + 1 + v) % (n : Int) := by
  have hn : n = 2 ∨ n = 3 ∨ n = 4 ∨ n = 5 ∨ n = 6 := by omega
  rcases hn with rfl | rfl | rfl | rfl | rfl <;> omega
theorem ok_deed {f : Addr} {fd : FuncData} {k : Nat} (F : Fun K "_law_deed" "_law_deed" sDeed f fd) (D : DrawD K mg fDr dDr) (DF : FewD K mg fFe dFe) (B : Bi mg) : FnOk P w K mg base CX0 (k + 3) f fd ["_law_pen_here", "_law_folk_here", "_law_deeds"] (spDeed K) := by
  have G : FnOk P w K mg base CX0 (k + 1) fDr dDr ["_law_pen_here", "_law_bound"] spDraw := ok_draw D.F
  have GF : FnOk P w K mg base CX0 (k + 2) fFe dFe ["_law_pen_here", "_law_some", "_law_most"] (spFew K) := ok_few DF.F D B.range B.min B.tuple B.list B.len B.sorted
  refine F.ok scDeed (fun vs H Q E h => ?_) (fun cdv A outer s H vs Q E hr h => ?_)
  · obtain ⟨p, fk, ld, n, ds, rfl, _⟩ := h
    rfl
  · obtain ⟨p, fk, ld, n, ds, rfl, hP, hF, hn2, hn6, hld, nld, hnd, hdl, q⟩ := h
    have hr1 : Room (k + 1) _ := hr.mono (Nat.le_succ _)
    obtain ⟨xs, hfk, hxl, hps⟩ := id hF
    refine ⟨_, pss_cons (ps_set (i := 3) scDeed.nd rfl (.inr rfl) (pe_call G hr1 (by rfl) D.g D.F.kp D.b .nil pass0 (pa_cons (pv 0) (pa_cons (pe_callB call_len_seq (by rfl) B.len PySem.boot_len (pa_cons (pv 1) pa_nil)) pa_nil))))
      (pss_cons (ps_set (i := 4) scDeed.nd rfl (.inr rfl) (pe_op op_mod (pe_op op_add (pe_op op_add (pv 3) pe_int) (pe_call G hr1 (by rfl) D.g D.F.kp D.b .nil pass0 (pa_cons (pv 0) (pa_cons (pe_op op_sub (pe_callB call_len_seq (by rfl) B.len PySem.boot_len (pa_cons (pv 1) pa_nil)) pe_int) pa_nil)))) (pe_callB call_len_seq (by rfl) B.len PySem.boot_len (pa_cons (pv 1) pa_nil))))
      (pss_cons (ps_setLc (i := 5) (own := [("_law_one", 6)]) (g := gName 6) (by rfl) scDeed.nd rfl rfl (sw_true rfl rfl rfl (by decide +kernel)) (pi_range1 (by rfl) B.range (pa_cons (pe_callB call_len_seq (by rfl) B.len PySem.boot_len (pa_cons (pv 1) pa_nil)) pa_nil)) (blkOk_by (own := [("_law_one", 6)]) (N := nDeed) (sc := defScope sDeed) (by decide +kernel)) (fun _ _ _ _ _ => pg_name (i := 6) scDeed.nd rfl (Or.inl rfl))
          (fun _ _ _ _ _ => pts_one (pt_cmpR (show OpR _ (compareOp .NotIn) (rIn K true) from op_notIn_seq) (pv 6) (pe_tup (pa_cons (pv 3) (pa_cons (pv 4) pa_nil))) (by rfl))) (fun _ _ _ _ _ => pv 6))
      (pss_one (ps_ret (pe_tup (pa_cons (pv 3) (pa_cons (pv 4) (pa_cons (pe_call GF hr (by rfl) DF.g DF.F.kp DF.b .nil pass0 (pa_cons (pv 0) (pa_cons (pv 2) (pa_cons pe_int pa_nil)))) (pa_cons (pe_call GF hr (by rfl) DF.g DF.F.kp DF.b .nil pass0 (pa_cons (pv 0) (pa_cons (pv 5) (pa_cons pe_int pa_nil)))) pa_nil))))))))), ?_⟩
    refine ⟨_, rfl, _, rfl, fk, xs, rfl, .inr (SqT.of hfk), p, _, rfl, hP, by omega, by omega, fun g H1 k1 P1 a1 b1 => ?_⟩
    have hfk1 := k1.tup hP _ _ hfk
    refine ⟨_, rfl, _, _, rfl, rfl, _, rfl, _, rfl, fk, xs, rfl, .inr (SqT.of hfk1), _, _, rfl, rfl, p, _, rfl, P1, by omega, by omega, fun v H2 k2 P2 a2 b2 => ?_⟩
    have hfk2 := k2.tup P1 _ _ hfk1
    refine ⟨_, _, rfl, rfl, _, rfl, fk, xs, rfl, .inr (SqT.of hfk2), _, _, rfl, rfl, by omega, ?_⟩
    rw [hxl] at b1 b2
    obtain ⟨t1, t2, t3⟩ := taker_ne hn2 hn6 a1 b1 a2 b2
    rw [hxl]
    dsimp only
    generalize (g + 1 + v) % (n : Int) = t at t1 t2 t3
    have k12 := k1.trans k2
    refine ⟨_, rfl, fk, xs, rfl, .inr (SqT.of hfk2), _, rfl, by omega, by omega, ?_⟩
    rw [hxl]
    refine fun o no => ?_
    have npo : o ≠ p := P2.free no
    refine lc_range (lo := 0) (n := ((n : Nat) : Int).toNat) (fun i H' => ∃ os : List Int, H' o = some (.lst (os.map V.int)) ∧ Kp p H H' ∧ PenAt H' p ∧ os.length ≤ i ∧ os.Pairwise (· < ·) ∧ ∀ y ∈ os, 0 ≤ y ∧ y < (i : Int) ∧ y ≠ g ∧ y ≠ t)
      ⟨[], upd_same, k12.trans (Kp.new no _), P2.new no _, Nat.le_refl _, .nil, fun _ h => nomatch h⟩ ?_ ?_
    · rintro i H' hi ⟨os, ho, k', P', hol, hup, hall⟩
      refine ⟨rfl, _, rfl, _, rfl, _, rfl, (by show 2 ≤ sizeLine; decide), fun u hu => ?_⟩
      have hu' : (upd H' u (.tup [.int g, .int t])) u = some (.tup [.int g, .int t]) := upd_same
      refine ⟨u, _, rfl, .inr (SqT.of hu'), rfl, rfl, _, rfl, ?_⟩
      have kU : Kp p H' (upd H' u (.tup [.int g, .int t])) := Kp.new hu _
      have hmem : inV (.int (0 + (i : Int))) [.int g, .int t] = decide ((0 + (i : Int)) ∈ [g, t]) := mem_inV (ns := [g, t])
      have ho' := kU _ _ npo ho
      refine ite2 (fun c => ?_) (fun c => ?_)
      · have c' : ¬ ((0 + (i : Int)) ∈ [g, t]) := by
          have c1 : (!inV (.int (0 + (i : Int))) [.int g, .int t]) = true := c
          rw [hmem] at c1
          simpa using c1
        refine ⟨_, rfl, _, ho', small1000 (by rw [List.length_map]; omega), os ++ [0 + (i : Int)], ?_, fun b z n1 e => ?_, ?_, ?_, ?_, ?_⟩
        · rw [upd_same, List.map_append]
          rfl
        · have nb : b ≠ o := fun z' => by
            have e' := k12 _ _ n1 e
            rw [z', no] at e'
            cases e'
          rw [upd_ne nb]
          exact (k'.trans kU) _ _ n1 e
        · obtain ⟨x1, x2, x3, x4, z1, z2⟩ := P'.new hu (.tup [.int g, .int t])
          exact ⟨x1, x2, x3, x4, by rw [upd_ne npo.symm]; exact z1, z2⟩
        · rw [List.length_append]
          show os.length + 1 ≤ i + 1
          omega
        · refine List.pairwise_append.mpr ⟨hup, List.pairwise_singleton _ _, fun x hx y hy => ?_⟩
          rw [List.mem_singleton.mp hy]
          have := hall x hx
          omega
        · intro y hy
          rcases List.mem_append.mp hy with hy | hy
          · have := hall y hy
            refine ⟨this.1, by omega, this.2.2⟩
          · rw [List.mem_singleton.mp hy]
            simp only [List.mem_cons, List.not_mem_nil, or_false, not_or] at c'
            refine ⟨by omega, by omega, c'.1, c'.2⟩
      · exact ⟨os, ho', k'.trans kU, P'.new hu _, by omega, hup, fun y hy => by
          have := hall y hy
          exact ⟨this.1, by omega, this.2.2⟩⟩
    · rintro H' ⟨os, ho, k', P', hol, hup, hall⟩
      refine ⟨_, rfl, _, rfl, ?_⟩
      refine ⟨_, rfl, _, rfl, p, ld, 2, ds, rfl, P', SqL.of (k' _ _ nld hld), by decide, by decide, hdl, fun r rs ls H3 k3 P3 hr3 pm3 up3 ln3 => ?_⟩
      refine ⟨_, rfl, _, rfl, p, o, 3, os, rfl, P3, SqL.of (k3 _ _ npo ho), by decide, by decide, by omega, fun x ws ms H4 k4 P4 hr4 pm4 up4 ln4 => ?_⟩
      refine ⟨(by show 4 ≤ sizeLine; decide), fun a ha => ?_⟩
      have k5 : Kp p H4 (upd H4 a (.tup [.int g, .int t, .ref r, .ref x])) := Kp.new ha _
      have nd3 : rs.Nodup := (List.nodup_append.mp (pm3.nodup_iff.mpr hnd)).1
      have ndo : os.Nodup := hup.imp fun h => by omega
      have nd4 : ws.Nodup := (List.nodup_append.mp (pm4.nodup_iff.mpr ndo)).1
      refine q a r x g t rs ws _ (k'.trans (k3.trans (k4.trans k5))) (P4.new ha _) upd_same (k5.tup P4 _ _ (k4.tup P3 _ _ hr3)) (k5.tup P4 _ _ hr4) ⟨a1, b1⟩ ⟨t1, t2⟩ t3 (by omega) (rising_of nd3 up3) (fun y hy => pm3.mem_iff.mp (List.mem_append_left _ hy)) (by omega) (rising_of nd4 up4) fun y hy => ?_
      have hm := hall y (pm4.mem_iff.mp (List.mem_append_left _ hy))
      exact ⟨hm.1, by omega, hm.2.2⟩
end
end Deed

namespace Deed
open PySem PySem.Spec PyProof.Rows L2
def rLenS (K : PySem.W.Frag) : List V → Hp → VK → Prop := fun xs H Q => ∃ p ys, xs = [.ref p] ∧ (SqL K H p ys ∨ SqT K H p ys) ∧ Q (.int ys.length) H
section
variable {P : Program} {w : World} {K : PySem.W.Frag} {mg : Str → Option Value} {base : Heap} {fDr fFe fDy fDe : Addr} {dDr dFe dDy dDe : FuncData}
abbrev DeedD (K : PySem.W.Frag) (mg : Str → Option Value) := Df K mg "_law_deed" sDeed ["_law_pen_here", "_law_folk_here", "_law_deeds"]
/-! ### an entry -/
abbrev sEntry : Stmt := topS 16
abbrev nEntry : List Str := ["_law_pen_here", "_law_folk_here", "_law_number", "_law_deeds", "_law_acts", "_law_head", "_law_way", "_law_word"]
abbrev pEntry : List Str := ["_law_pen_here", "_law_folk_here", "_law_number", "_law_deeds", "_law_acts"]
theorem scEntry : FnScope nEntry pEntry (defScope sEntry) := ⟨rfl, rfl, rfl, by decide +kernel, rfl, by decide +kernel, by decide +kernel⟩
def spEntry (K : PySem.W.Frag) : Sp := fun vs H Q _ => ∃ (p fk ld la : Addr) (num : Int) (n : Nat) (ds as : List Int), vs = [.ref p, .ref fk, .int num, .ref ld, .ref la] ∧ PenAt H p ∧ FolkAt H fk n ∧ 2 ≤ n ∧ n ≤ 6 ∧ H ld = some (.lst (ds.map V.int)) ∧ ld ≠ p ∧ H la = some (.lst (as.map V.int)) ∧ la ≠ p ∧ ds.Nodup ∧ ds.length ≤ 1000 ∧ as.length ≤ 1000 ∧
  (∀ d ∈ ds, d < num) ∧ (∀ d ∈ as, d < num) ∧ ∀ a (e : En) H', Kp p H H' → PenAt H' p → EntAt H' a e → e.num = num → EnOk n ds as e → Q (.ref a) H'
theorem ok_entry {f : Addr} {fd : FuncData} {k : Nat} (F : Fun K "_law_entry" "_law_entry" sEntry f fd) (D : DrawD K mg fDr dDr) (DF : FewD K mg fFe dFe) (DY : DayD K mg fDy dDy) (DD : DeedD K mg fDe dDe) (B : Bi mg) : FnOk P w K mg base CX0 (k + 4) f fd pEntry (spEntry K) := by
  have G : FnOk P w K mg base CX0 (k + 1) fDr dDr ["_law_pen_here", "_law_bound"] spDraw := ok_draw D.F
  have GY : FnOk P w K mg base CX0 (k + 2) fDy dDy ["_law_pen_here"] spDay := ok_day DY.F D
  have GD : FnOk P w K mg base CX0 (k + 3) fDe dDe ["_law_pen_here", "_law_folk_here", "_law_deeds"] (spDeed K) := ok_deed DD.F D DF B
  refine F.ok scEntry (fun vs H Q E h => ?_) (fun cdv A outer s H vs Q E hr h => ?_)
  · obtain ⟨p, fk, ld, la, num, n, ds, as, rfl, _⟩ := h
    rfl
  · obtain ⟨p, fk, ld, la, num, n, ds, as, rfl, hP, hF, hn2, hn6, hld, nld, hla, nla, hnd, hdl, hal, hdn, han, q⟩ := h
    have hr1 : Room (k + 1) _ := hr.mono (by omega)
    have hr2 : Room (k + 2) _ := hr.mono (by omega)
    refine ⟨_, pss_cons (ps_set (i := 5) scEntry.nd rfl (.inl rfl) (pe_tup (pa_cons (pv 2) (pa_cons (pe_call GY hr2 (by rfl) DY.g DY.F.kp DY.b .nil pass0 (pa_cons (pv 0) pa_nil)) (pa_cons (pe_call GY hr2 (by rfl) DY.g DY.F.kp DY.b .nil pass0 (pa_cons (pv 0) pa_nil)) (pa_cons (pe_call G hr1 (by rfl) D.g D.F.kp D.b .nil pass0 (pa_cons (pv 0) (pa_cons pe_int pa_nil))) pa_nil))))))
      (pss_cons (ps_set (i := 6) scEntry.nd rfl (.inl rfl) (pe_call G hr1 (by rfl) D.g D.F.kp D.b .nil pass0 (pa_cons (pv 0) (pa_cons pe_int pa_nil))))
      (pss_cons (ps_if (PW.pt (pw_or (pt_cmpR (op_eqD hr.units) (pv 3) (pe_lst pa_nil) (nomark _)) (pw_or1 (pt_cmpR op_lt (pv 6) pe_int (nomark _)))))
        (pss_one (ps_ret (pe_op op_catT (pe_op op_catT (pv 5) (pe_tup (pa_cons pe_str pa_nil))) (pe_call GD hr (by rfl) DD.g DD.F.kp DD.b .nil pass0 (pa_cons (pv 0) (pa_cons (pv 1) (pa_cons (pv 3) pa_nil))))))) pss_nil)
      (pss_cons (ps_if (PW.pt (pw_or (pt_cmpR (op_eqD hr.units) (pv 4) (pe_lst pa_nil) (nomark _)) (pw_or1 (pt_cmpR op_lt (pv 6) pe_int (nomark _)))))
        (pss_cons (ps_set (i := 7) scEntry.nd rfl (.inl rfl) (pe_ix ix_list (pe_lst (pa_cons pe_str (pa_cons pe_str pa_nil))) (pe_call G hr1 (by rfl) D.g D.F.kp D.b .nil pass0 (pa_cons (pv 0) (pa_cons pe_int pa_nil))) (fun _ _ => rfl)))
        (pss_one (ps_ret (pe_op op_catT (pv 5) (pe_tup (pa_cons (pv 7) (pa_cons (pe_ix ix_list (pv 3) (pe_call G hr1 (by rfl) D.g D.F.kp D.b .nil pass0 (pa_cons (pv 0) (pa_cons (pe_callB call_len_seq (by rfl) B.len PySem.boot_len (pa_cons (pv 3) pa_nil)) pa_nil))) (fun _ _ => rfl)) pa_nil))))))) pss_nil)
      (pss_one (ps_ret (pe_op op_catT (pv 5) (pe_tup (pa_cons pe_str (pa_cons (pe_ix ix_list (pv 4) (pe_call G hr1 (by rfl) D.g D.F.kp D.b .nil pass0 (pa_cons (pv 0) (pa_cons (pe_callB call_len_seq (by rfl) B.len PySem.boot_len (pa_cons (pv 4) pa_nil)) pa_nil))) (fun _ _ => rfl)) pa_nil))))))))), ?_⟩
    -- head
    refine ⟨_, rfl, _, rfl, p, rfl, hP, fun v1 H1 k1 P1 a1 b1 => ?_⟩
    refine ⟨_, rfl, p, rfl, P1, fun v2 H2 k2 P2 a2 b2 => ?_⟩
    refine ⟨_, rfl, p, 4, rfl, P2, by decide, by decide, fun v3 H3 k3 P3 a3 b3 => ?_⟩
    refine ⟨(by show 4 ≤ sizeLine; decide), fun h hh => ?_⟩
    have kh : Kp p H3 (upd H3 h (.tup [.int num, .int v1, .int v2, .int v3])) := Kp.new hh _
    have Ph := P3.new hh (.tup [.int num, .int v1, .int v2, .int v3])
    have eh : (upd H3 h (.tup [.int num, .int v1, .int v2, .int v3])) h = some (.tup [.int num, .int v1, .int v2, .int v3]) := upd_same
    have kA : Kp p H (upd H3 h (.tup [.int num, .int v1, .int v2, .int v3])) := k1.trans (k2.trans (k3.trans kh))
    generalize (upd H3 h (.tup [.int num, .int v1, .int v2, .int v3])) = Hh at kh Ph eh kA
    -- way
    refine ⟨_, rfl, p, 12, rfl, Ph, by decide, by decide, fun way H4 k4 P4 a4 b4 => ?_⟩
    have kB := kA.trans k4
    have e4 := k4.tup Ph _ _ eh
    -- deeds == []
    refine ⟨_, rfl, Nat.zero_le _, fun z hz => ?_⟩
    have kz : Kp p H4 (upd H4 z (.lst [])) := Kp.new hz _
    have Pz := P4.new hz (.lst [])
    have ez : (upd H4 z (.lst [])) z = some (.lst []) := upd_same
    have ehz := kz.tup P4 _ _ e4
    have kC := kB.trans kz
    generalize (upd H4 z (.lst [])) = Hz at kz Pz ez ehz kC
    refine ⟨.list (ds.map .int), .list (([] : List Int).map .int), .lst (SqL.of (kC _ _ nld hld)) (dp_ints ds), .lst (SqL.of ez) (dp_ints []), shaped_ints ds, shaped_ints [], _, rfl, ?_⟩
    rw [eqv_ints]
    refine ite2 (fun c => ?dw1) (fun c => (⟨_, rfl, _, _, rfl, rfl, _, rfl, ite2 (fun c2 => ?dw2) (fun c2 => ?nx)⟩))
    case nx =>
      have hdne : ds ≠ [] := fun e0 => c (decide_eq_true e0)
      have hdpos : 0 < ds.length := List.length_pos_iff.mpr hdne
      refine ⟨_, rfl, Nat.zero_le _, fun y hy => ?_⟩
      have ky : Kp p Hz (upd Hz y (.lst [])) := Kp.new hy _
      have Py := Pz.new hy (.lst [])
      have ey : (upd Hz y (.lst [])) y = some (.lst []) := upd_same
      have ehy := ky.tup Pz _ _ ehz
      have kD := kC.trans ky
      generalize (upd Hz y (.lst [])) = Hy at ky Py ey ehy kD
      refine ⟨.list (as.map .int), .list (([] : List Int).map .int), .lst (SqL.of (kD _ _ nla hla)) (dp_ints as), .lst (SqL.of ey) (dp_ints []), shaped_ints as, shaped_ints [], _, rfl, ?_⟩
      rw [eqv_ints]
      refine ite2 (fun c3 => ?pv1) (fun c3 => (⟨_, rfl, _, _, rfl, rfl, _, rfl, ite2 (fun c4 => ?pv2) (fun c4 => ?un)⟩))
      case un =>
        have hane : as ≠ [] := fun e0 => c3 (decide_eq_true e0)
        have hapos : 0 < as.length := List.length_pos_iff.mpr hane
        have hml : (as.map V.int).length = as.length := List.length_map _
        refine ⟨_, rfl, _, rfl, _, rfl, _, rfl, la, _, rfl, .inl (SqL.of (kD _ _ nla hla)), p, _, rfl, Py, by omega, by omega, fun i H5 k5 P5 a5 b5 => ?_⟩
        rw [hml] at b5
        have hk : i.toNat < as.length := by omega
        refine ⟨la, _, i, .int as[i.toNat], rfl, rfl, SqL.of ((kD.trans k5) _ _ nla hla), at_of (j := i.toNat) (by omega) (by rw [List.getElem?_map, List.getElem?_eq_getElem hk] <;> rfl), (by show 2 ≤ sizeLine; decide), fun u hu => ?_⟩
        have ku : Kp p H5 (upd H5 u (.tup [.str "undone", .int as[i.toNat]])) := Kp.new hu _
        refine ⟨h, u, _, _, rfl, rfl, SqT.of (ku.tup P5 _ _ (k5.tup Py _ _ ehy)), SqT.of upd_same, List.cons_ne_nil _ _, (by show 6 ≤ sizeLine; decide), fun z0 => absurd z0 (List.cons_ne_nil _ _), fun _ t ht => ?_⟩
        refine q t ⟨num, v1, v2, v3, .act "undone" as[i.toNat]⟩ _ (kD.trans (k5.trans (ku.trans (Kp.new ht _)))) ((P5.new hu _).new ht _) upd_same rfl ?_
        exact ⟨⟨a1, b1⟩, ⟨a2, b2⟩, ⟨a3, by show v3 ≤ 3; omega⟩, .inl ⟨rfl, List.getElem_mem hk⟩, han _ (List.getElem_mem hk)⟩
      all_goals
        refine ⟨(by show 2 ≤ sizeLine; decide), fun m hm => ?_⟩
        refine ⟨_, rfl, p, 2, rfl, Py.new hm _, by decide, by decide, fun v5 H5 k5 P5 a5 b5 => ?_⟩
        obtain ⟨_, g5, x, rfl, hx⟩ := pick (xs := [.str "paid", .str "void"]) (fun y => ∃ x : Str, y = .str x ∧ (x = "paid" ∨ x = "void")) a5 b5 (am1 ⟨_, rfl, .inl rfl⟩ (am1 ⟨_, rfl, .inr rfl⟩ am0))
        refine ⟨m, _, v5, _, rfl, rfl, SqL.of (k5 _ _ (Py.free hm) upd_same), g5, ?_⟩
        have kE := kD.trans ((Kp.new hm _).trans k5)
        have eh5 := k5.tup (Py.new hm _) _ _ ((Kp.new (p := p) hm _).tup Py _ _ ehy)
        have hml : (ds.map V.int).length = ds.length := List.length_map _
        refine ⟨_, rfl, _, rfl, _, rfl, _, rfl, _, rfl, ld, _, rfl, .inl (SqL.of (kE _ _ nld hld)), p, _, rfl, P5, by omega, by omega, fun i H6 k6 P6 a6 b6 => ?_⟩
        rw [hml] at b6
        have hk : i.toNat < ds.length := by omega
        refine ⟨ld, _, i, .int ds[i.toNat], rfl, rfl, SqL.of ((kE.trans k6) _ _ nld hld), at_of (j := i.toNat) (by omega) (by rw [List.getElem?_map, List.getElem?_eq_getElem hk] <;> rfl), (by show 2 ≤ sizeLine; decide), fun u hu => ?_⟩
        have ku : Kp p H6 (upd H6 u (.tup [.str x, .int ds[i.toNat]])) := Kp.new hu _
        refine ⟨h, u, _, _, rfl, rfl, SqT.of (ku.tup P6 _ _ (k6.tup P5 _ _ eh5)), SqT.of upd_same, List.cons_ne_nil _ _, (by show 6 ≤ sizeLine; decide), fun z0 => absurd z0 (List.cons_ne_nil _ _), fun _ t ht => ?_⟩
        refine q t ⟨num, v1, v2, v3, .act x ds[i.toNat]⟩ _ (kE.trans (k6.trans (ku.trans (Kp.new ht _)))) ((P6.new hu _).new ht _) upd_same rfl ?_
        exact ⟨⟨a1, b1⟩, ⟨a2, b2⟩, ⟨a3, by show v3 ≤ 3; omega⟩, .inr ⟨hx, List.getElem_mem hk⟩, hdn _ (List.getElem_mem hk)⟩
    all_goals
      refine ⟨_, rfl, (by show 1 ≤ sizeLine; decide), fun u hu => ?_⟩
      have ku : Kp p Hz (upd Hz u (.tup [.str "deed"])) := Kp.new hu _
      refine ⟨h, u, _, _, rfl, rfl, SqT.of (ku.tup Pz _ _ ehz), SqT.of upd_same, List.cons_ne_nil _ _, (by show 5 ≤ sizeLine; decide), fun z0 => absurd z0 (List.cons_ne_nil _ _), fun _ t ht => ?_⟩
      have Pu := Pz.new hu (.tup [.str "deed"])
      have kt : Kp p (upd Hz u (.tup [.str "deed"])) (upd (upd Hz u (.tup [.str "deed"])) t (.tup ([.int num, .int v1, .int v2, .int v3] ++ [.str "deed"]))) := Kp.new ht _
      have Pt := Pu.new ht (.tup ([.int num, .int v1, .int v2, .int v3] ++ [.str "deed"]))
      have kE := kC.trans (ku.trans kt)
      refine ⟨_, rfl, _, rfl, _, rfl, p, fk, ld, n, ds, rfl, Pt, hF.kp kE hP, hn2, hn6, kE _ _ nld hld, nld, hnd, hdl, fun a r x g tk rs ws H6 k6 P6 ea er ex hg htk hgt hrl hrp hrd hwl hwp hw => ?_⟩
      have et6 := k6.tup Pt _ _ (upd_same (H := upd Hz u (.tup [.str "deed"])) (a := t))
      refine ⟨t, a, _, _, rfl, rfl, SqT.of et6, SqT.of ea, List.cons_ne_nil _ _, (by show 9 ≤ sizeLine; decide), fun z0 => absurd z0 (List.cons_ne_nil _ _), fun _ b hb => ?_⟩
      have kb : Kp p H6 (upd H6 b (.tup (([.int num, .int v1, .int v2, .int v3] ++ [.str "deed"]) ++ [.int g, .int tk, .ref r, .ref x]))) := Kp.new hb _
      refine q b ⟨num, v1, v2, v3, .deed g tk rs ws⟩ _ (kE.trans (k6.trans kb)) (P6.new hb _) ⟨r, x, upd_same, kb.tup P6 _ _ er, kb.tup P6 _ _ ex⟩ rfl ?_
      exact ⟨⟨a1, b1⟩, ⟨a2, b2⟩, ⟨a3, by show v3 ≤ 3; omega⟩, hg, htk, hgt, hrl, hrp, fun y hy => ⟨hrd y hy, hdn _ (hrd y hy)⟩, hwl, hwp, hw⟩
/-! ### in another order -/
abbrev sMixed : Stmt := topS 17
abbrev nMixed : List Str := ["_law_pen_here", "_law_some", "_law_left", "_law_k"]
theorem scMixed : FnScope nMixed ["_law_pen_here", "_law_some"] (defScope sMixed) := ⟨rfl, rfl, rfl, by decide +kernel, rfl, by decide +kernel, by decide +kernel⟩
def spMixed (K : PySem.W.Frag) : Sp := fun vs H Q _ => ∃ (p a : Addr) (xs : List V), vs = [.ref p, .ref a] ∧ PenAt H p ∧ (SqL K H a xs ∨ SqT K H a xs) ∧ xs.length ≤ 1000 ∧
  ∀ l (ys : List V) H', Kp p H H' → PenAt H' p → H l = none → H' l = some (.lst ys) → ys.Perm xs → Q (.ref l) H'
theorem ok_mixed {f : Addr} {fd : FuncData} {k : Nat} (F : Fun K "_law_mixed" "_law_mixed" sMixed f fd) (D : DrawD K mg fDr dDr) (B : Bi mg) : FnOk P w K mg base CX0 (k + 2) f fd ["_law_pen_here", "_law_some"] (spMixed K) := by
  have G : FnOk P w K mg base CX0 (k + 1) fDr dDr ["_law_pen_here", "_law_bound"] spDraw := ok_draw D.F
  refine F.ok scMixed (fun vs H Q E h => ?_) (fun cdv A outer s H vs Q E hr h => ?_)
  · obtain ⟨p, a, xs, rfl, _⟩ := h
    rfl
  · obtain ⟨p, a, xs, rfl, hP, hS, hxl, q⟩ := h
    refine ⟨_, pss_cons (ps_set (i := 2) scMixed.nd rfl (.inr rfl) (pe_callTy call_list_of (by rfl) B.list (by decide +kernel) (pa_cons (pv 1) pa_nil)))
      (pss_one (ps_ret (pe_lc (own := [("_law_k", 3)]) (g := gName 3) (by rfl) scMixed.nd (pi_range1 (by rfl) B.range (pa_cons (pe_callB call_len_seq (by rfl) B.len PySem.boot_len (pa_cons (pv 2) pa_nil)) pa_nil)) (blkOk_by (own := [("_law_k", 3)]) (N := nMixed) (sc := defScope sMixed) (by decide +kernel)) (fun _ _ _ _ _ => pg_name (i := 3) scMixed.nd rfl (Or.inl rfl)) (fun _ _ _ _ _ => pts_nil)
        (fun _ _ _ _ _ => show PE _ _ (tBM K "list" rPopAt (tVar 2) (tCons (tCall spDraw [] E0 (tCons (tVar 0) (tCons (tCB (rLenS K) (tCons (tVar 2) tNil)) tNil))) tNil)) from pe_bm PySem.F.plainAttrs_list PySem.F.slot_list_pop PySem.F.type_list_pop mt_popAt (pv 2) (pa_cons (pe_call G hr (by rfl) D.g D.F.kp D.b .nil pass0 (pa_cons (pv 0) (pa_cons (pe_callB call_len_seq (by rfl) B.len PySem.boot_len (pa_cons (pv 2) pa_nil)) pa_nil))) pa_nil))))), ?_⟩
    refine ⟨_, rfl, a, _, rfl, hS, fun l hl => ?_⟩
    have nl : l ≠ p := hP.free hl
    have el : (upd H l (.lst xs)) l = some (.lst xs) := upd_same
    refine ⟨_, rfl, l, xs, rfl, .inl (SqL.of el), _, rfl, by omega, by omega, fun o no => ?_⟩
    have no' : o ≠ p := (hP.new hl _).free no
    have nlo : l ≠ o := fun z => by
      rw [← z, el] at no
      cases no
    have hno : H o = none := by
      rw [upd_ne nlo.symm] at no
      exact no
    refine lc_range (lo := 0) (n := ((xs.length : Nat) : Int).toNat) (fun i H' => ∃ ys ls : List V, H' o = some (.lst ys) ∧ H' l = some (.lst ls) ∧ Kp p H H' ∧ PenAt H' p ∧ ys.length = i ∧ (ys ++ ls).Perm xs)
      ⟨[], xs, upd_same, by rw [upd_ne nlo]; exact el, (Kp.new hl _).trans (Kp.new no _), (hP.new hl _).new no _, rfl, List.Perm.refl _⟩ ?_ ?_
    · rintro i H' hi ⟨ys, ls, e1, e2, k', P', hyl, hpm⟩
      have hll : ls.length = xs.length - i := by
        have := hpm.length_eq
        rw [List.length_append] at this
        omega
      refine ⟨rfl, ?_⟩
      unfold tYes
      dsimp only
      rw [if_pos rfl]
      refine ⟨_, rfl, .inl ⟨rfl, _, SqL.of e2⟩, _, rfl, _, rfl, l, ls, rfl, .inl (SqL.of e2), p, _, rfl, P', by omega, by omega, fun v2 H2 k2 P2 a2 b2 => ?_⟩
      have e1' := k2 _ _ no' e1
      have e2' := k2 _ _ nl e2
      have hk : v2.toNat < ls.length := by omega
      refine ⟨l, _, v2, v2.toNat, ls[v2.toNat], rfl, rfl, e2', by omega, by omega, seqIx a2 (by omega), List.getElem?_eq_getElem hk, ?_⟩
      refine ⟨ys, by rw [upd_ne nlo.symm]; exact e1', small1000 (by omega), ys ++ [ls[v2.toNat]], ls.eraseIdx v2.toNat, upd_same, by rw [upd_ne nlo, upd_same], fun b z n1 e => ?_, ?_, ?_, ?_⟩
      · rw [upd_ne (ne_of_none e hno), upd_ne (ne_of_none e hl)]
        exact (k'.trans k2) _ _ n1 e
      · obtain ⟨x1, x2, x3, x4, z1, z2⟩ := P2
        exact ⟨x1, x2, x3, x4, by rw [upd_ne no'.symm, upd_ne nl.symm]; exact z1, z2⟩
      · rw [List.length_append, hyl]
        rfl
      · have h1 : (ls[v2.toNat] :: ls.eraseIdx v2.toNat).Perm ls := perm_erase (List.getElem?_eq_getElem hk)
        refine List.Perm.trans ?_ hpm
        rw [List.append_assoc]
        exact List.Perm.append_left ys h1
    · rintro H' ⟨ys, ls, e1, e2, k', P', hyl, hpm⟩
      refine q o ys H' k' P' hno e1 ?_
      have h0 : ls = [] := by
        have := hpm.length_eq
        rw [List.length_append] at this
        exact List.length_eq_zero_iff.mp (by omega)
      rw [h0, List.append_nil] at hpm
      exact hpm
end
end Deed

namespace Deed
open PySem PySem.Spec PyProof.Rows L2
theorem perm_pairs {α β : Type} (f : α → β) {ys xs : List β} (h : ys.Perm xs) : ∀ zs : List α, xs = zs.map f → ∃ zs' : List α, ys = zs'.map f ∧ zs'.Perm zs := by
  induction h with
  | nil =>
    intro zs e
    cases zs with
    | nil => exact ⟨[], rfl, List.Perm.refl _⟩
    | cons z r => cases e
  | cons x _ ih =>
    intro zs e
    cases zs with
    | nil => cases e
    | cons z r =>
      rw [List.map_cons] at e
      injection e with e1 e2
      obtain ⟨zs', h1, h2⟩ := ih r e2
      exact ⟨z :: zs', by rw [List.map_cons, ← h1, e1], h2.cons z⟩
  | swap x y l =>
    intro zs e
    match zs, e with
    | [], e => cases e
    | [_], e => cases e
    | a :: b :: r, e =>
      rw [List.map_cons, List.map_cons] at e
      injection e with e1 e2
      injection e2 with e2 e3
      exact ⟨b :: a :: r, by rw [List.map_cons, List.map_cons, ← e1, ← e2, ← e3], List.Perm.swap _ _ _⟩
  | trans _ _ ih1 ih2 =>
    intro zs e
    obtain ⟨z1, h1, h2⟩ := ih2 zs e
    obtain ⟨z2, h3, h4⟩ := ih1 z1 h1
    exact ⟨z2, h3, h4.trans h2⟩
def dn (es : List En) : List Int := (es.filter (·.isDeed)).map (·.num)
def an (es : List En) : List Int := (es.filter (fun e => !e.isDeed)).map (·.num)
theorem dn_snoc (es : List En) (e : En) : dn (es ++ [e]) = dn es ++ (if e.isDeed then [e.num] else []) := by
  unfold dn
  rw [List.filter_append, List.map_append]
  cases h : e.isDeed <;> simp [List.filter, h]
theorem an_snoc (es : List En) (e : En) : an (es ++ [e]) = an es ++ (if e.isDeed then [] else [e.num]) := by
  unfold an
  rw [List.filter_append, List.map_append]
  cases h : e.isDeed <;> simp [List.filter, h]
theorem dn_sub (es : List En) : ∀ x ∈ dn es, x ∈ es.map (·.num) := fun x hx => by
  obtain ⟨e, he, rfl⟩ := List.mem_map.mp hx
  exact List.mem_map.mpr ⟨e, (List.mem_filter.mp he).1, rfl⟩
theorem an_sub (es : List En) : ∀ x ∈ an es, x ∈ es.map (·.num) := fun x hx => by
  obtain ⟨e, he, rfl⟩ := List.mem_map.mp hx
  exact List.mem_map.mpr ⟨e, (List.mem_filter.mp he).1, rfl⟩
theorem dn_nodup {es : List En} (h : (es.map (fun e => e.num)).Nodup) : (dn es).Nodup := by
  have h1 : (es.filter (fun e => e.isDeed)).Sublist es := List.filter_sublist
  exact (h1.map (fun e => e.num)).nodup h
theorem dn_len (es : List En) : (dn es).length ≤ es.length := by
  unfold dn
  rw [List.length_map]
  exact List.length_filter_le _ _
theorem an_len (es : List En) : (an es).length ≤ es.length := by
  unfold an
  rw [List.length_map]
  exact List.length_filter_le _ _
theorem mem_dn {es : List En} {x : Int} : x ∈ dn es ↔ ∃ e ∈ es, e.isDeed = true ∧ e.num = x := by
  unfold dn
  simp only [List.mem_map, List.mem_filter]
  constructor
  · rintro ⟨e, ⟨h1, h2⟩, h3⟩
    exact ⟨e, h1, h2, h3⟩
  · rintro ⟨e, h1, h2, h3⟩
    exact ⟨e, ⟨h1, h2⟩, h3⟩
theorem mem_an {es : List En} {x : Int} : x ∈ an es ↔ ∃ e ∈ es, e.isDeed = false ∧ e.num = x := by
  unfold an
  simp only [List.mem_map, List.mem_filter, Bool.not_eq_true']
  constructor
  · rintro ⟨e, ⟨h1, h2⟩, h3⟩
    exact ⟨e, h1, h2, h3⟩
  · rintro ⟨e, h1, h2, h3⟩
    exact ⟨e, ⟨h1, h2⟩, h3⟩
/-- entries of a book of n folk -/
structure BkOk (n : Nat) (es : List En) : Prop where
  nd : (es.map (·.num)).Nodup
  rng : ∀ e ∈ es, 0 ≤ e.num ∧ e.num ≤ 30
  ok : ∀ e ∈ es, EnOk n (dn es) (an es) e
theorem BkOk.perm {n : Nat} {es es' : List En} (h : BkOk n es) (p : es'.Perm es) : BkOk n es' := by
  refine ⟨(p.map _).nodup_iff.mpr h.nd, fun e he => h.rng e (p.mem_iff.mp he), fun e he => (h.ok e (p.mem_iff.mp he)).mono (fun x hx => ?_) fun x hx => ?_⟩
  · obtain ⟨e', h1, h2⟩ := mem_dn.mp hx
    exact mem_dn.mpr ⟨e', p.mem_iff.mpr h1, h2⟩
  · obtain ⟨e', h1, h2⟩ := mem_an.mp hx
    exact mem_an.mpr ⟨e', p.mem_iff.mpr h1, h2⟩
def En.word (e : En) : Str := match e.kd with
  | .deed _ _ _ _ => "deed"
  | .act x _ => x
theorem EnOk.word {n : Nat} {ds as : List Int} {e : En} (h : EnOk n ds as e) : e.word = "deed" ↔ e.isDeed = true := by
  unfold En.word En.isDeed
  cases hk : e.kd with
  | deed g t rs ws => simp
  | act x o =>
    have h4 := h.2.2.2
    rw [hk] at h4
    simp only [Bool.false_eq_true, iff_false]
    rcases h4.1 with ⟨z, _⟩ | ⟨z | z, _⟩ <;> rw [z] <;> decide
/-- the first places of an entry -/
theorem EntAt.tup {H : Hp} {a : Addr} {e : En} (h : EntAt H a e) : ∃ xs, H a = some (.tup xs) ∧ atI xs 0 = some (.int e.num) ∧ atI xs 1 = some (.int e.day) ∧ atI xs 2 = some (.int e.wri) ∧ atI xs 3 = some (.int e.hand) ∧ atI xs 4 = some (.str e.word) := by
  unfold EntAt at h
  unfold En.word
  cases hk : e.kd with
  | deed g t rs ws =>
    rw [hk] at h
    obtain ⟨r, w, h1, _⟩ := h
    exact ⟨_, h1, atI_nat (j := 0) rfl, atI_nat (j := 1) rfl, atI_nat (j := 2) rfl, atI_nat (j := 3) rfl, atI_nat (j := 4) rfl⟩
  | act x o =>
    rw [hk] at h
    exact ⟨_, h, atI_nat (j := 0) rfl, atI_nat (j := 1) rfl, atI_nat (j := 2) rfl, atI_nat (j := 3) rfl, atI_nat (j := 4) rfl⟩
theorem FolkAt.kpT {H H' : Hp} {t : Addr} {n : Nat} (h : FolkAt H t n) (k : KpT H H') : FolkAt H' t n := by
  obtain ⟨xs, h1, h2, h3⟩ := h
  refine ⟨xs, k _ _ h1, h2, fun x hx => ?_⟩
  obtain ⟨a, b, d, e, h4, r⟩ := h3 x hx
  exact ⟨a, b, d, e, k _ _ h4, r⟩
theorem KpT.lst {H : Hp} {l : Addr} {xs : List V} (e : H l = some (.lst xs)) (o : HO) : KpT H (upd H l o) := fun b ys h => by
  have nb : b ≠ l := fun z => by
    rw [z, e] at h
    cases h
  rw [upd_ne nb]
  exact h
theorem KpT.refl (H : Hp) : KpT H H := fun _ _ h => h
theorem Kp.over {p l : Addr} {H H' : Hp} (k : Kp p H H') (n : H l = none) (o : HO) : Kp p H (upd H' l o) := fun b u n1 e => by
  rw [upd_ne (ne_of_none e n)]
  exact k _ _ n1 e
theorem PenAt.put {p l : Addr} {H : Hp} (h : PenAt H p) (n : l ≠ p) (o : HO) : PenAt (upd H l o) p := by
  obtain ⟨x1, x2, x3, x4, z1, z2⟩ := h
  exact ⟨x1, x2, x3, x4, by rw [upd_ne n.symm]; exact z1, z2⟩
abbrev refs (zs : List (Addr × En)) : List V := zs.map fun z => .ref z.1
abbrev ens (zs : List (Addr × En)) : List En := zs.map (·.2)
/-- a book at b -/
structure BookAt (H : Hp) (b fk t : Addr) (n : Nat) (age : Int) (zs : List (Addr × En)) : Prop where
  at_ : H b = some (.tup [.ref fk, .int age, .ref t])
  folk : FolkAt H fk n
  n2 : 2 ≤ n
  n6 : n ≤ 6
  age0 : 0 ≤ age
  age1 : age ≤ 9999
  ents : H t = some (.tup (refs zs))
  ent : ∀ z ∈ zs, EntAt H z.1 z.2
  ok : BkOk n (ens zs)
  len : zs.length ≤ 16
theorem BookAt.kp {H H' : Hp} {b fk t : Addr} {n : Nat} {age : Int} {zs : List (Addr × En)} (h : BookAt H b fk t n age zs) (k : KpT H H') : BookAt H' b fk t n age zs :=
  ⟨k _ _ h.at_, h.folk.kpT k, h.n2, h.n6, h.age0, h.age1, k _ _ h.ents, fun z hz => (h.ent z hz).kp k, h.ok, h.len⟩
section
variable {P : Program} {w : World} {K : PySem.W.Frag} {mg : Str → Option Value} {base : Heap} {fDr fFe fDy fDe fEn fFo fMi : Addr} {dDr dFe dDy dDe dEn dFo dMi : FuncData}
abbrev EntryD (K : PySem.W.Frag) (mg : Str → Option Value) := Df K mg "_law_entry" sEntry pEntry
abbrev FolkD (K : PySem.W.Frag) (mg : Str → Option Value) := Df K mg "_law_folk" sFolk ["_law_pen_here", "_law_least"]
abbrev MixedD (K : PySem.W.Frag) (mg : Str → Option Value) := Df K mg "_law_mixed" sMixed ["_law_pen_here", "_law_some"]
/-! ### a book -/
abbrev sBook : Stmt := topS 18
abbrev nBook : List Str := ["_law_pen_here", "_law_most", "_law_folk_here", "_law_number", "_law_deeds", "_law_acts", "_law_found", "_law_k", "_law_entry_here"]
theorem scBook : FnScope nBook ["_law_pen_here", "_law_most"] (defScope sBook) := ⟨rfl, rfl, rfl, by decide +kernel, rfl, by decide +kernel, by decide +kernel⟩
def spBook : Sp := fun vs H Q _ => ∃ (p : Addr) (most : Int), vs = [.ref p, .int most] ∧ PenAt H p ∧ 0 ≤ most ∧ most ≤ 16 ∧
  ∀ b fk t n age zs H', Kp p H H' → PenAt H' p → BookAt H' b fk t n age zs → (zs.length : Int) ≤ most → Q (.ref b) H'
theorem ok_book {f : Addr} {fd : FuncData} {k : Nat} (F : Fun K "_law_book" "_law_book" sBook f fd) (D : DrawD K mg fDr dDr) (DF : FewD K mg fFe dFe) (DY : DayD K mg fDy dDy) (DD : DeedD K mg fDe dDe) (DE : EntryD K mg fEn dEn) (DO : FolkD K mg fFo dFo) (DM : MixedD K mg fMi dMi) (B : Bi mg) :
    FnOk P w K mg base CX0 (k + 5) f fd ["_law_pen_here", "_law_most"] spBook := by
  have G : FnOk P w K mg base CX0 (k + 1) fDr dDr ["_law_pen_here", "_law_bound"] spDraw := ok_draw D.F
  have GE : FnOk P w K mg base CX0 (k + 4) fEn dEn pEntry (spEntry K) := ok_entry DE.F D DF DY DD B
  have GO : FnOk P w K mg base CX0 (k + 2) fFo dFo ["_law_pen_here", "_law_least"] spFolk := ok_folk DO.F D B.range B.min B.tuple
  have GM : FnOk P w K mg base CX0 (k + 2) fMi dMi ["_law_pen_here", "_law_some"] (spMixed K) := ok_mixed DM.F D B
  refine F.ok scBook (fun vs H Q E h => ?_) (fun cdv A outer s H vs Q E hr h => ?_)
  · obtain ⟨p, m, rfl, _⟩ := h
    rfl
  · obtain ⟨p, most, rfl, hP, hm0, hm1, q⟩ := h
    have hr1 : Room (k + 1) _ := hr.mono (by omega)
    have hr2 : Room (k + 2) _ := hr.mono (by omega)
    refine ⟨_, pss_cons (ps_par (i := 2) (j := 3) (by rfl) scBook.nd rfl rfl (by decide) rfl rfl (pa_cons (pe_call GO hr2 (by rfl) DO.g DO.F.kp DO.b .nil pass0 (pa_cons (pv 0) (pa_cons pe_int pa_nil))) (pa_cons (pe_call G hr1 (by rfl) D.g D.F.kp D.b .nil pass0 (pa_cons (pv 0) (pa_cons pe_int pa_nil))) pa_nil)) (by rfl))
      (pss_cons (ps_par3 (i := 4) (j := 5) (l := 6) (by rfl) scBook.nd rfl rfl rfl (by decide) (by decide) (by decide) rfl rfl rfl (pa_cons (pe_lst pa_nil) (pa_cons (pe_lst pa_nil) (pa_cons (pe_lst pa_nil) pa_nil))) (by rfl))
      (pss_cons (ps_for PassesOwn.never rfl (pi_range1 rfl B.range (pa_cons (pe_call G hr1 (by rfl) D.g D.F.kp D.b .nil pass0 (pa_cons (pv 0) (pa_cons (pe_op op_add (pv 1) pe_int) pa_nil))) pa_nil)) (pg_name (i := 7) scBook.nd rfl (.inl rfl))
        (pss_cons (ps_set (i := 8) scBook.nd rfl (.inl rfl) (pe_call GE hr (by rfl) DE.g DE.F.kp DE.b .nil pass0 (pa_cons (pv 0) (pa_cons (pv 2) (pa_cons (pv 3) (pa_cons (pv 4) (pa_cons (pv 5) pa_nil)))))))
        (pss_cons (ps_expr (pe_bm PySem.F.plainAttrs_list PySem.F.slot_list_append PySem.F.type_list_append mt_append (pv 6) (pa_cons (pv 8) pa_nil)))
        (pss_cons (ps_if (pt_cmpR op_eq (pe_ix ix_tup (pv 8) pe_int (fun _ _ => rfl)) pe_str (nomark _))
            (pss_one (ps_expr (pe_bm PySem.F.plainAttrs_list PySem.F.slot_list_append PySem.F.type_list_append mt_append (pv 4) (pa_cons (pv 3) pa_nil))))
            (pss_one (ps_expr (pe_bm PySem.F.plainAttrs_list PySem.F.slot_list_append PySem.F.type_list_append mt_append (pv 5) (pa_cons (pv 3) pa_nil)))))
        (pss_one (ps_set (i := 3) scBook.nd rfl (.inl rfl) (pe_op op_add (pe_op op_add (pv 3) pe_int) (pe_ix ix_list (pe_lst (pa_cons pe_int (pa_cons (pe_call G hr1 (by rfl) D.g D.F.kp D.b .nil pass0 (pa_cons (pv 0) (pa_cons pe_int pa_nil))) pa_nil))) (pe_callTy call_int1 (by rfl) B.int (by decide +kernel) (pa_cons (pe_cmpR op_lt (pv 3) (pe_op op_add pe_int (pv 7)) (nomark _)) pa_nil)) (fun _ _ => rfl)))))))))
      (pss_one (ps_ret (pe_tup (pa_cons (pv 2) (pa_cons (pe_call G hr1 (by rfl) D.g D.F.kp D.b .nil pass0 (pa_cons (pv 0) (pa_cons pe_int pa_nil))) (pa_cons (pe_callTy call_tuple_of (by rfl) B.tuple (by decide +kernel) (pa_cons (pe_call GM hr2 (by rfl) DM.g DM.F.kp DM.b .nil pass0 (pa_cons (pv 0) (pa_cons (pv 6) pa_nil))) pa_nil)) pa_nil)))))))), ?_⟩
    refine ⟨_, rfl, p, 2, rfl, hP, by decide, by decide, fun fk n H1 k1 P1 F1 hn2 hn6 => ?_⟩
    have hn2' : 2 ≤ n := by omega
    refine ⟨_, rfl, p, 3, rfl, P1, by decide, by decide, fun num0 H2 k2 P2 a2 b2 => ⟨_, _, rfl, ?_⟩⟩
    have F2 := F1.kp k2 P1
    have k12 := k1.trans k2
    refine ⟨Nat.zero_le _, fun ld hld => ?_⟩
    have nld : ld ≠ p := P2.free hld
    have hldH : H ld = none := by
      cases z : H ld with
      | none => rfl
      | some o => rw [k12 _ _ nld z] at hld; cases hld
    refine ⟨Nat.zero_le _, fun la hla => ?_⟩
    have Pd := P2.new hld (.lst [])
    have nla : la ≠ p := Pd.free hla
    have nda : ld ≠ la := fun z => by
      rw [← z, upd_same] at hla
      cases hla
    have hlaH : H la = none := by
      cases z : H la with
      | none => rfl
      | some o =>
        rw [upd_ne nda.symm, k12 _ _ nla z] at hla
        cases hla
    refine ⟨Nat.zero_le _, fun lf hlf => ⟨_, _, _, rfl, ?_⟩⟩
    have Pa := Pd.new hla (.lst [])
    have nlf : lf ≠ p := Pa.free hlf
    have naf : la ≠ lf := fun z => by
      rw [← z, upd_same] at hlf
      cases hlf
    have ndf : ld ≠ lf := fun z => by
      rw [← z, upd_ne nda, upd_same] at hlf
      cases hlf
    have hlfH : H lf = none := by
      cases z : H lf with
      | none => rfl
      | some o =>
        rw [upd_ne naf.symm, upd_ne ndf.symm, k12 _ _ nlf z] at hlf
        cases hlf
    have k3 : Kp p H2 (upd (upd (upd H2 ld (.lst [])) la (.lst [])) lf (.lst [])) := ((Kp.new hld _).trans (Kp.new hla _)).trans (Kp.new hlf _)
    have P3 := Pa.new hlf (.lst [])
    have e3d : (upd (upd (upd H2 ld (.lst [])) la (.lst [])) lf (.lst [])) ld = some (.lst []) := by rw [upd_ne ndf, upd_ne nda, upd_same]
    have e3a : (upd (upd (upd H2 ld (.lst [])) la (.lst [])) lf (.lst [])) la = some (.lst []) := by rw [upd_ne naf, upd_same]
    have e3f : (upd (upd (upd H2 ld (.lst [])) la (.lst [])) lf (.lst [])) lf = some (.lst []) := upd_same
    generalize (upd (upd (upd H2 ld (.lst [])) la (.lst [])) lf (.lst [])) = H3 at k3 P3 e3d e3a e3f
    refine ⟨_, rfl, _, rfl, _, _, rfl, rfl, p, most + 1, rfl, P3, by omega, by omega, fun many H4 k4 P4 a4 b4 => ?_⟩
    refine ⟨_, rfl, by omega, by omega, ?_⟩
    refine for_range (lo := 0) (n := many.toNat) (fun i σ H' => ∃ y7 y8, ∃ (num : Int) (zs : List (Addr × En)), σ = [some (.ref p), some (.int most), some (.ref fk), some (.int num), some (.ref ld), some (.ref la), some (.ref lf), y7, y8] ∧ Kp p H H' ∧ PenAt H' p ∧ FolkAt H' fk n ∧
        H' ld = some (.lst ((dn (ens zs)).map V.int)) ∧ H' la = some (.lst ((an (ens zs)).map V.int)) ∧ H' lf = some (.lst (refs zs)) ∧ (∀ z ∈ zs, EntAt H' z.1 z.2) ∧ zs.length = i ∧ BkOk n (ens zs) ∧ (∀ e ∈ ens zs, e.num < num) ∧ 0 ≤ num ∧ num ≤ 15 + (i : Int))
      ⟨none, none, num0, [], rfl, k12.trans (k3.trans k4), P4, (F2.kp k3 P2).kp k4 P3, k4 _ _ nld e3d, k4 _ _ nla e3a, k4 _ _ nlf e3f, (fun _ h => nomatch h), rfl, ⟨List.nodup_nil, (fun _ h => nomatch h), (fun _ h => nomatch h)⟩, (fun _ h => nomatch h), a2, by omega⟩ ?_ ?_
    · rintro i σ H' hi ⟨y7, y8, num, zs, rfl, k', P', F', ed, ea, ef, hent, hlen, hok, hlt, hn0, hn1⟩
      have hel : (ens zs).length = i := by rw [List.length_map, hlen]
      have hdl := dn_len (ens zs)
      have hal := an_len (ens zs)
      -- entry_here
      refine ⟨_, rfl, _, rfl, _, rfl, _, rfl, _, rfl, p, fk, ld, la, num, n, dn (ens zs), an (ens zs), rfl, P', F', hn2', hn6, ed, nld, ea, nla, dn_nodup hok.nd, by omega, by omega, fun d hd => ?_, fun d hd => ?_, fun a e H5 k5 P5 E5 hnum hEn => ?_⟩
      · obtain ⟨e, he, rfl⟩ := List.mem_map.mp (dn_sub _ _ hd)
        exact hlt e he
      · obtain ⟨e, he, rfl⟩ := List.mem_map.mp (an_sub _ _ hd)
        exact hlt e he
      have kT5 := k5.tup P'
      have ed5 := k5 _ _ nld ed
      have ea5 := k5 _ _ nla ea
      have ef5 := k5 _ _ nlf ef
      -- found.append
      refine ⟨_, rfl, .inl ⟨rfl, _, SqL.of ef5⟩, _, rfl, lf, _, _, rfl, rfl, ef5, small1000 (by rw [List.length_map]; omega), ?_⟩
      have kT6 := KpT.lst ef5 (.lst (refs zs ++ [.ref a]))
      have P6 := P5.put nlf (.lst (refs zs ++ [.ref a]))
      have k6 := (k'.trans k5).over hlfH (.lst (refs zs ++ [.ref a]))
      have ed6 := (show (upd H5 lf (.lst (refs zs ++ [.ref a]))) ld = H5 ld from upd_ne ndf).trans ed5
      have ea6 := (show (upd H5 lf (.lst (refs zs ++ [.ref a]))) la = H5 la from upd_ne naf).trans ea5
      have ef6 := (show (upd H5 lf (.lst (refs zs ++ [.ref a]))) lf = some (.lst (refs zs ++ [.ref a])) from upd_same)
      have E6 := E5.kp kT6
      have hent6 : ∀ z ∈ zs, EntAt (upd H5 lf (.lst (refs zs ++ [.ref a]))) z.1 z.2 := fun z hz => ((hent z hz).kp kT5).kp kT6
      have F6 := (F'.kpT kT5).kpT kT6
      generalize (upd H5 lf (.lst (refs zs ++ [.ref a]))) = H6 at kT6 P6 k6 ed6 ea6 ef6 E6 hent6 F6
      obtain ⟨xs6, ex6, _, _, _, _, g4⟩ := E6.tup
      refine ⟨_, rfl, a, xs6, 4, _, rfl, rfl, SqT.of ex6, g4, rfl, _, rfl, ?_⟩
      have okE : BkOk n (ens zs ++ [e]) := by
        have hd : ∀ x ∈ dn (ens zs), x ∈ dn (ens zs ++ [e]) := fun x hx => by rw [dn_snoc]; exact List.mem_append_left _ hx
        have ha : ∀ x ∈ an (ens zs), x ∈ an (ens zs ++ [e]) := fun x hx => by rw [an_snoc]; exact List.mem_append_left _ hx
        refine ⟨?_, fun e' he' => ?_, fun e' he' => ?_⟩
        · rw [List.map_append]
          refine List.nodup_append.mpr ⟨hok.nd, List.pairwise_singleton _ _, fun x hx y hy => ?_⟩
          obtain ⟨e', he', rfl⟩ := List.mem_map.mp hx
          have hy' : y = e.num := by simpa using hy
          rw [hy', hnum]
          exact Int.ne_of_lt (hlt e' he')
        · rcases List.mem_append.mp he' with he' | he'
          · exact hok.rng e' he'
          · rw [List.mem_singleton.mp he', hnum]
            omega
        · rcases List.mem_append.mp he' with he' | he'
          · exact (hok.ok e' he').mono hd ha
          · rw [List.mem_singleton.mp he']
            exact hEn.mono hd ha
      have wd := hEn.word
      -- the last row of a turn
      refine ite2 (fun c => ?deed) (fun c => ?act)
      case deed =>
        have hd : e.isDeed = true := wd.mp (by
          have := of_decide_eq_true c
          injection this)
        refine ⟨_, rfl, .inl ⟨rfl, _, SqL.of ed6⟩, _, rfl, ld, _, _, rfl, rfl, ed6, small1000 (by rw [List.length_map]; omega), ?_⟩
        have kT7 := KpT.lst ed6 (.lst ((dn (ens zs)).map V.int ++ [.int num]))
        have P7 := P6.put nld (.lst ((dn (ens zs)).map V.int ++ [.int num]))
        have k7 := k6.over hldH (.lst ((dn (ens zs)).map V.int ++ [.int num]))
        have ea7 := (show (upd H6 ld (.lst ((dn (ens zs)).map V.int ++ [.int num]))) la = H6 la from upd_ne nda.symm).trans ea6
        have ef7 := (show (upd H6 ld (.lst ((dn (ens zs)).map V.int ++ [.int num]))) lf = H6 lf from upd_ne ndf.symm).trans ef6
        have ed7 := (show (upd H6 ld (.lst ((dn (ens zs)).map V.int ++ [.int num]))) ld = some (.lst ((dn (ens zs)).map V.int ++ [.int num])) from upd_same)
        have E7 := E6.kp kT7
        have F7 := F6.kpT kT7
        have hent7 : ∀ z ∈ zs, EntAt (upd H6 ld (.lst ((dn (ens zs)).map V.int ++ [.int num]))) z.1 z.2 := fun z hz => (hent6 z hz).kp kT7
        generalize (upd H6 ld (.lst ((dn (ens zs)).map V.int ++ [.int num]))) = H7 at kT7 P7 k7 ea7 ef7 ed7 E7 F7 hent7
        have dn7 : dn (ens zs) ++ [num] = dn (ens (zs ++ [(a, e)])) := by
          rw [show ens (zs ++ [(a, e)]) = ens zs ++ [e] by simp [ens], dn_snoc, if_pos hd, hnum]
        have an7 : an (ens zs) = an (ens (zs ++ [(a, e)])) := by
          rw [show ens (zs ++ [(a, e)]) = ens zs ++ [e] by simp [ens], an_snoc, if_pos hd, List.append_nil]
        refine ⟨_, rfl, _, _, rfl, rfl, ?_⟩
        refine ⟨_, rfl, p, 2, rfl, P7, by decide, by decide, fun v8 H8 k8 P8 a8 b8 => ?_⟩
        refine ⟨(by show 2 ≤ sizeLine; decide), fun m hm => ?_⟩
        refine ⟨_, rfl, _, rfl, _, _, rfl, rfl, _, _, rfl, rfl, .inr ⟨_, rfl, ?_⟩⟩
        have kM : Kp p H8 (upd H8 m (.lst [.int 0, .int v8])) := Kp.new hm _
        have eM : (upd H8 m (.lst [.int 0, .int v8])) m = some (.lst [.int 0, .int v8]) := upd_same
        have PM := P8.new hm (.lst [.int 0, .int v8])
        generalize (upd H8 m (.lst [.int 0, .int v8])) = H9 at kM eM PM
        have k9 := k8.trans kM
        have kT9 : KpT H7 H9 := k9.tup P7
        obtain ⟨dv, gv, hv⟩ : ∃ dv : Int, atI [V.int 0, V.int v8] (if decide (num < 14 + (0 + (i : Int))) then 1 else 0) = some (.int dv) ∧ 0 ≤ dv ∧ num + 1 + dv ≤ 15 + ((i : Int) + 1) := by
          by_cases hc : num < 14 + (0 + (i : Int))
          · rw [decide_eq_true hc]
            exact ⟨v8, atI_nat (j := 1) rfl, a8, by omega⟩
          · rw [decide_eq_false hc]
            exact ⟨0, atI_nat (j := 0) rfl, by omega, by omega⟩
        refine ⟨m, _, _, _, rfl, rfl, SqL.of eM, gv, _, _, rfl, rfl, ?_⟩
        refine ⟨_, _, num + 1 + dv, zs ++ [(a, e)], rfl, k7.trans k9, PM, F7.kpT kT9, ?_, ?_, ?_, fun z hz => ?_, ?_, ?_, fun e' he' => ?_, ?_, ?_⟩
        · rw [← dn7]
          refine (k9 _ _ nld ed7).trans ?_
          simp
        · rw [← an7]
          refine (k9 _ _ nla ea7).trans ?_
          simp
        · refine (k9 _ _ nlf ef7).trans ?_
          simp [refs]
        · rcases List.mem_append.mp hz with hz | hz
          · exact (hent7 z hz).kp kT9
          · rw [List.mem_singleton.mp hz]
            exact E7.kp kT9
        · rw [List.length_append, hlen]
          rfl
        · rw [show ens (zs ++ [(a, e)]) = ens zs ++ [e] by simp [ens]]
          exact okE
        · rw [show ens (zs ++ [(a, e)]) = ens zs ++ [e] by simp [ens]] at he'
          rcases List.mem_append.mp he' with he' | he'
          · have := hlt e' he'
            omega
          · rw [List.mem_singleton.mp he', hnum]
            omega
        · omega
        · omega
      case act =>
        have hd : e.isDeed = false := by
          cases hh : e.isDeed with
          | false => rfl
          | true =>
            refine absurd (decide_eq_true ?_) c
            rw [wd.mpr hh]
        refine ⟨_, rfl, .inl ⟨rfl, _, SqL.of ea6⟩, _, rfl, la, _, _, rfl, rfl, ea6, small1000 (by rw [List.length_map]; omega), ?_⟩
        have kT7 := KpT.lst ea6 (.lst ((an (ens zs)).map V.int ++ [.int num]))
        have P7 := P6.put nla (.lst ((an (ens zs)).map V.int ++ [.int num]))
        have k7 := k6.over hlaH (.lst ((an (ens zs)).map V.int ++ [.int num]))
        have ed7 := (show (upd H6 la (.lst ((an (ens zs)).map V.int ++ [.int num]))) ld = H6 ld from upd_ne nda).trans ed6
        have ef7 := (show (upd H6 la (.lst ((an (ens zs)).map V.int ++ [.int num]))) lf = H6 lf from upd_ne naf.symm).trans ef6
        have ea7 := (show (upd H6 la (.lst ((an (ens zs)).map V.int ++ [.int num]))) la = some (.lst ((an (ens zs)).map V.int ++ [.int num])) from upd_same)
        have E7 := E6.kp kT7
        have F7 := F6.kpT kT7
        have hent7 : ∀ z ∈ zs, EntAt (upd H6 la (.lst ((an (ens zs)).map V.int ++ [.int num]))) z.1 z.2 := fun z hz => (hent6 z hz).kp kT7
        generalize (upd H6 la (.lst ((an (ens zs)).map V.int ++ [.int num]))) = H7 at kT7 P7 k7 ea7 ef7 ed7 E7 F7 hent7
        have dn7 : dn (ens zs) = dn (ens (zs ++ [(a, e)])) := by
          rw [show ens (zs ++ [(a, e)]) = ens zs ++ [e] by simp [ens], dn_snoc, hd]
          simp
        have an7 : an (ens zs) ++ [num] = an (ens (zs ++ [(a, e)])) := by
          rw [show ens (zs ++ [(a, e)]) = ens zs ++ [e] by simp [ens], an_snoc, hd, hnum]
          simp
        refine ⟨_, rfl, _, _, rfl, rfl, ?_⟩
        refine ⟨_, rfl, p, 2, rfl, P7, by decide, by decide, fun v8 H8 k8 P8 a8 b8 => ?_⟩
        refine ⟨(by show 2 ≤ sizeLine; decide), fun m hm => ?_⟩
        refine ⟨_, rfl, _, rfl, _, _, rfl, rfl, _, _, rfl, rfl, .inr ⟨_, rfl, ?_⟩⟩
        have kM : Kp p H8 (upd H8 m (.lst [.int 0, .int v8])) := Kp.new hm _
        have eM : (upd H8 m (.lst [.int 0, .int v8])) m = some (.lst [.int 0, .int v8]) := upd_same
        have PM := P8.new hm (.lst [.int 0, .int v8])
        generalize (upd H8 m (.lst [.int 0, .int v8])) = H9 at kM eM PM
        have k9 := k8.trans kM
        have kT9 : KpT H7 H9 := k9.tup P7
        obtain ⟨dv, gv, hv⟩ : ∃ dv : Int, atI [V.int 0, V.int v8] (if decide (num < 14 + (0 + (i : Int))) then 1 else 0) = some (.int dv) ∧ 0 ≤ dv ∧ num + 1 + dv ≤ 15 + ((i : Int) + 1) := by
          by_cases hc : num < 14 + (0 + (i : Int))
          · rw [decide_eq_true hc]
            exact ⟨v8, atI_nat (j := 1) rfl, a8, by omega⟩
          · rw [decide_eq_false hc]
            exact ⟨0, atI_nat (j := 0) rfl, by omega, by omega⟩
        refine ⟨m, _, _, _, rfl, rfl, SqL.of eM, gv, _, _, rfl, rfl, ?_⟩
        refine ⟨_, _, num + 1 + dv, zs ++ [(a, e)], rfl, k7.trans k9, PM, F7.kpT kT9, ?_, ?_, ?_, fun z hz => ?_, ?_, ?_, fun e' he' => ?_, ?_, ?_⟩
        · rw [← dn7]
          refine (k9 _ _ nld ed7).trans ?_
          simp
        · rw [← an7]
          refine (k9 _ _ nla ea7).trans ?_
          simp
        · refine (k9 _ _ nlf ef7).trans ?_
          simp [refs]
        · rcases List.mem_append.mp hz with hz | hz
          · exact (hent7 z hz).kp kT9
          · rw [List.mem_singleton.mp hz]
            exact E7.kp kT9
        · rw [List.length_append, hlen]
          rfl
        · rw [show ens (zs ++ [(a, e)]) = ens zs ++ [e] by simp [ens]]
          exact okE
        · rw [show ens (zs ++ [(a, e)]) = ens zs ++ [e] by simp [ens]] at he'
          rcases List.mem_append.mp he' with he' | he'
          · have := hlt e' he'
            omega
          · rw [List.mem_singleton.mp he', hnum]
            omega
        · omega
        · omega
    · rintro σ H' ⟨y7, y8, num, zs, rfl, k', P', F', ed, ea, ef, hent, hlen, hok, hlt, hn0, hn1⟩
      refine ⟨_, rfl, _, rfl, p, 30, rfl, P', by decide, by decide, fun age H5 k5 P5 a5 b5 => ?_⟩
      refine ⟨_, rfl, _, rfl, p, lf, refs zs, rfl, P5, .inl (SqL.of (k5 _ _ nlf ef)), by rw [List.length_map]; omega, fun l ys H6 k6 P6 nl el hpm => ?_⟩
      refine ⟨l, ys, rfl, .inl ⟨SqL.of el, fun t ht => ?_⟩⟩
      have k7 : Kp p H6 (upd H6 t (.tup ys)) := Kp.new ht _
      have P7 := P6.new ht (.tup ys)
      refine ⟨(by show 3 ≤ sizeLine; decide), fun b hb => ?_⟩
      have k8 : Kp p (upd H6 t (.tup ys)) (upd (upd H6 t (.tup ys)) b (.tup [.ref fk, .int age, .ref t])) := Kp.new hb _
      obtain ⟨zs', hy, hz⟩ := perm_pairs (fun z : Addr × En => V.ref z.1) hpm zs rfl
      have kT : KpT H' (upd (upd H6 t (.tup ys)) b (.tup [.ref fk, .int age, .ref t])) := (k5.tup P').trans ((k6.tup P5).trans ((k7.tup P6).trans (k8.tup P7)))
      have hlen' : zs'.length = zs.length := hz.length_eq
      refine q b fk t n age zs' _ (k'.trans (k5.trans (k6.trans (k7.trans k8)))) (P7.new hb _) ⟨upd_same, F'.kpT kT, hn2', hn6, a5, by omega, ?_, fun z hz' => (hent z (hz.mem_iff.mp hz')).kp kT, hok.perm (hz.map _), by omega⟩ (by omega)
      refine k8.tup P7 _ _ ?_
      rw [upd_same, hy]
end
end Deed

namespace Deed
open PySem PySem.Spec PySem.W PyProof.Rows L2 LamX
/-! ### sorted(e, key=lambda x: x[0]) of a list or tuple of tuples -/
section
variable {prog : Program} {w : World} {A : Around} {E : Value → Shared → Prop} {s : Shared}
theorem collectT {l : Addr} {vs : List Value} {Q : List Value → Shared → Prop} (ht : s.heap.IsTuple l vs.toArray) (hsz : vs.length ≤ sizeLine)
    (h : Q vs { s with heap := (s.heap.push (seqObj "list" #[] 0)).update s.heap.objs.size (Obj.mapSeq (· ++ vs.toArray)) }) : wpAny (model prog w) A (collect (.ref l)) Q E s := by
  obtain ⟨ob, g0, gc, ep, gd⟩ := id ht
  have g1 : (s.heap.push (seqObj "list" #[] 0)).get? l = some ob := Heap.get?_push_of_some _ g0
  unfold collect
  refine wpAny_bind (m := _) (wpAny_runValue (codeAny_builtin entry_proto_collect' ?_))
  show wpAny _ _ (do again (.builtin "list.__iadd__" ⟨[← newList [], Value.ref l], []⟩)) _ _ s
  refine wpAny_bind (wpAny_newList (wpAny_pure ⟨Code.quiet_builtin _ (by decide +kernel), (codeAny_builtin entry_list_iadd' ?_)⟩))
  show wpAny _ _ (Builtin.List.listExtendWith (.ref s.heap.objs.size) (Value.ref l) (.ref s.heap.objs.size)) _ _ { s with heap := s.heap.push (seqObj "list" #[] 0) }
  unfold Builtin.List.listExtendWith
  refine wpAny_bind (wpAny_typeOf (T := "tuple") ⟨ob, g1, gc⟩ ?_)
  have tt : (Value.type "tuple" == Value.type "tuple") = true := by rfl
  rw [if_pos (by simp [tt])]
  refine wpAny_bind (listItems_at g1 gd ?_)
  refine wpAny_bind (listItems_at (n := 0) (xs := #[]) (Heap.get?_push_size _ rfl) rfl ?_)
  rw [if_neg (fun z => by simp at z)]
  refine wpAny_bind (listUpdate_at (n := 0) (xs := #[]) (Heap.get?_push_size _ rfl) rfl ?_ (Nat.zero_le _) (by show (#[] ++ vs.toArray).size ≤ sizeLine + 1; simp only [Array.size_append, List.size_toArray, List.length_nil]; omega))
  refine wpAny_pure (?_)
  show wpAny (model prog w) A (do let o ← load s.heap.objs.size; match o.data with | .seq xs _ => pure xs.toList | _ => unsupported "internal:collect") Q E { s with heap := (s.heap.push (seqObj "list" #[] 0)).update s.heap.objs.size (Obj.mapSeq (· ++ vs.toArray)) }
  refine wpAny_bind (wpAny_load (get?_update_seq (Heap.get?_push_size _ rfl) _) (?_))
  show wpAny _ _ (pure (((#[] : Array Value) ++ vs.toArray).toList)) Q E _
  rw [show (((#[] : Array Value) ++ vs.toArray).toList) = vs by simp]
  exact wpAny_pure h
theorem collectS {l : Addr} {vs : List Value} {Q : List Value → Shared → Prop} (hl : s.heap.IsList l vs.toArray ∨ s.heap.IsTuple l vs.toArray) (hsz : vs.length ≤ sizeLine)
    (h : Q vs { s with heap := (s.heap.push (seqObj "list" #[] 0)).update s.heap.objs.size (Obj.mapSeq (· ++ vs.toArray)) }) : wpAny (model prog w) A (collect (.ref l)) Q E s := by
  rcases hl with hl | hl
  · exact collect_list hl h hsz
  · exact collectT hl hsz h
/-- sorted(e, key=f), e a list or a tuple, the keys ints -/
theorem sortedK {β : Type} {l f : Addr} {vs : List Value} {bs : List β} {R : Value → β → Prop} {Q : Value → Shared → Prop} (k : β → Int) (hl : s.heap.IsList l vs.toArray ∨ s.heap.IsTuple l vs.toArray) (e : EachIs R vs bs) (hL : bs.length ≤ sizeLine) (hu : A.units + 66 < cLine)
    (turn : ∀ (v : Value) (x : β), R v x → x ∈ bs → ∀ (h : Heap) (tk : Nat), (∀ b o, s.heap.get? b = some o → h.get? b = some o) →
      wpAny (model prog w) A.in1.in1 (call (.ref f) [v]) (KeyPure (.int (k x)) { s with heap := h, toks := tk }) (fun _ _ => False) { s with heap := h, toks := tk })
    (h : ∀ out c h' tk, (∀ b o, s.heap.get? b = some o → h'.get? b = some o) → h'.get? (s.heap.objs.size + 1) = some (seqObj "list" (List.toArray out) c) → out.length = bs.length → EachIs R out (bs.mergeSort (dataLe false fun x => .int (k x))) →
      Q (.ref (s.heap.objs.size + 1)) { s with heap := h', toks := tk }) :
    wpAny (model prog w) A (call (.builtin "sorted") [.ref l] [(Str.ofString "key", .ref f)]) Q E s := by
  have hv : vs.length ≤ sizeLine := by rw [e.length]; exact hL
  have up : ∀ {g : Heap}, KeepsBut (s.heap.objs.size + 1) (copyHeap s.heap vs) g → ∀ b o, s.heap.get? b = some o → g.get? b = some o := fun kp b o z =>
    kp b o (Nat.ne_of_lt (Nat.lt_succ_of_lt (Heap.lt_size z))) (copyHeap_old z)
  have ez : ((s.heap.push (seqObj "list" #[] 0)).update s.heap.objs.size (Obj.mapSeq (· ++ vs.toArray))).objs.size = s.heap.objs.size + 1 := by rw [Heap.size_update, size_push']
  refine call_function_entry_kw kind_sorted plain_sorted entry_sorted (ksk_s1 _ _) ?_
  unfold Builtin.«sorted»
  refine wpAny_bind (m := checkCount "sorted" 1 1 _) (wpAny_pure (?_))
  refine wpAny_bind (collectS hl hv ?_)
  refine wpAny_bind (wpAny_newList (?_) hv)
  show wpAny _ _ _ _ _ { s with heap := copyHeap s.heap vs }
  rw [ez]
  refine wpAny_bind (wpAny_holding (wpAny_call_entry_kw slot_list_sort ⟨_, copyHeap_at s.heap vs, rfl⟩ entry_list_sort (?body) (ksk_l1 _ _)))
  case body =>
    show wpAny (model prog w) A.in1.in1 (Builtin.«list.sort» ⟨[.ref (s.heap.objs.size + 1)], [(Str.ofString "key", .ref f)]⟩) _ _ _
    rw [ksk_t1]
    refine keyH_tree (kz := bs.map fun x => PyData.int (k x)) (s := { s with heap := copyHeap s.heap vs }) (copyHeap_at s.heap vs) (by rw [List.length_map]; exact e.length.symm) hv (AllAlike.of fun _ _ => by simp [alike]) ?srt (fun d hd => ?dep)
      (keyH_turns (k := fun x => PyData.int (k x)) (s := { s with heap := copyHeap s.heap vs }) e fun v x hR hx h tk kp => turn v x hR hx h tk (up kp)) fun h' tk out c kp hD ko => ?fin
    case srt => exact Sortable.others fun _ => ⟨(fun z => nomatch z), (fun _ z => nomatch z)⟩
    case dep =>
      obtain ⟨x, _, rfl⟩ := List.mem_map.mp hd
      show A.units + 1 + 1 + PyData.depth (.int (k x)) < cLine
      simp only [PyData.depth]
      omega
    case fin =>
      exact ⟨_, rfl, wpAny_pure ⟨_, rfl, h out c h' tk (up kp) hD ((ko.length (by rw [List.length_map]; exact e.length.symm)).trans e.length) (keyedOut_each (fun x => PyData.int (k x)) ko e)⟩⟩
/-- the call of the lambda -/
theorem lam_key {f c' t : Addr} {x q : Str} {params : Arguments} {ix : Expr} {scope : Scope} {cl : List (Str × Addr)} {pm ctv : Value} {p1 p3 : Pos} {items : Array Value} {kk : Int} {u : Tok} {mg : Str → Option Value}
    (of : s.heap.get? f = some (kla_obj "<lambda>" q params (.Subscript (.Name x p1) ix p3) scope cl pm c' ctv)) (hcd : s.heap.CodeRec (.ref c') q) (hroom : A.depth < recursionLimit) (lim : s.heap.NoLimit) (ns : s.heap.Ns mainGlobals mg)
    (hk : scope.kind = .function) (hco : scope.isCoroutine = false) (hgen : scope.isGenerator = false) (hcell : ∀ y ∈ scope.names, y.2 ≠ .cell) (hloc : scope.names.lookup x = some .local)
    (hbind : ∀ v : Value, bindArgs (kla_fn "<lambda>" q params (.Subscript (.Name x p1) ix p3) scope cl pm (.ref c') ctv) ⟨[v], []⟩ = pure [(x, v)])
    (hix : ∀ (env : Env) (A : Around) (E : Value → Shared → Prop) (s' : Shared) (Q : Value → Shared → Prop), env.scope = scope → env.globals = mainGlobals → s'.heap.Ns mainGlobals mg → (∀ u tk, Q (.int 0 u) { s' with toks := tk }) → wpAny (model prog w) A (eval ix env) Q E s')
    (hpl : PlainIx ix) (hd : (x == ("__debug__" : Str)) = false) (ht : s.heap.IsTuple t items) (hx : items[0]? = some (.int kk u)) :
    wpAny (model prog w) A (call (.ref f) [.ref t]) (KeyPure (.int kk) s) (fun _ _ => False) s := by
  refine wpAny_call (kla_callFunE hroom of rfl hco hgen rfl hcd ?_)
  rw [hbind]
  refine wpAny_pure (wpAny_newFunctionEnv hcell (fun y hy => ?_) (fun h₁ hns hsb => ⟨lim.fresh _ hsb, ?_⟩) hk)
  · rw [List.mem_singleton.mp hy]
    exact hloc
  have kp : ∀ b o, s.heap.get? b = some o → h₁.get? b = some o := fun b o z => hsb.extBut b o (Nat.ne_of_lt (Heap.lt_size z)) (Heap.get?_push_of_some _ z)
  refine kla_codeExpr (Subscript_ (wpAny_Name (wpAny_loadName_local hk hloc hns (v := .ref t) (by simp) ?_) hd))
  refine hix _ _ _ _ _ rfl rfl (ns.keeps kp) fun u' tk' => ?_
  have ht1 : h₁.IsTuple t items := by
    obtain ⟨o, z1, z2, z3⟩ := ht
    exact ⟨o, kp _ _ z1, z2, z3⟩
  have hsz : 0 < items.size := by
    rcases Nat.eq_zero_or_pos items.size with z | z
    · rw [Array.getElem?_eq_none (by omega)] at hx
      cases hx
    · exact z
  refine subscriptTail_builtinR (x := .int kk u) (ht1.typeIs) slot_tuple_getitem.lookup (getItem_tuple (j := 0) (Q := fun r s' => r = .int kk u ∧ KeyPure (.int kk) s r s') ht1 (by decide) (by decide) (seqIndex_of (by decide) (by omega)) hx ⟨rfl, ?_⟩) (hpl _ _)
  exact ⟨h₁, _, rfl, kp, .int _ _⟩
end
end Deed

namespace Deed
open PySem PySem.Spec PySem.W PyProof.Rows L2 LamX
theorem each_vals {xs : List V} {us : List Value} (r : Vals xs us) : EachIs (fun u y => RelV y u) us xs := by
  induction r with
  | nil => exact .nil
  | cons h _ ih => exact .cons h ih
theorem vals_each {xs : List V} {us : List Value} (r : EachIs (fun u y => RelV y u) us xs) : Vals xs us := by
  induction r with
  | nil => exact .nil
  | cons h _ ih => exact .cons h ih
/-- sorted(e, key=lambda x: x[0]): some arrangement by the keys, at a new address; a table may have grown -/
def tSortK (K : PySem.W.Frag) (T : List (Addr × Str)) (te : TA) : TE := fun σ H Q => te σ H fun vs H1 => ∃ (a : Addr) (xs : List V) (ks : V → Int), vs = [.ref a] ∧ (SqL K H1 a xs ∨ SqT K H1 a xs) ∧ (∀ y ∈ xs, ∃ t r, y = .ref t ∧ H1 t = some (.tup (.int (ks y) :: r))) ∧ Tabs T H1 ∧
  ∀ p ys H2, ExtN H1 H2 → Tabs T H2 → H2 p = none → ys.Perm xs → ys.Pairwise (fun u v => ks u ≤ ks v) → Q (.ref p) (upd H2 p (.lst ys))
section
variable {X : Cx}
theorem pe_sortK {T : List (Addr × Str)} {c P : Addr} {k : Nat} {e ix : Expr} {te : TA} {x : Str} {params : Arguments} {scope : Scope} {p p1 p3 lpos kpos pos : Pos}
    (hg : Gl X "sorted") (hm : X.mg "sorted" = none) (ha : PA X [e] te) (hr : Room (k + 1) X.A) (TB : TabB X.base X.mg c P) (hcode : X.env.code = .ref c) (hmT : (P, X.env.qual ++ "<lambda>") ∈ T) (hu : ∀ p ∈ T, p.1 = P → p.2 = X.env.qual ++ "<lambda>")
    (hdef : defaultsOf params X.env = ([], [])) (hfree : ∀ y ∈ scope.names, y.2 ≠ .free)
    (hk : scope.kind = .function) (hco : scope.isCoroutine = false) (hgen : scope.isGenerator = false) (hcell : ∀ y ∈ scope.names, y.2 ≠ .cell) (hloc : scope.names.lookup x = some .local)
    (hbind : ∀ (q : Str) (cl : List (Str × Addr)) (pm cv ctv v : Value), bindArgs (kla_fn "<lambda>" q params (.Subscript (.Name x p1) ix p3) scope cl pm cv ctv) ⟨[v], []⟩ = pure [(x, v)])
    (hix : ∀ (env : Env) (A : Around) (E : Value → Shared → Prop) (s' : Shared) (Q : Value → Shared → Prop), env.scope = scope → env.globals = mainGlobals → s'.heap.Ns mainGlobals X.mg → (∀ u tk, Q (.int 0 u) { s' with toks := tk }) → wpAny (model X.prog X.w) A (eval ix env) Q E s')
    (hpl : PlainIx ix) (hd : (x == ("__debug__" : Str)) = false)
    (h1 : backTo pos (starEach [e] X.env) = (false, eval e X.env) :: backTo pos (starEach [] X.env) := by rfl) (h2 : (backTo pos (starEach [e] X.env)).any (·.1) = false := by rfl) :
    PE X (.Call (.Name "sorted" p) [e] [⟨some "key", .Lambda params (.Subscript (.Name x p1) ix p3) scope lpos, kpos⟩] pos) (tSortK X.K T te) := by
  refine ⟨fun pins s σ H Q I h => ?_⟩
  refine wpAny_Call_Name_kw (ld_blt I hg hm (show bootBuiltins "sorted" = some (.builtin "sorted") by decide +kernel) ?_)
  refine callWith_kw (thn (ha.run pos pins s σ H _ I h) fun us s1 ⟨vs, H1, I1, r1, q1⟩ => ?_) h1 h2 rfl rfl
  obtain ⟨a, xs, ks, rfl, hS, hxs, hT, q⟩ := q1
  obtain rfl := Vals.ref1 r1
  show wpAny _ _ (evalAll [(do let v ← eval (.Lambda params (.Subscript (.Name x p1) ix p3) scope lpos) X.env; standAt pos; pure v)]) _ _ s1
  refine wpAny_evalAll_cons (wpAny_bind (lam_make2 I1 TB hcode hmT hu hT hdef (fun y hy e => absurd e (hfree y hy)) fun f c' pm ctv H2 s2 I2 eN T2 hf hfn hfr hco' => wpAny_bind (wpAny_standAt (wpAny_pure (wpAny_evalAll_nil ?_)))))
  have seqs : ∃ its, Vals xs its ∧ xs.length ≤ sizeLine ∧ (s2.heap.IsList a its.toArray ∨ s2.heap.IsTuple a its.toArray) := by
    rcases hS with hS | hS
    · have hS2 : SqL X.K H2 a xs := by
        rcases hS with (z | ⟨o, z⟩) | z
        · exact .inl (.inl (eN _ _ z fun ps z' => by cases z'))
        · exact .inl (.inr ⟨o, eN _ _ z fun ps z' => by cases z'⟩)
        · exact .inr z
      obtain ⟨its, rv, hl, hz⟩ := I2.list hS2
      exact ⟨its, rv, hz, .inl hl.isList⟩
    · have hS2 : SqT X.K H2 a xs := by
        rcases hS with (z | ⟨o, z⟩) | z
        · exact .inl (.inl (eN _ _ z fun ps z' => by cases z'))
        · exact .inl (.inr ⟨o, eN _ _ z fun ps z' => by cases z'⟩)
        · exact .inr z
      obtain ⟨its, rv, hl, hz⟩ := I2.tuple hS2
      exact ⟨its, rv, hz, .inr hl⟩
  obtain ⟨its, rv, hz, hl⟩ := seqs
  have hun := hr.un
  have hdp := hr.dp
  show wpAny (model X.prog X.w) X.A (call (.builtin "sorted") [.ref a] [(Str.ofString "key", .ref f)]) _ _ s2
  refine sortedK (R := fun u y => RelV y u) ks hl (each_vals rv) hz (by omega) (fun u y hR hy h tk kp => ?_) fun out ep h' tk kp hD hlen eo => ?_
  · obtain ⟨t, r, rfl, ht⟩ := hxs y hy
    obtain rfl : u = Value.ref t := hR
    have ht2 := eN _ _ ht fun ps z' => by cases z'
    obtain ⟨_, its2, r2, o, ho, hc, n, hd2⟩ := I2.hok _ _ ht2
    obtain ⟨oc, vs, tt, c1, c2, c3⟩ := (I2.hok c' _ hco').1
    cases r2 with
    | cons ru r3 =>
      obtain ⟨tu, rfl⟩ := ru
      refine lam_key (u := tu) (s := { s2 with heap := h, toks := tk }) (kp _ _ hf) ⟨c', oc, vs, tt, rfl, kp _ _ c1, c2, c3⟩ ?_ (I2.nolimit.keeps kp) ((I2.mod.glob.keeps I2.bk).keeps kp) hk hco hgen hcell hloc (fun v => hbind _ _ _ _ _ v) hix hpl hd ⟨o, kp _ _ ho, hc, n, hd2⟩ (by simp)
      show X.A.depth < recursionLimit
      omega
  · rw [dataLe_int] at eo
    have hp : (xs.mergeSort fun a b => decide (ks a ≤ ks b)).Perm xs := List.mergeSort_perm _ _
    have hs : (xs.mergeSort fun a b => decide (ks a ≤ ks b)).Pairwise (fun u v => ks u ≤ ks v) := by
      have := List.pairwise_mergeSort (le := fun a b => decide (ks a ≤ ks b)) (fun a b c h1 h2 => by simp only [decide_eq_true_eq] at *; omega) (fun a b => by simp only [Bool.or_eq_true, decide_eq_true_eq]; omega) xs
      exact this.imp fun h => of_decide_eq_true h
    refine ⟨.ref _, _, I2.laid (t' := tk) kp (Nat.le_succ _) (show ObjOk X.prog X.w _ h' _ (.lst (xs.mergeSort fun a b => decide (ks a ≤ ks b))) from ⟨by rw [hp.length_eq]; exact hz, out, ep, vals_each eo, hD⟩), rfl, q _ _ H2 eN T2 (I2.hok.fresh (Nat.le_succ _)) hp hs⟩
end
end Deed

namespace Deed
open PySem PySem.Spec PyProof.Rows L2 LamX
/-! ### a def whose code object's table is told -/
theorem okC {P : Program} {w : World} {K : PySem.W.Frag} {mg : Str → Option Value} {base : Heap} {x qual : Str} {st : Stmt} {f c : Addr} {fd : FuncData} {N ps : List Str} {k : Nat} {sp : Sp} (F : Fun K x qual st f fd) (hc : fd.code = .ref c) (S : FnScope N ps (defScope st)) (len : ∀ vs H Q E, sp vs H Q E → vs.length = ps.length)
    (hbody : ∀ (A : Around) (outer : List Env) (s : Shared) (H : Hp) (vs : List V) (Q : VK) (E : XK), Room k (A.deeper (envOfC qual (defScope st) s.heap.objs.size f (.ref c))) → sp vs H Q E →
      ∃ t, PSs (cxOf CX0 P w K mg base N qual (defScope st) f (.ref c) A outer s H E).nox (defBody st) t ∧ t { nx := fun _ H' => Q .non H', rt := Q } (start N vs) H) : FnOk P w K mg base CX0 (k + 1) f fd ps sp := by
  obtain ⟨oc, od, kV, doc, pm, an, cdv, ct, osl, rfl, lk, hcd⟩ := F.ex
  have e : cdv = .ref c := hc
  subst e
  refine fn_of lk hcd S len fun A outer s H vs Q E hr hsp => ?_
  obtain ⟨t, h, q⟩ := hbody A outer s H vs Q E hr hsp
  exact ⟨t, h.nox, q⟩
/-- the number that stands ahead in the tuple at v -/
def keyAt (H : Hp) (v : V) : Int := match v with
  | .ref t => (match H t with
    | some (.tup (.int n :: _)) => n
    | _ => 0)
  | _ => 0
theorem EntAt.key {H : Hp} {a : Addr} {e : En} (h : EntAt H a e) : ∃ r, H a = some (.tup (.int e.num :: r)) ∧ keyAt H (.ref a) = e.num := by
  have fin : ∀ r, H a = some (.tup (.int e.num :: r)) → keyAt H (.ref a) = e.num := fun r z => by
    show (match H a with | some (.tup (.int n :: _)) => n | _ => 0) = e.num
    rw [z]
  unfold EntAt at h
  cases hk : e.kd with
  | deed g t rs ws =>
    rw [hk] at h
    obtain ⟨r, w, h1, _⟩ := h
    exact ⟨_, h1, fin _ h1⟩
  | act x o =>
    rw [hk] at h
    exact ⟨_, h, fin _ h⟩
/-- what isn't tracked, or a table -/
def Fresh (H : Hp) (p : Addr) : Prop := ∀ o, H p = some o → ∃ ps, o = .tbl ps
theorem Fresh.of {H H' : Hp} {p : Addr} (e : ExtN H H') (n : H' p = none) : Fresh H p := fun o z => by
  by_cases h : ∃ ps, o = .tbl ps
  · exact h
  · rw [e p o z fun ps q => h ⟨ps, q⟩] at n
    cases n
theorem Fresh.ne {H : Hp} {p b : Addr} {o : HO} (f : Fresh H p) (e : H b = some o) (h : ∀ ps, o ≠ .tbl ps) : b ≠ p := fun z => by
  rw [z] at e
  obtain ⟨ps, q⟩ := f o e
  exact h ps q
theorem Fresh.up {H H' : Hp} {p : Addr} (e : ExtN H H') (f : Fresh H' p) : Fresh H p := fun o z => by
  by_cases h : ∃ ps, o = .tbl ps
  · exact h
  · exact f o (e p o z fun ps q => h ⟨ps, q⟩)
theorem ExtN.tup {H H' : Hp} (e : ExtN H H') : KpT H H' := fun b xs z => e _ _ z fun ps q => by cases q
theorem ExtN.new {H : Hp} {p : Addr} (n : H p = none) (o : HO) : ExtN H (upd H p o) := .of fun b u e => by
  rw [upd_ne (ne_of_none e n)]
  exact e
theorem Tabs.new {T : List (Addr × Str)} {H : Hp} (t : Tabs T H) {p : Addr} (n : H p = none) (o : HO) : Tabs T (upd H p o) := t.ext fun b u e => by
  rw [upd_ne (ne_of_none e n)]
  exact e
/-- a tracked list is written: the tables stay -/
theorem Tabs.put {T : List (Addr × Str)} {H : Hp} (t : Tabs T H) {p : Addr} {xs : List V} (e : H p = some (.lst xs)) (o : HO) : Tabs T (upd H p o) := fun q hq => by
  obtain ⟨ps, h1, h2, h3⟩ := t q hq
  have n1 : q.1 ≠ p := fun z => by
    rw [z, e] at h1
    cases h1
  refine ⟨ps, by rw [upd_ne n1]; exact h1, h2, fun pos cv hc => ?_⟩
  obtain ⟨c, e1, e2⟩ := h3 pos cv hc
  refine ⟨c, e1, ?_⟩
  have n2 : c ≠ p := fun z => by
    rw [z, e] at e2
    unfold CodeO at e2
    cases e2
  rw [upd_ne n2]
  exact e2
theorem srt_num {H : Hp} {zs : List (Addr × En)} (he : ∀ z ∈ zs, EntAt H z.1 z.2) (nd : ((ens zs).map (·.num)).Nodup) (h : (refs zs).Pairwise (fun u v => keyAt H u ≤ keyAt H v)) : zs.Pairwise (fun a b => a.2.num < b.2.num) := by
  induction zs with
  | nil => exact .nil
  | cons z r ih =>
    have h1 := List.pairwise_cons.mp h
    have nd' : (z.2.num :: (ens r).map (·.num)).Nodup := nd
    have h2 := List.nodup_cons.mp nd'
    refine List.pairwise_cons.mpr ⟨fun y hy => ?_, ih (fun y hy => he y (List.mem_cons_of_mem _ hy)) h2.2 h1.2⟩
    have h3 := h1.1 (.ref y.1) (List.mem_map.mpr ⟨y, hy, rfl⟩)
    obtain ⟨_, _, k1⟩ := (he z List.mem_cons_self).key
    obtain ⟨_, _, k2⟩ := (he y (List.mem_cons_of_mem _ hy)).key
    rw [k1, k2] at h3
    have h4 : z.2.num ≠ y.2.num := fun q => h2.1 (List.mem_map.mpr ⟨y.2, List.mem_map.mpr ⟨y, hy, rfl⟩, q.symm⟩)
    omega
section
variable {P : Program} {w : World} {K : PySem.W.Frag} {mg : Str → Option Value} {base : Heap} {fRi : Addr} {dRi : FuncData} {T : List (Addr × Str)}
/-- an int of the module's top -/
def MgInt (mg : Str → Option Value) (x : Str) (i : Int) : Prop := ∃ t, mg x = some (.int i t)
theorem pe_num {X : Cx} {x : Str} {i : Int} {pos : Pos} (hg : Gl X x) (h : MgInt X.mg x i) (hd : (x == ("__debug__" : Str)) = false := by decide) : PE X (.Name x pos) (tC (.int i)) := by
  obtain ⟨t, h⟩ := h
  exact pe_glob hg h ⟨t, rfl⟩ hd
/-! ### the entries by their numbers -/
abbrev sRising : Stmt := topS 3
theorem scRising : FnScope ["book"] ["book"] (defScope sRising) := ⟨rfl, rfl, rfl, by decide +kernel, rfl, by decide +kernel, by decide +kernel⟩
/-- the book's text of the lambda's name -/
def qRis : Str := "entries_rising.<locals>.<lambda>"
def spRising (T : List (Addr × Str)) : Sp := fun vs H Q _ => ∃ (b fk t : Addr) (n : Nat) (age : Int) (zs : List (Addr × En)), vs = [.ref b] ∧ BookAt H b fk t n age zs ∧ Tabs T H ∧
  ∀ (p : Addr) (zs' : List (Addr × En)) (H' : Hp), ExtN H H' → Tabs T H' → Fresh H p → H' p = some (.lst (refs zs')) → zs'.Perm zs → zs'.Pairwise (fun a b => a.2.num < b.2.num) → Q (.ref p) H'
theorem ok_rising {f c tb : Addr} {fd : FuncData} {k : Nat} (F : Fun K "entries_rising" "entries_rising" sRising f fd) (hc : fd.code = .ref c) (TB : TabB base mg c tb) (ms : mg "sorted" = none) (mN : MgInt mg "NUMBER" 0) (hmT : (tb, qRis) ∈ T) (hu : ∀ p ∈ T, p.1 = tb → p.2 = qRis) :
    FnOk P w K mg base CX0 (k + 2) f fd ["book"] (spRising T) := by
  refine okC F hc scRising (fun vs H Q E h => ?_) (fun A outer s H vs Q E hr h => ?_)
  · obtain ⟨b, fk, t, n, age, zs, rfl, _⟩ := h
    rfl
  · obtain ⟨b, fk, t, n, age, zs, rfl, hB, hT, q⟩ := h
    refine ⟨_, pss_one (ps_ret (pe_sortK (T := T) (c := c) (P := tb) (k := k) (by rfl) ms (pa_cons (pe_ix ix_tup (pv 0) pe_int (fun _ _ => rfl)) pa_nil) hr TB rfl hmT hu rfl (by decide +kernel) rfl rfl rfl (by decide +kernel) rfl (fun _ _ _ _ _ _ => rfl) (fun env A E s' Q he hg hn hq => ?ix) (fun _ _ => rfl) (by decide))), ?_⟩
    case ix =>
      obtain ⟨tk, hN⟩ := mN
      refine Calls.Name_function_global (by rw [he]) (by unfold Env.kindOf; rw [he]; rfl) (Calls.loadGlobal_global (by rw [hg]; exact hn) hN (hq tk s'.toks))
    refine ⟨_, rfl, b, _, 2, _, rfl, rfl, SqT.of hB.at_, atI_nat (j := 2) rfl, t, refs zs, keyAt H, rfl, .inr (SqT.of hB.ents), fun y hy => ?_, hT, fun p ys H2 eN T2 np pm so => ?_⟩
    · obtain ⟨z, hz, rfl⟩ := List.mem_map.mp hy
      obtain ⟨r, h1, h2⟩ := (hB.ent z hz).key
      exact ⟨z.1, r, rfl, by rw [h2]; exact h1⟩
    · obtain ⟨zs', rfl, hp⟩ := perm_pairs (fun z : Addr × En => V.ref z.1) pm zs rfl
      refine q p zs' _ (eN.trans (ExtN.new np _)) (Tabs.new T2 np _) (Fresh.of eN np) upd_same hp (srt_num (fun z hz => hB.ent z (hp.mem_iff.mp hz)) (((hp.map _).map _).nodup_iff.mpr hB.ok.nd) so)
end
end Deed

namespace Deed
open PySem PySem.Spec PyProof.Rows L2 LamX
theorem take_more {α : Type} {l : List α} {i : Nat} {x : α} (h : l[i]? = some x) : l.take (i + 1) = l.take i ++ [x] := by
  rw [List.take_add_one, h]
  rfl
theorem ref_at {zs : List (Addr × En)} {i : Nat} {x : V} (h : (refs zs)[i]? = some x) : ∃ z, zs[i]? = some z ∧ x = .ref z.1 := by
  rw [List.getElem?_map] at h
  cases e : zs[i]? with
  | none => rw [e] at h; cases h
  | some z =>
    rw [e] at h
    exact ⟨z, rfl, (Option.some.inj h).symm⟩
section
variable {P : Program} {w : World} {K : PySem.W.Frag} {mg : Str → Option Value} {base : Heap} {fRi fDe : Addr} {dRi dDe : FuncData} {T : List (Addr × Str)}
/-- what entries_rising needs -/
structure RisD (K : PySem.W.Frag) (mg : Str → Option Value) (base : Heap) (T : List (Addr × Str)) (f : Addr) (fd : FuncData) : Prop where
  D : Df K mg "entries_rising" sRising ["book"] f fd
  hc : ∃ c tb, fd.code = .ref c ∧ TabB base mg c tb ∧ (tb, qRis) ∈ T ∧ ∀ p ∈ T, p.1 = tb → p.2 = qRis
  ms : mg "sorted" = none
  mN : MgInt mg "NUMBER" 0
theorem RisD.ok {k : Nat} {f : Addr} {fd : FuncData} (R : RisD K mg base T f fd) : FnOk P w K mg base CX0 (k + 2) f fd ["book"] (spRising T) := by
  obtain ⟨c, tb, h1, h2, h3, h4⟩ := R.hc
  exact ok_rising R.D.F h1 h2 R.ms R.mN h3 h4
/-- the entries that φ picks, by their numbers -/
def spPick (φ : En → Bool) (T : List (Addr × Str)) : Sp := fun vs H Q _ => ∃ (b fk t : Addr) (n : Nat) (age : Int) (zs : List (Addr × En)), vs = [.ref b] ∧ BookAt H b fk t n age zs ∧ Tabs T H ∧
  ∀ (p : Addr) (zs' : List (Addr × En)) (H' : Hp), ExtN H H' → Tabs T H' → Fresh H p → H' p = some (.lst (refs (zs'.filter fun z => φ z.2))) → zs'.Perm zs → zs'.Pairwise (fun a b => a.2.num < b.2.num) → Q (.ref p) H'
/-! ### their numbers -/
/-- the numbers of what φ picks, rising -/
def spNums (φ : En → Bool) (T : List (Addr × Str)) : Sp := fun vs H Q _ => ∃ (b fk t : Addr) (n : Nat) (age : Int) (zs : List (Addr × En)), vs = [.ref b] ∧ BookAt H b fk t n age zs ∧ Tabs T H ∧
  ∀ (p : Addr) (zs' : List (Addr × En)) (H' : Hp), ExtN H H' → Tabs T H' → Fresh H p → H' p = some (.lst (((zs'.filter fun z => φ z.2).map fun z => z.2.num).map V.int)) → zs'.Perm zs → zs'.Pairwise (fun a b => a.2.num < b.2.num) → Q (.ref p) H'
end
end Deed

namespace Deed
open PySem PySem.Spec PyProof.Rows L2 LamX
section
variable {P : Program} {w : World} {K : PySem.W.Frag} {mg : Str → Option Value} {base : Heap} {fRi fDe : Addr} {dRi dDe : FuncData} {T : List (Addr × Str)}
abbrev sDeedE : Stmt := topS 4
theorem scDeedE : FnScope ["book", "entry"] ["book"] (defScope sDeedE) := ⟨rfl, rfl, rfl, by decide +kernel, rfl, by decide +kernel, by decide +kernel⟩
theorem ok_deedE {f : Addr} {fd : FuncData} {k : Nat} (F : Fun K "deed_entries" "deed_entries" sDeedE f fd) (R : RisD K mg base T fRi dRi) (mW : MgInt mg "WORD" 4) : FnOk P w K mg base CX0 (k + 3) f fd ["book"] (spPick (·.isDeed) T) := by
  have GR : FnOk P w K mg base CX0 (k + 2) fRi dRi ["book"] (spRising T) := R.ok
  refine F.ok scDeedE (fun vs H Q E h => ?_) (fun cdv A outer s H vs Q E hr h => ?_)
  · obtain ⟨b, fk, t, n, age, zs, rfl, _⟩ := h
    rfl
  · obtain ⟨b, fk, t, n, age, zs, rfl, hB, hT, q⟩ := h
    refine ⟨_, pss_one (ps_ret (pe_lc (own := [("entry", 1)]) (g := gName 1) (by rfl) scDeedE.nd (pi_list (pe_call GR hr (by rfl) R.D.g R.D.F.kp R.D.b .nil pass0 (pa_cons (pv 0) pa_nil))) (blkOk_by (own := [("entry", 1)]) (N := ["book", "entry"]) (sc := defScope sDeedE) (by decide +kernel)) (fun _ _ _ _ _ => pg_name (i := 1) scDeedE.nd rfl (Or.inl rfl))
      (fun _ _ _ _ _ => pts_one (pt_cmpR op_eq (show PE _ _ (tOp (rIxT K) (tVar 1) (tC (.int 4))) from pe_ix ix_tup (pv 1) (pe_num (by rfl) mW) (fun _ _ => rfl)) pe_str (nomark _))) (fun _ _ _ _ _ => pv 1))), ?_⟩
    refine ⟨_, rfl, b, fk, t, n, age, zs, rfl, hB, hT, fun p zs' H1 eN T1 fr ep pm so => ?_⟩
    have hent : ∀ z ∈ zs', EntAt H1 z.1 z.2 := fun z hz => (hB.ent z (pm.mem_iff.mp hz)).kp (ExtN.tup eN)
    refine ⟨p, rfl, ⟨_, SqL.of ep⟩, fun D nD => ?_⟩
    have npD : p ≠ D := ne_of_none ep nD
    refine lc_list (K := K) (a := p) (xs := refs zs') (fun i H' => H' D = some (.lst (refs ((zs'.take i).filter fun z => z.2.isDeed))) ∧ Same H1 H') ⟨upd_same, fun b o e => by rw [upd_ne (ne_of_none e nD)]; exact e⟩ (fun i H' _ h => SqL.of (h.2 _ _ ep)) ?_ ?_
    · rintro i x H' hx ⟨eD, sm⟩
      obtain ⟨z, hz, rfl⟩ := ref_at hx
      have hzm : z ∈ zs' := List.mem_of_getElem? hz
      obtain ⟨xs, ex, _, _, _, _, g4⟩ := ((hent z hzm).kp (Same.tup sm)).tup
      refine ⟨rfl, _, rfl, z.1, xs, 4, _, rfl, rfl, SqT.of ex, g4, rfl, _, rfl, ?_⟩
      have wd := (hB.ok.ok z.2 (List.mem_map.mpr ⟨z, pm.mem_iff.mp hzm, rfl⟩)).word
      have et := take_more hz
      refine ite2 (fun c => ?_) (fun c => ?_)
      · have hd : z.2.isDeed = true := wd.mp (by
          have := of_decide_eq_true c
          injection this)
        refine ⟨_, rfl, _, eD, small1000 ?_, ?_, fun b o e => ?_⟩
        · have h1 := List.length_filter_le (fun z : Addr × En => z.2.isDeed) (zs'.take i)
          have h2 := pm.length_eq
          have h3 := hB.len
          rw [List.length_map]
          rw [List.length_take] at h1
          omega
        · rw [upd_same, et, List.filter_append]
          simp [hd, refs]
        · have nb : b ≠ D := ne_of_none e nD
          rw [upd_ne nb]
          exact sm _ _ e
      · have hd : z.2.isDeed = false := by
          cases hh : z.2.isDeed with
          | false => rfl
          | true =>
            refine absurd (decide_eq_true ?_) c
            rw [wd.mpr hh]
        refine ⟨?_, sm⟩
        rw [eD, et, List.filter_append]
        simp [hd]
    · rintro H' ⟨eD, sm⟩
      have el : zs'.take (refs zs').length = zs' := List.take_of_length_le (by rw [List.length_map]; exact Nat.le_refl _)
      rw [el] at eD
      exact q D zs' H' (eN.trans (.of sm)) (T1.ext sm) (Fresh.of eN nD) eD pm so
end
end Deed

namespace Deed
open PySem PySem.Spec PyProof.Rows L2 LamX
section
variable {P : Program} {w : World} {K : PySem.W.Frag} {mg : Str → Option Value} {base : Heap} {fRi fDe : Addr} {dRi dDe : FuncData} {T : List (Addr × Str)}
abbrev sActE : Stmt := topS 5
theorem scActE : FnScope ["book", "entry"] ["book"] (defScope sActE) := ⟨rfl, rfl, rfl, by decide +kernel, rfl, by decide +kernel, by decide +kernel⟩
theorem ok_actE {f : Addr} {fd : FuncData} {k : Nat} (F : Fun K "act_entries" "act_entries" sActE f fd) (R : RisD K mg base T fRi dRi) (mW : MgInt mg "WORD" 4) : FnOk P w K mg base CX0 (k + 3) f fd ["book"] (spPick (fun e => !e.isDeed) T) := by
  have GR : FnOk P w K mg base CX0 (k + 2) fRi dRi ["book"] (spRising T) := R.ok
  refine F.ok scActE (fun vs H Q E h => ?_) (fun cdv A outer s H vs Q E hr h => ?_)
  · obtain ⟨b, fk, t, n, age, zs, rfl, _⟩ := h
    rfl
  · obtain ⟨b, fk, t, n, age, zs, rfl, hB, hT, q⟩ := h
    refine ⟨_, pss_one (ps_ret (pe_lc (own := [("entry", 1)]) (g := gName 1) (by rfl) scActE.nd (pi_list (pe_call GR hr (by rfl) R.D.g R.D.F.kp R.D.b .nil pass0 (pa_cons (pv 0) pa_nil))) (blkOk_by (own := [("entry", 1)]) (N := ["book", "entry"]) (sc := defScope sActE) (by decide +kernel)) (fun _ _ _ _ _ => pg_name (i := 1) scActE.nd rfl (Or.inl rfl))
      (fun _ _ _ _ _ => pts_one (pt_cmpR op_ne (show PE _ _ (tOp (rIxT K) (tVar 1) (tC (.int 4))) from pe_ix ix_tup (pv 1) (pe_num (by rfl) mW) (fun _ _ => rfl)) pe_str (nomark _))) (fun _ _ _ _ _ => pv 1))), ?_⟩
    refine ⟨_, rfl, b, fk, t, n, age, zs, rfl, hB, hT, fun p zs' H1 eN T1 fr ep pm so => ?_⟩
    have hent : ∀ z ∈ zs', EntAt H1 z.1 z.2 := fun z hz => (hB.ent z (pm.mem_iff.mp hz)).kp (ExtN.tup eN)
    refine ⟨p, rfl, ⟨_, SqL.of ep⟩, fun D nD => ?_⟩
    have npD : p ≠ D := ne_of_none ep nD
    refine lc_list (K := K) (a := p) (xs := refs zs') (fun i H' => H' D = some (.lst (refs ((zs'.take i).filter fun z => !z.2.isDeed))) ∧ Same H1 H') ⟨upd_same, fun b o e => by rw [upd_ne (ne_of_none e nD)]; exact e⟩ (fun i H' _ h => SqL.of (h.2 _ _ ep)) ?_ ?_
    · rintro i x H' hx ⟨eD, sm⟩
      obtain ⟨z, hz, rfl⟩ := ref_at hx
      have hzm : z ∈ zs' := List.mem_of_getElem? hz
      obtain ⟨xs, ex, _, _, _, _, g4⟩ := ((hent z hzm).kp (Same.tup sm)).tup
      refine ⟨rfl, _, rfl, z.1, xs, 4, _, rfl, rfl, SqT.of ex, g4, rfl, _, rfl, ?_⟩
      have wd := (hB.ok.ok z.2 (List.mem_map.mpr ⟨z, pm.mem_iff.mp hzm, rfl⟩)).word
      have et := take_more hz
      refine ite2 (fun c => ?_) (fun c => ?_)
      · have hd : z.2.isDeed = false := by
          cases hh : z.2.isDeed with
          | false => rfl
          | true =>
            have c' : (!decide (V.str z.2.word = V.str "deed")) = true := c
            rw [wd.mpr hh] at c'
            simp at c'
        refine ⟨_, rfl, _, eD, small1000 ?_, ?_, fun b o e => ?_⟩
        · have h1 := List.length_filter_le (fun z : Addr × En => !z.2.isDeed) (zs'.take i)
          have h2 := pm.length_eq
          have h3 := hB.len
          rw [List.length_map]
          rw [List.length_take] at h1
          omega
        · rw [upd_same, et, List.filter_append]
          simp [hd, refs]
        · have nb : b ≠ D := ne_of_none e nD
          rw [upd_ne nb]
          exact sm _ _ e
      · have hd : z.2.isDeed = true := by
          cases hh : z.2.isDeed with
          | true => rfl
          | false =>
            refine absurd ?_ c
            show (!decide (V.str z.2.word = V.str "deed")) = true
            have : ¬ (V.str z.2.word = V.str "deed") := fun q => by
              injection q with q
              rw [wd.mp q] at hh
              cases hh
            rw [decide_eq_false this]
            rfl
        refine ⟨?_, sm⟩
        rw [eD, et, List.filter_append]
        simp [hd]
    · rintro H' ⟨eD, sm⟩
      have el : zs'.take (refs zs').length = zs' := List.take_of_length_le (by rw [List.length_map]; exact Nat.le_refl _)
      rw [el] at eD
      exact q D zs' H' (eN.trans (.of sm)) (T1.ext sm) (Fresh.of eN nD) eD pm so
end
end Deed

namespace Deed
open PySem PySem.Spec PyProof.Rows L2 LamX
section
variable {P : Program} {w : World} {K : PySem.W.Frag} {mg : Str → Option Value} {base : Heap} {fRi fDe : Addr} {dRi dDe : FuncData} {T : List (Addr × Str)}
abbrev sDeedsOf : Stmt := topS 6
theorem scDeedsOf : FnScope ["book", "entry"] ["book"] (defScope sDeedsOf) := ⟨rfl, rfl, rfl, by decide +kernel, rfl, by decide +kernel, by decide +kernel⟩
theorem ok_DeedsOf {f : Addr} {fd : FuncData} {k : Nat} (F : Fun K "deeds_of" "deeds_of" sDeedsOf f fd) (DE : Df K mg "deed_entries" sDeedE ["book"] fDe dDe) (GE : FnOk P w K mg base CX0 (k + 3) fDe dDe ["book"] (spPick (·.isDeed) T)) (mN : MgInt mg "NUMBER" 0) : FnOk P w K mg base CX0 (k + 4) f fd ["book"] (spNums (·.isDeed) T) := by
  refine F.ok scDeedsOf (fun vs H Q E h => ?_) (fun cdv A outer s H vs Q E hr h => ?_)
  · obtain ⟨b, fk, t, n, age, zs, rfl, _⟩ := h
    rfl
  · obtain ⟨b, fk, t, n, age, zs, rfl, hB, hT, q⟩ := h
    refine ⟨_, pss_one (ps_ret (pe_lc (own := [("entry", 1)]) (g := gName 1) (by rfl) scDeedsOf.nd (pi_list (pe_call GE hr (by rfl) DE.g DE.F.kp DE.b .nil pass0 (pa_cons (pv 0) pa_nil))) (blkOk_by (own := [("entry", 1)]) (N := ["book", "entry"]) (sc := defScope sDeedsOf) (by decide +kernel)) (fun _ _ _ _ _ => pg_name (i := 1) scDeedsOf.nd rfl (Or.inl rfl))
      (fun _ _ _ _ _ => pts_nil) (fun _ _ _ _ _ => show PE _ _ (tOp (rIxT K) (tVar 1) (tC (.int 0))) from pe_ix ix_tup (pv 1) (pe_num (by rfl) mN) (fun _ _ => rfl)))), ?_⟩
    refine ⟨_, rfl, b, fk, t, n, age, zs, rfl, hB, hT, fun p zs' H1 eN T1 fr ep pm so => ?_⟩
    have hent : ∀ z ∈ zs', EntAt H1 z.1 z.2 := fun z hz => (hB.ent z (pm.mem_iff.mp hz)).kp (ExtN.tup eN)
    refine ⟨p, rfl, ⟨_, SqL.of ep⟩, fun D nD => ?_⟩
    refine lc_list (K := K) (a := p) (xs := refs (zs'.filter fun z => (·.isDeed) z.2)) (fun i H' => H' D = some (.lst ((((zs'.filter fun z => (·.isDeed) z.2).take i).map fun z => z.2.num).map V.int)) ∧ Same H1 H') ⟨upd_same, fun b o e => by rw [upd_ne (ne_of_none e nD)]; exact e⟩ (fun i H' _ h => SqL.of (h.2 _ _ ep)) ?_ ?_
    · rintro i x H' hx ⟨eD, sm⟩
      obtain ⟨z, hz, rfl⟩ := ref_at hx
      have hzm : z ∈ zs' := (List.mem_filter.mp (List.mem_of_getElem? hz)).1
      obtain ⟨xs, ex, g0, _⟩ := ((hent z hzm).kp (Same.tup sm)).tup
      refine ⟨rfl, ?_⟩
      unfold tYes
      dsimp only
      rw [if_pos rfl]
      refine ⟨_, rfl, z.1, xs, 0, _, rfl, rfl, SqT.of ex, g0, _, eD, small1000 ?_, ?_, fun b o e => ?_⟩
      · have h1 := List.length_filter_le (fun z : Addr × En => (·.isDeed) z.2) zs'
        have h2 := pm.length_eq
        have h3 := hB.len
        rw [List.length_map, List.length_map, List.length_take]
        omega
      · rw [upd_same, take_more hz, List.map_append, List.map_append]
        rfl
      · have nb : b ≠ D := ne_of_none e nD
        rw [upd_ne nb]
        exact sm _ _ e
    · rintro H' ⟨eD, sm⟩
      have el : (zs'.filter fun z => (·.isDeed) z.2).take (refs (zs'.filter fun z => (·.isDeed) z.2)).length = zs'.filter fun z => (·.isDeed) z.2 := List.take_of_length_le (by rw [List.length_map]; exact Nat.le_refl _)
      rw [el] at eD
      exact q D zs' H' (eN.trans (.of sm)) (T1.ext sm) (Fresh.of eN nD) eD pm so
end
end Deed

namespace Deed
open PySem PySem.Spec PyProof.Rows L2 LamX
section
variable {P : Program} {w : World} {K : PySem.W.Frag} {mg : Str → Option Value} {base : Heap} {fRi fDe : Addr} {dRi dDe : FuncData} {T : List (Addr × Str)}
abbrev sActsOf : Stmt := topS 7
theorem scActsOf : FnScope ["book", "entry"] ["book"] (defScope sActsOf) := ⟨rfl, rfl, rfl, by decide +kernel, rfl, by decide +kernel, by decide +kernel⟩
theorem ok_ActsOf {f : Addr} {fd : FuncData} {k : Nat} (F : Fun K "acts_of" "acts_of" sActsOf f fd) (DE : Df K mg "act_entries" sActE ["book"] fDe dDe) (GE : FnOk P w K mg base CX0 (k + 3) fDe dDe ["book"] (spPick (fun e => !e.isDeed) T)) (mN : MgInt mg "NUMBER" 0) : FnOk P w K mg base CX0 (k + 4) f fd ["book"] (spNums (fun e => !e.isDeed) T) := by
  refine F.ok scActsOf (fun vs H Q E h => ?_) (fun cdv A outer s H vs Q E hr h => ?_)
  · obtain ⟨b, fk, t, n, age, zs, rfl, _⟩ := h
    rfl
  · obtain ⟨b, fk, t, n, age, zs, rfl, hB, hT, q⟩ := h
    refine ⟨_, pss_one (ps_ret (pe_lc (own := [("entry", 1)]) (g := gName 1) (by rfl) scActsOf.nd (pi_list (pe_call GE hr (by rfl) DE.g DE.F.kp DE.b .nil pass0 (pa_cons (pv 0) pa_nil))) (blkOk_by (own := [("entry", 1)]) (N := ["book", "entry"]) (sc := defScope sActsOf) (by decide +kernel)) (fun _ _ _ _ _ => pg_name (i := 1) scActsOf.nd rfl (Or.inl rfl))
      (fun _ _ _ _ _ => pts_nil) (fun _ _ _ _ _ => show PE _ _ (tOp (rIxT K) (tVar 1) (tC (.int 0))) from pe_ix ix_tup (pv 1) (pe_num (by rfl) mN) (fun _ _ => rfl)))), ?_⟩
    refine ⟨_, rfl, b, fk, t, n, age, zs, rfl, hB, hT, fun p zs' H1 eN T1 fr ep pm so => ?_⟩
    have hent : ∀ z ∈ zs', EntAt H1 z.1 z.2 := fun z hz => (hB.ent z (pm.mem_iff.mp hz)).kp (ExtN.tup eN)
    refine ⟨p, rfl, ⟨_, SqL.of ep⟩, fun D nD => ?_⟩
    refine lc_list (K := K) (a := p) (xs := refs (zs'.filter fun z => (fun e => !e.isDeed) z.2)) (fun i H' => H' D = some (.lst ((((zs'.filter fun z => (fun e => !e.isDeed) z.2).take i).map fun z => z.2.num).map V.int)) ∧ Same H1 H') ⟨upd_same, fun b o e => by rw [upd_ne (ne_of_none e nD)]; exact e⟩ (fun i H' _ h => SqL.of (h.2 _ _ ep)) ?_ ?_
    · rintro i x H' hx ⟨eD, sm⟩
      obtain ⟨z, hz, rfl⟩ := ref_at hx
      have hzm : z ∈ zs' := (List.mem_filter.mp (List.mem_of_getElem? hz)).1
      obtain ⟨xs, ex, g0, _⟩ := ((hent z hzm).kp (Same.tup sm)).tup
      refine ⟨rfl, ?_⟩
      unfold tYes
      dsimp only
      rw [if_pos rfl]
      refine ⟨_, rfl, z.1, xs, 0, _, rfl, rfl, SqT.of ex, g0, _, eD, small1000 ?_, ?_, fun b o e => ?_⟩
      · have h1 := List.length_filter_le (fun z : Addr × En => (fun e => !e.isDeed) z.2) zs'
        have h2 := pm.length_eq
        have h3 := hB.len
        rw [List.length_map, List.length_map, List.length_take]
        omega
      · rw [upd_same, take_more hz, List.map_append, List.map_append]
        rfl
      · have nb : b ≠ D := ne_of_none e nD
        rw [upd_ne nb]
        exact sm _ _ e
    · rintro H' ⟨eD, sm⟩
      have el : (zs'.filter fun z => (fun e => !e.isDeed) z.2).take (refs (zs'.filter fun z => (fun e => !e.isDeed) z.2)).length = zs'.filter fun z => (fun e => !e.isDeed) z.2 := List.take_of_length_le (by rw [List.length_map]; exact Nat.le_refl _)
      rw [el] at eD
      exact q D zs' H' (eN.trans (.of sm)) (T1.ext sm) (Fresh.of eN nD) eD pm so
end
end Deed

namespace Deed
open PySem PySem.Spec PyProof.Rows L2 LamX
theorem Tabs.kp {T : List (Addr × Str)} {H H' : Hp} {p : Addr} (t : Tabs T H) (k : Kp p H H') (P : PenAt H p) : Tabs T H' := fun q hq => by
  obtain ⟨ps, h1, h2, h3⟩ := t q hq
  refine ⟨ps, k _ _ (P.ne h1 fun _ z => by cases z) h1, h2, fun pos cv hc => ?_⟩
  obtain ⟨c, e1, e2⟩ := h3 pos cv hc
  exact ⟨c, e1, k _ _ (P.ne e2 fun _ z => by unfold CodeO at z; cases z) e2⟩
theorem ExtN.sqL {K : PySem.W.Frag} {H H' : Hp} {a : Addr} {xs : List V} (e : ExtN H H') (h : SqL K H a xs) : SqL K H' a xs := by
  rcases h with (z | ⟨o, z⟩) | z
  · exact .inl (.inl (e _ _ z fun ps z' => by cases z'))
  · exact .inl (.inr ⟨o, e _ _ z fun ps z' => by cases z'⟩)
  · exact .inr z
theorem ExtN.pen {H H' : Hp} {p : Addr} (e : ExtN H H') (h : PenAt H p) : PenAt H' p := by
  obtain ⟨x1, x2, x3, x4, z1, z2⟩ := h
  exact ⟨x1, x2, x3, x4, e _ _ z1 fun ps z => (by cases z), z2⟩
/-- with a pen that is new -/
theorem ExtN.kp {H H1 H2 : Hp} {p : Addr} (e : ExtN H H1) (n : H p = none) (k : Kp p H1 H2) : ExtN H H2 := fun b o z h => k b o (ne_of_none z n) (e b o z h)
theorem ExtN.put {H H' : Hp} {p : Addr} (e : ExtN H H') (f : Fresh H p) (o : HO) : ExtN H (upd H' p o) := fun b u z h => by
  rw [upd_ne (f.ne z h)]
  exact e b u z h
theorem rising_one : ∀ {l m : List Int}, l.Pairwise (· < ·) → m.Pairwise (· < ·) → (∀ x, x ∈ l ↔ x ∈ m) → l = m
  | [], [], _, _, _ => rfl
  | [], y :: m, _, _, h => absurd ((h y).mpr List.mem_cons_self) (by simp)
  | x :: l, [], _, _, h => absurd ((h x).mp List.mem_cons_self) (by simp)
  | x :: l, y :: m, h1, h2, h => by
    have a1 := List.pairwise_cons.mp h1
    have a2 := List.pairwise_cons.mp h2
    have exy : x = y := by
      have m1 := (h x).mp List.mem_cons_self
      have m2 := (h y).mpr List.mem_cons_self
      rcases List.mem_cons.mp m1 with e | e
      · exact e
      · rcases List.mem_cons.mp m2 with e' | e'
        · exact e'.symm
        · have := a1.1 y e'
          have := a2.1 x e
          omega
    subst exy
    congr 1
    refine rising_one a1.2 a2.2 fun z => ?_
    constructor
    · intro hz
      rcases List.mem_cons.mp ((h z).mp (List.mem_cons_of_mem _ hz)) with e | e
      · have := a1.1 z hz
        omega
      · exact e
    · intro hz
      rcases List.mem_cons.mp ((h z).mpr (List.mem_cons_of_mem _ hz)) with e | e
      · have := a2.1 z hz
        omega
      · exact e
/-- the picked numbers of an arrangement by numbers -/
def picked (φ : En → Bool) (zs : List (Addr × En)) : List Int := (zs.filter fun z => φ z.2).map fun z => z.2.num
theorem picked_up {φ : En → Bool} {zs : List (Addr × En)} (h : zs.Pairwise (fun a b => a.2.num < b.2.num)) : (picked φ zs).Pairwise (· < ·) := by
  unfold picked
  exact List.pairwise_map.mpr (h.filter _)
theorem mem_picked {φ : En → Bool} {zs : List (Addr × En)} {x : Int} : x ∈ picked φ zs ↔ ∃ z ∈ zs, φ z.2 = true ∧ z.2.num = x := by
  unfold picked
  simp only [List.mem_map, List.mem_filter]
  constructor
  · rintro ⟨z, ⟨h1, h2⟩, h3⟩
    exact ⟨z, h1, h2, h3⟩
  · rintro ⟨z, h1, h2, h3⟩
    exact ⟨z, ⟨h1, h2⟩, h3⟩
theorem picked_len (φ : En → Bool) (zs : List (Addr × En)) : (picked φ zs).length ≤ zs.length := by
  unfold picked
  rw [List.length_map]
  exact List.length_filter_le _ _
/-- two arrangements of the same entries -/
theorem picked_one {φ : En → Bool} {zs zs' : List (Addr × En)} (h : zs.Pairwise (fun a b => a.2.num < b.2.num)) (h' : zs'.Pairwise (fun a b => a.2.num < b.2.num)) (e : ∀ x, x ∈ ens zs ↔ x ∈ ens zs') : picked φ zs = picked φ zs' := by
  refine rising_one (picked_up h) (picked_up h') fun x => ?_
  rw [mem_picked, mem_picked]
  constructor
  · rintro ⟨z, h1, h2, h3⟩
    obtain ⟨z', h4, h5⟩ := List.mem_map.mp ((e z.2).mp (List.mem_map.mpr ⟨z, h1, rfl⟩))
    exact ⟨z', h4, by rw [h5]; exact h2, by rw [h5]; exact h3⟩
  · rintro ⟨z, h1, h2, h3⟩
    obtain ⟨z', h4, h5⟩ := List.mem_map.mp ((e z.2).mpr (List.mem_map.mpr ⟨z, h1, rfl⟩))
    exact ⟨z', h4, by rw [h5]; exact h2, by rw [h5]; exact h3⟩
theorem ens_perm {zs zs' : List (Addr × En)} (h : zs'.Perm zs) : ∀ x, x ∈ ens zs' ↔ x ∈ ens zs := fun x => (h.map _).mem_iff
end Deed

namespace Deed
open PySem PySem.Spec PyProof.Rows L2 LamX
section
variable {P : Program} {w : World} {K : PySem.W.Frag} {mg : Str → Option Value} {base : Heap} {T : List (Addr × Str)}
abbrev CellD (K : PySem.W.Frag) (mg : Str → Option Value) := Df K mg "_law_cell_at" sCell ["_law_script", "_law_k"]
abbrev PenD (K : PySem.W.Frag) (mg : Str → Option Value) := Df K mg "_law_pen" sPen ["_law_cell"]
abbrev BookD (K : PySem.W.Frag) (mg : Str → Option Value) := Df K mg "_law_book" sBook ["_law_pen_here", "_law_most"]
abbrev sLaw : Stmt := topS 19
abbrev nLaw : List Str := ["_law_script", "_law_k", "_law_pen_here", "_law_book_here", "_law_other", "_law_deeds", "_law_acts", "_law_one", "_law_some", "_law_others", "_law_number"]
theorem scLaw : FnScope nLaw ["_law_script"] (defScope sLaw) := ⟨rfl, rfl, rfl, by decide +kernel, rfl, by decide +kernel, by decide +kernel⟩
def qLaw : Str := "law.<locals>.<lambda>"
def spLaw (K : PySem.W.Frag) (T : List (Addr × Str)) : Sp := fun vs H Q _ => ∃ (a : Addr) (ns : List Int), vs = [.ref a] ∧ SqL K H a (ns.map V.int) ∧ ns.length ≤ 63 ∧ Tabs T H ∧ ∀ H', Q (.bl true) H'
def t_in (K : PySem.W.Frag) : TT := tAnd (tTest (tOp (rIn K false) (tVar 10) (tLc (iTup K (tOp (rIxT K) (tVar 3) (tC (.int 2)))) (gName 7) tYes (tOp (rIxT K) (tVar 7) (tC (.int 0))) (([("_law_one", 7)] : List (Str × Nat)).map (·.2))))) (tTest (tOp (rIn K true) (tVar 10) (tVar 5)))
/-- all that the law calls -/
structure All03 (P : Program) (w : World) (K : PySem.W.Frag) (mg : Str → Option Value) (base : Heap) (T : List (Addr × Str)) (fCe fPe fBo fMi fDs fAs : Addr) (dCe dPe dBo dMi dDs dAs : FuncData) : Prop where
  B : Bi mg
  ce : CellD K mg fCe dCe
  pe : PenD K mg fPe dPe
  bo : BookD K mg fBo dBo
  mi : MixedD K mg fMi dMi
  ds : Df K mg "deeds_of" sDeedsOf ["book"] fDs dDs
  as : Df K mg "acts_of" sActsOf ["book"] fAs dAs
  gce : FnOk P w K mg base CX0 7 fCe dCe ["_law_script", "_law_k"] (spCell K)
  gpe : FnOk P w K mg base CX0 7 fPe dPe ["_law_cell"] spPen
  gbo : FnOk P w K mg base CX0 7 fBo dBo ["_law_pen_here", "_law_most"] spBook
  gmi : FnOk P w K mg base CX0 7 fMi dMi ["_law_pen_here", "_law_some"] (spMixed K)
  gds : FnOk P w K mg base CX0 7 fDs dDs ["book"] (spNums (·.isDeed) T)
  gas : FnOk P w K mg base CX0 7 fAs dAs ["book"] (spNums (fun e => !e.isDeed) T)
theorem ok_law {f c tb fCe fPe fBo fMi fDs fAs : Addr} {fd dCe dPe dBo dMi dDs dAs : FuncData} (F : Fun K "law" "law" sLaw f fd) (hc : fd.code = .ref c) (TB : TabB base mg c tb) (hmT : (tb, qLaw) ∈ T) (hu : ∀ p ∈ T, p.1 = tb → p.2 = qLaw) (A3 : All03 P w K mg base T fCe fPe fBo fMi fDs fAs dCe dPe dBo dMi dDs dAs) :
    FnOk P w K mg base CX0 8 f fd ["_law_script"] (spLaw K T) := by
  obtain ⟨B, CE, PE', BO, MI, DS, AS, GCE, GPE, GBO, GMI, GDS, GAS⟩ := A3
  refine okC F hc scLaw (fun vs H Q E h => ?_) (fun A outer s H vs Q E hr h => ?_)
  · obtain ⟨a, ns, rfl, _⟩ := h
    rfl
  · obtain ⟨a, ns, rfl, hS, h63, hT, q⟩ := h
    have nd := scLaw.nd
    refine ⟨_, pss_cons (ps_for PassesOwn.never rfl (pi_range1 rfl B.range (pa_cons (pe_callB (call_max2 rfl) (by rfl) B.max (by decide +kernel) (pa_cons pe_int (pa_cons (pe_callB (call_min2 rfl) (by rfl) B.min (by decide +kernel) (pa_cons (pe_callB call_len_seq (by rfl) B.len PySem.boot_len (pa_cons (pv 0) pa_nil)) (pa_cons pe_int pa_nil))) pa_nil))) pa_nil)) (pg_name (i := 1) nd rfl (.inl rfl))
        (pss_cons (ps_set (i := 2) nd rfl (.inl rfl) (pe_call GPE hr (by rfl) PE'.g PE'.F.kp PE'.b .nil pass0 (pa_cons (pe_call GCE hr (by rfl) CE.g CE.F.kp CE.b .nil pass0 (pa_cons (pv 0) (pa_cons (pv 1) pa_nil))) pa_nil)))
        (pss_cons (ps_set (i := 3) nd rfl (.inr rfl) (pe_call GBO hr (by rfl) BO.g BO.F.kp BO.b .nil pass0 (pa_cons (pv 2) (pa_cons pe_int pa_nil))))
        (pss_cons (ps_set (i := 4) nd rfl (.inl rfl) (pe_tup (pa_cons (pe_ix ix_tup (pv 3) pe_int (fun _ _ => rfl)) (pa_cons (pe_ix ix_tup (pv 3) pe_int (fun _ _ => rfl)) (pa_cons (pe_callTy call_tuple_of (by rfl) B.tuple (by decide +kernel) (pa_cons (pe_call GMI hr (by rfl) MI.g MI.F.kp MI.b .nil pass0 (pa_cons (pv 2) (pa_cons (pe_ix ix_tup (pv 3) pe_int (fun _ _ => rfl)) pa_nil))) pa_nil)) pa_nil)))))
        (pss_cons (ps_set (i := 5) nd rfl (.inr rfl) (pe_lc (own := [("_law_one", 7)]) (g := gName 7) (by rfl) nd (pi_list (pe_sortK (T := T) (c := c) (P := tb) (k := 6) (by rfl) B.sorted (pa_cons (pe_ix ix_tup (pv 3) pe_int (fun _ _ => rfl)) pa_nil) hr TB rfl hmT hu rfl (by decide +kernel) rfl rfl rfl (by decide +kernel) rfl (fun _ _ _ _ _ _ => rfl) (fun env A E s' Q he hg hn hq => wpAny_Constant_int (hq _ _)) (fun _ _ => rfl) (by decide)))
            (blkOk_by (own := [("_law_one", 7)]) (N := nLaw) (sc := defScope sLaw) (by decide +kernel)) (fun _ _ _ _ _ => pg_name (i := 7) nd rfl (Or.inl rfl))
            (fun _ _ _ _ _ => pts_one (pt_cmpR op_eq (show PE _ _ (tOp (rIxT K) (tVar 7) (tC (.int 4))) from pe_ix ix_tup (pv 7) pe_int (fun _ _ => rfl)) pe_str (nomark _))) (fun _ _ _ _ _ => show PE _ _ (tOp (rIxT K) (tVar 7) (tC (.int 0))) from pe_ix ix_tup (pv 7) pe_int (fun _ _ => rfl))))
        (pss_cons (ps_setLc (i := 6) (own := [("_law_number", 10)]) (g := gName 10) (by rfl) nd rfl rfl (sw_true rfl rfl rfl (by decide +kernel)) (pi_range1 (by rfl) B.range (pa_cons pe_int pa_nil)) (blkOk_by (own := [("_law_number", 10)]) (N := nLaw) (sc := defScope sLaw) (by decide +kernel)) (fun _ _ _ _ _ => pg_name (i := 10) nd rfl (Or.inl rfl))
            (fun _ _ _ _ _ => show PTs _ _ (t_in K) from pts_one (PW.pt (pw_and (pt_cmpR op_in_seq (pv 10) (pe_lc (own := [("_law_one", 7)]) (g := gName 7) (by rfl) nd (pi_tup (pe_ix ix_tup (pv 3) pe_int (fun _ _ => rfl))) (blkOk_by (own := [("_law_one", 7)]) (N := nLaw) (sc := { kind := .function, names := [(".0", .local), ("_law_number", .local), ("_law_book_here", .cell), ("_law_deeds", .cell)], isGenerator := false, isCoroutine := false }) (by decide +kernel)) (fun _ _ _ _ _ => pg_name (i := 7) nd rfl (Or.inl rfl)) (fun _ _ _ _ _ => pts_nil) (fun _ _ _ _ _ => show PE _ _ (tOp (rIxT K) (tVar 7) (tC (.int 0))) from pe_ix ix_tup (pv 7) pe_int (fun _ _ => rfl))) (by rfl))
              (pw_and1 (pt_cmpR op_notIn_seq (pv 10) (pv 5) (by rfl)))))) (fun _ _ _ _ _ => pv 10))
        (pss_one (ps_for PassesOwn.never rfl (pi_tup (pe_tup (pa_cons (pv 3) (pa_cons (pv 4) (pa_cons (pv 3) pa_nil))))) (pg_name (i := 7) nd rfl (.inl rfl))
          (pss_cons (ps_par (i := 8) (j := 9) (by rfl) nd rfl rfl (by decide) rfl rfl (pa_cons (pe_call GDS hr (by rfl) DS.g DS.F.kp DS.b .nil pass0 (pa_cons (pv 7) pa_nil)) (pa_cons (pe_call GAS hr (by rfl) AS.g AS.F.kp AS.b .nil pass0 (pa_cons (pv 7) pa_nil)) pa_nil)) (by rfl))
          (pss_cons (ps_if (PW.pt (pw_or (pt_cmpR (op_neD hr.units) (pv 8) (pv 5) (nomark _)) (pw_or1 (pt_cmpR (op_neD hr.units) (pv 9) (pv 6) (nomark _))))) (pss_one (ps_ret pe_bl)) pss_nil)
          (pss_cons (ps_expr (pe_bm PySem.F.plainAttrs_list PySem.F.slot_list_append PySem.F.type_list_append mt_append (pv 8) (pa_cons pe_int pa_nil)))
          (pss_one (ps_expr (pe_bm0 PySem.F.plainAttrs_list PySem.F.slot_list_clear PySem.F.type_list_clear mt_clear (pv 9)))))))))))))))
      (pss_one (ps_ret pe_bl)), ?_⟩
    have hl : (ns.map V.int).length = ns.length := List.length_map _
    refine ⟨_, rfl, a, _, rfl, .inl hS, _, _, rfl, _, _, rfl, ?_⟩
    rw [hl]
    obtain ⟨tn, etn, ht0, ht3⟩ : ∃ tn : Int, (if (if 3 < (ns.length : Int) then 3 else (ns.length : Int)) > 1 then (if 3 < (ns.length : Int) then 3 else (ns.length : Int)) else 1) = tn ∧ 0 ≤ tn ∧ tn ≤ 3 := ⟨_, rfl, by split <;> split <;> omega, by split <;> split <;> omega⟩
    rw [etn]
    refine ⟨_, rfl, by omega, by omega, ?_⟩
    refine for_range (lo := 0) (n := tn.toNat) (fun i σ H' => ∃ r, σ = some (.ref a) :: r ∧ r.length = 10 ∧ ExtN H H' ∧ Tabs T H') ⟨_, rfl, rfl, ExtN.refl H, hT⟩ ?_ ?_
    · rintro i σ H' hi ⟨r, rfl, hrl, eN, T'⟩
      obtain ⟨y1, y2, y3, y4, y5, y6, y7, y8, y9, y10, rfl⟩ : ∃ y1 y2 y3 y4 y5 y6 y7 y8 y9 y10, r = [y1, y2, y3, y4, y5, y6, y7, y8, y9, y10] := by
        match r, hrl with
        | [a, b, c, d, e, f, g, h, i, j], _ => exact ⟨a, b, c, d, e, f, g, h, i, j, rfl⟩
      -- pen
      refine ⟨_, rfl, _, rfl, a, ns, _, rfl, ExtN.sqL eN hS, by omega, fun cv => ?_⟩
      refine ⟨cv, rfl, fun p H1 s1 np P1 => ?_⟩
      have e1 : ExtN H' H1 := .of s1
      have T1 : Tabs T H1 := T'.ext s1
      -- book
      refine ⟨_, rfl, p, 16, rfl, P1, by decide, by decide, fun b fk t n age zs H2 k2 P2 hB _ => ?_⟩
      have e2 : ExtN H' H2 := ExtN.kp e1 np k2
      have T2 := Tabs.kp T1 k2 P1
      -- other
      refine ⟨_, rfl, b, _, 0, _, rfl, rfl, SqT.of hB.at_, atI_nat (j := 0) rfl, ?_⟩
      refine ⟨_, rfl, b, _, 1, _, rfl, rfl, SqT.of hB.at_, atI_nat (j := 1) rfl, ?_⟩
      refine ⟨_, rfl, _, rfl, b, _, 2, _, rfl, rfl, SqT.of hB.at_, atI_nat (j := 2) rfl, p, t, refs zs, rfl, P2, .inr (SqT.of hB.ents), by rw [List.length_map]; have := hB.len; omega, fun l ys H3 k3 P3 nl el pm3 => ?_⟩
      refine ⟨l, ys, rfl, .inl ⟨SqL.of el, fun t2 nt2 => ?_⟩⟩
      have k4 : Kp p H3 (upd H3 t2 (.tup ys)) := Kp.new nt2 _
      have P4 := P3.new nt2 (.tup ys)
      have et2 : (upd H3 t2 (.tup ys)) t2 = some (.tup ys) := upd_same
      generalize (upd H3 t2 (.tup ys)) = H4 at k4 P4 et2
      refine ⟨(by show 3 ≤ sizeLine; decide), fun b2 nb2 => ?_⟩
      have k5 : Kp p H4 (upd H4 b2 (.tup [.ref fk, .int age, .ref t2])) := Kp.new nb2 _
      have P5 := P4.new nb2 (.tup [.ref fk, .int age, .ref t2])
      have eb2 : (upd H4 b2 (.tup [.ref fk, .int age, .ref t2])) b2 = some (.tup [.ref fk, .int age, .ref t2]) := upd_same
      generalize (upd H4 b2 (.tup [.ref fk, .int age, .ref t2])) = H5 at k5 P5 eb2
      have k25 := k3.trans (k4.trans k5)
      have e5 : ExtN H' H5 := ExtN.kp e2 np k25
      have T5 := Tabs.kp T2 k25 P2
      have hB5 : BookAt H5 b fk t n age zs := hB.kp (k25.tup P2)
      obtain ⟨zs2, hy2, pm2⟩ := perm_pairs (fun z : Addr × En => V.ref z.1) pm3 zs rfl
      have hO5 : BookAt H5 b2 fk t2 n age zs2 := ⟨eb2, hB5.folk, hB5.n2, hB5.n6, hB5.age0, hB5.age1, by rw [k5.tup P4 _ _ et2, hy2], fun z hz => hB5.ent z (pm2.mem_iff.mp hz), hB5.ok.perm (pm2.map _), by rw [pm2.length_eq]; exact hB5.len⟩
      -- deeds
      refine ⟨_, rfl, b, _, 2, _, rfl, rfl, SqT.of hB5.at_, atI_nat (j := 2) rfl, t, refs zs, keyAt H5, rfl, .inr (SqT.of hB5.ents), fun y hy => ?_, T5, fun p6 ys6 H6 e6 T6 n6 pm6 so6 => ?_⟩
      · obtain ⟨z, hz, rfl⟩ := List.mem_map.mp hy
        obtain ⟨r, h1, h2⟩ := (hB5.ent z hz).key
        exact ⟨z.1, r, rfl, by rw [h2]; exact h1⟩
      obtain ⟨zs6, rfl, hp6⟩ := perm_pairs (fun z : Addr × En => V.ref z.1) pm6 zs rfl
      have up6 := srt_num (fun z hz => hB5.ent z (hp6.mem_iff.mp hz)) (((hp6.map _).map _).nodup_iff.mpr hB5.ok.nd) so6
      have e7 : ExtN H5 (upd H6 p6 (.lst (refs zs6))) := e6.trans (ExtN.new n6 _)
      have T7 : Tabs T (upd H6 p6 (.lst (refs zs6))) := Tabs.new T6 n6 _
      have ep7 : (upd H6 p6 (.lst (refs zs6))) p6 = some (.lst (refs zs6)) := upd_same
      generalize (upd H6 p6 (.lst (refs zs6))) = H7 at e7 T7 ep7
      have hB7 : BookAt H7 b fk t n age zs := hB5.kp (ExtN.tup e7)
      refine ⟨p6, rfl, ⟨_, SqL.of ep7⟩, fun D nD => ?_⟩
      refine lc_list (K := K) (a := p6) (xs := refs zs6) (fun i H' => H' D = some (.lst (((picked (·.isDeed) (zs6.take i))).map V.int)) ∧ Same H7 H') ⟨upd_same, fun b o e => by rw [upd_ne (ne_of_none e nD)]; exact e⟩ (fun i H' _ h => SqL.of (h.2 _ _ ep7)) ?_ ?_
      · rintro i x H8 hx ⟨eD, sm⟩
        obtain ⟨z, hz, rfl⟩ := ref_at hx
        have hzm : z ∈ zs := hp6.mem_iff.mp (List.mem_of_getElem? hz)
        obtain ⟨xs, ex, g0, _, _, _, g4⟩ := ((hB7.ent z hzm).kp (Same.tup sm)).tup
        have wd := (hB7.ok.ok z.2 (List.mem_map.mpr ⟨z, hzm, rfl⟩)).word
        have et := take_more hz
        refine ⟨rfl, _, rfl, z.1, xs, 4, _, rfl, rfl, SqT.of ex, g4, rfl, _, rfl, ?_⟩
        refine ite2 (fun c => ?_) (fun c => ?_)
        · have hd : z.2.isDeed = true := wd.mp (by
            have := of_decide_eq_true c
            injection this)
          refine ⟨_, rfl, z.1, xs, 0, _, rfl, rfl, SqT.of ex, g0, _, eD, small1000 ?_, ?_, fun b o e => ?_⟩
          · have h1 := picked_len (·.isDeed) (zs6.take i)
            have h2 := hp6.length_eq
            have h3 := hB7.len
            rw [List.length_map]
            rw [List.length_take] at h1
            omega
          · unfold picked
            rw [upd_same, et, List.filter_append]
            simp [hd]
          · have nb : b ≠ D := ne_of_none e nD
            rw [upd_ne nb]
            exact sm _ _ e
        · have hd : z.2.isDeed = false := by
            cases hh : z.2.isDeed with
            | false => rfl
            | true =>
              refine absurd (decide_eq_true ?_) c
              rw [wd.mpr hh]
          refine ⟨?_, sm⟩
          unfold picked at eD ⊢
          rw [eD, et, List.filter_append]
          simp [hd]
      rintro H8 ⟨eD8, sm8⟩
      have el6 : zs6.take (refs zs6).length = zs6 := List.take_of_length_le (by rw [List.length_map]; exact Nat.le_refl _)
      rw [el6] at eD8
      have T8 : Tabs T H8 := T7.ext sm8
      have hB8 : BookAt H8 b fk t n age zs := hB7.kp (Same.tup sm8)
      have hO8 : BookAt H8 b2 fk t2 n age zs2 := (hO5.kp (ExtN.tup e7)).kp (Same.tup sm8)
      have e8 : ExtN H' H8 := e5.trans (e7.trans (.of sm8))
      -- acts
      refine ⟨31, rfl, by decide, by decide, fun G nG => ?_⟩
      refine lc_range (lo := 0) (n := (31 : Int).toNat) (fun i H' => ∃ as : List Int, H' G = some (.lst (as.map V.int)) ∧ Same H8 H' ∧ as.length ≤ i ∧ as.Pairwise (· < ·) ∧ ∀ x, x ∈ as ↔ 0 ≤ x ∧ x < (i : Int) ∧ x ∈ (ens zs).map (·.num) ∧ x ∉ picked (·.isDeed) zs6)
        ⟨[], upd_same, fun b o e => by rw [upd_ne (ne_of_none e nG)]; exact e, Nat.le_refl _, .nil, fun x => ⟨fun h => (nomatch h), fun h => by have := h.1; have := h.2.1; omega⟩⟩ ?_ ?_
      · rintro i H9 hi9 ⟨as, eG, sm9, hal, hup, hmem⟩
        have hB9 : BookAt H9 b fk t n age zs := hB8.kp (Same.tup sm9)
        refine ⟨rfl, _, rfl, _, rfl, b, _, 2, _, rfl, rfl, SqT.of hB9.at_, atI_nat (j := 2) rfl, t, rfl, ⟨_, SqT.of hB9.ents⟩, fun M nM => ?_⟩
        refine lc_tup (K := K) (a := t) (xs := refs zs) (fun i H' => H' M = some (.lst ((((ens zs).take i).map (·.num)).map V.int)) ∧ Same H9 H') ⟨upd_same, fun b o e => by rw [upd_ne (ne_of_none e nM)]; exact e⟩ (fun i H' _ h => SqT.of (Same.tup h.2 _ _ hB9.ents)) ?_ ?_
        · rintro j x H10 hx ⟨eM, sm10⟩
          obtain ⟨z, hz, rfl⟩ := ref_at hx
          obtain ⟨xs, ex, g0, _⟩ := ((hB9.ent z (List.mem_of_getElem? hz)).kp (Same.tup sm10)).tup
          refine ⟨rfl, ?_⟩
          unfold tYes
          dsimp only
          rw [if_pos rfl]
          have hz' : (ens zs)[j]? = some z.2 := by rw [List.getElem?_map, hz]; rfl
          refine ⟨_, rfl, z.1, xs, 0, _, rfl, rfl, SqT.of ex, g0, _, eM, small1000 ?_, ?_, fun b o e => ?_⟩
          · have h3 := hB9.len
            rw [List.length_map, List.length_map, List.length_take, List.length_map]
            omega
          · rw [upd_same, take_more hz', List.map_append, List.map_append]
            rfl
          · have nb : b ≠ M := ne_of_none e nM
            rw [upd_ne nb]
            exact sm10 _ _ e
        · rintro H10 ⟨eM, sm10⟩
          have elM : (ens zs).take (refs zs).length = ens zs := List.take_of_length_le (by rw [List.length_map, List.length_map]; exact Nat.le_refl _)
          rw [elM] at eM
          have eG10 := sm10 _ _ eG
          have eD10 := sm10 _ _ (sm9 _ _ eD8)
          refine ⟨M, _, rfl, .inl (SqL.of eM), rfl, flat_ints _, _, rfl, ?_⟩
          rw [mem_inV]
          refine ite2 (fun c1 => ?_) (fun c1 => ?_)
          · have c1' := of_decide_eq_true c1
            refine ⟨_, rfl, _, rfl, D, _, rfl, .inl (SqL.of eD10), rfl, flat_ints _, _, rfl, ?_⟩
            rw [mem_inV]
            refine ite2 (fun c2 => ?_) (fun c2 => ?_)
            · have c2' : ¬ (0 + (i : Int)) ∈ picked (·.isDeed) zs6 := by simpa using c2
              refine ⟨_, rfl, _, eG10, small1000 (by rw [List.length_map]; omega), as ++ [0 + (i : Int)], ?_, fun b o e => ?_, ?_, ?_, fun x => ?_⟩
              · rw [upd_same, List.map_append]
                rfl
              · rw [upd_ne (ne_of_none e nG)]
                exact sm10 _ _ (sm9 _ _ e)
              · rw [List.length_append]
                show as.length + 1 ≤ i + 1
                omega
              · refine List.pairwise_append.mpr ⟨hup, List.pairwise_singleton _ _, fun x hx y hy => ?_⟩
                rw [List.mem_singleton.mp hy]
                have := (hmem x).mp hx
                omega
              · rw [List.mem_append, hmem x, List.mem_singleton]
                constructor
                · rintro (h | h)
                  · exact ⟨h.1, by omega, h.2.2⟩
                  · subst h
                    exact ⟨by omega, by omega, c1', c2'⟩
                · rintro ⟨h1, h2, h3⟩
                  by_cases hx : x = 0 + (i : Int)
                  · exact .inr hx
                  · exact .inl ⟨h1, by omega, h3⟩
            · have c2' : (0 + (i : Int)) ∈ picked (·.isDeed) zs6 := by simpa using c2
              refine ⟨as, eG10, fun b o e => sm10 _ _ (sm9 _ _ e), by omega, hup, fun x => ?_⟩
              rw [hmem x]
              constructor
              · rintro h
                exact ⟨h.1, by omega, h.2.2⟩
              · rintro ⟨h1, h2, h3, h4⟩
                refine ⟨h1, ?_, h3, h4⟩
                have : x ≠ 0 + (i : Int) := fun z => h4 (z ▸ c2')
                omega
          · have c1' : ¬ (0 + (i : Int)) ∈ (ens zs).map (·.num) := fun z => c1 (decide_eq_true z)
            refine iteF ?_
            refine ⟨as, eG10, fun b o e => sm10 _ _ (sm9 _ _ e), by omega, hup, fun x => ?_⟩
            rw [hmem x]
            constructor
            · rintro h
              exact ⟨h.1, by omega, h.2.2⟩
            · rintro ⟨h1, h2, h3, h4⟩
              refine ⟨h1, ?_, h3, h4⟩
              have : x ≠ 0 + (i : Int) := fun z => c1' (z ▸ h3)
              omega
      rintro H9 ⟨as, eG, sm9, hal, hup, hmem⟩
      have T9 : Tabs T H9 := T8.ext sm9
      have hB9 : BookAt H9 b fk t n age zs := hB8.kp (Same.tup sm9)
      have hO9 : BookAt H9 b2 fk t2 n age zs2 := hO8.kp (Same.tup sm9)
      have eD9 := sm9 _ _ eD8
      have e9 : ExtN H' H9 := e8.trans (.of sm9)
      -- what both are
      have dsEq : ∀ (zz z3 : List (Addr × En)), (∀ x, x ∈ ens zz ↔ x ∈ ens zs) → z3.Perm zz → z3.Pairwise (fun a b => a.2.num < b.2.num) → picked (·.isDeed) z3 = picked (·.isDeed) zs6 := fun zz z3 hz h1 h2 =>
        picked_one h2 up6 fun x => ((ens_perm h1 x).trans (hz x)).trans (ens_perm hp6 x).symm
      have asEq : ∀ (zz z3 : List (Addr × En)), (∀ x, x ∈ ens zz ↔ x ∈ ens zs) → z3.Perm zz → z3.Pairwise (fun a b => a.2.num < b.2.num) → picked (fun e => !e.isDeed) z3 = as := fun zz z3 hz h1 h2 => by
        refine rising_one (picked_up h2) hup fun x => ?_
        rw [hmem x, mem_picked]
        constructor
        · rintro ⟨z, m1, m2, rfl⟩
          have mz : z.2 ∈ ens zs := (hz _).mp ((ens_perm h1 _).mp (List.mem_map.mpr ⟨z, m1, rfl⟩))
          have rg := hB9.ok.rng _ mz
          refine ⟨rg.1, ?_, List.mem_map.mpr ⟨_, mz, rfl⟩, fun m3 => ?_⟩
          · show z.2.num < 31
            omega
          · obtain ⟨z', m4, m5, m6⟩ := mem_picked.mp m3
            have mz' : z'.2 ∈ ens zs := (ens_perm hp6 _).mp (List.mem_map.mpr ⟨z', m4, rfl⟩)
            obtain ⟨i1, hi1, ei1⟩ := List.mem_iff_getElem.mp mz
            obtain ⟨i2, hi2, ei2⟩ := List.mem_iff_getElem.mp mz'
            have ee : z.2 = z'.2 := by
              have h1 : ((ens zs).map (·.num))[i1]? = some z.2.num := by rw [List.getElem?_map, List.getElem?_eq_getElem hi1, ei1]; rfl
              have h2 : ((ens zs).map (·.num))[i2]? = some z.2.num := by rw [List.getElem?_map, List.getElem?_eq_getElem hi2, ei2, ← m6]; rfl
              have h3 := nd_ix hB9.ok.nd h1 h2
              subst h3
              rw [← ei1, ← ei2]
            rw [ee, m5] at m2
            cases m2
        · rintro ⟨_, _, m3, m4⟩
          obtain ⟨e0, me, rfl⟩ := List.mem_map.mp m3
          obtain ⟨z, mz, rfl⟩ := List.mem_map.mp ((ens_perm h1 _).mpr ((hz _).mpr me))
          refine ⟨z, mz, ?_, rfl⟩
          cases hd : z.2.isDeed with
          | false => rfl
          | true =>
            refine absurd ?_ m4
            obtain ⟨z', mz', ez'⟩ := List.mem_map.mp ((ens_perm hp6 _).mpr me)
            exact mem_picked.mpr ⟨z', mz', by rw [ez']; exact hd, by rw [ez']⟩
      -- the three
      refine ⟨_, rfl, _, rfl, _, rfl, (by show 3 ≤ sizeLine; decide), fun tt ntt => ?_⟩
      have e10 : ExtN H9 (upd H9 tt (.tup [.ref b, .ref b2, .ref b])) := ExtN.new ntt _
      have T10 : Tabs T (upd H9 tt (.tup [.ref b, .ref b2, .ref b])) := Tabs.new T9 ntt _
      have ett : (upd H9 tt (.tup [.ref b, .ref b2, .ref b])) tt = some (.tup [.ref b, .ref b2, .ref b]) := upd_same
      generalize (upd H9 tt (.tup [.ref b, .ref b2, .ref b])) = H10 at e10 T10 ett
      refine ⟨tt, rfl, ⟨_, SqT.of ett⟩, ?_⟩
      refine for_tup (K := K) (a := tt) (xs := [.ref b, .ref b2, .ref b]) (fun j σ H11 => ∃ y7 y8 y9, σ = [some (.ref a), some (.int (0 + (i : Int))), some (.ref p), some (.ref b), some (.ref b2), some (.ref D), some (.ref G), y7, y8, y9, y10] ∧ ExtN H10 H11 ∧ Tabs T H11) ⟨y7, y8, y9, rfl, ExtN.refl _, T10⟩ (fun j σ H11 _ h => ?_) ?_ ?_
      · obtain ⟨_, _, _, _, e11, _⟩ := h
        exact SqT.of (ExtN.tup e11 _ _ ett)
      · rintro j x σ H11 hx ⟨z7, z8, z9, rfl, e11, T11⟩
        have hx' : ∃ bb t' zz, x = .ref bb ∧ BookAt H9 bb fk t' n age zz ∧ ∀ x, x ∈ ens zz ↔ x ∈ ens zs := by
          have hm : x ∈ [V.ref b, V.ref b2, V.ref b] := List.mem_of_getElem? hx
          rcases List.mem_cons.mp hm with e | hm
          · exact ⟨b, t, zs, e, hB9, fun _ => Iff.rfl⟩
          · rcases List.mem_cons.mp hm with e | hm
            · exact ⟨b2, t2, zs2, e, hO9, ens_perm pm2⟩
            · exact ⟨b, t, zs, List.mem_singleton.mp hm, hB9, fun _ => Iff.rfl⟩
        obtain ⟨bb, t', zz, rfl, hBB, hzz⟩ := hx'
        have e911 : ExtN H9 H11 := e10.trans e11
        have hB11 := hBB.kp (ExtN.tup e911)
        refine ⟨_, rfl, bb, fk, t', n, age, zz, rfl, hB11, T11, fun q1 z1 H12 e12 T12 f12 eq1 pm1 so1 => ?_⟩
        refine ⟨_, rfl, bb, fk, t', n, age, zz, rfl, hB11.kp (ExtN.tup e12), T12, fun q2 z2 H13 e13 T13 f13 eq2 pm2' so2 => ⟨_, _, rfl, ?_⟩⟩
        have e913 : ExtN H9 H13 := e911.trans (e12.trans e13)
        have nl : ∀ xs : List V, ∀ ps, HO.lst xs ≠ .tbl ps := fun xs ps z => by cases z
        have eq1' := e13 _ _ eq1 (nl _)
        have eD13 := e913 _ _ eD9 (nl _)
        have eG13 := e913 _ _ eG (nl _)
        have l1 : picked (·.isDeed) z1 = picked (·.isDeed) zs6 := dsEq zz z1 hzz pm1 so1
        have l2 : picked (fun e => !e.isDeed) z2 = as := asEq zz z2 hzz pm2' so2
        have u1 : H13 q1 = some (.lst ((picked (·.isDeed) zs6).map V.int)) := by rw [← l1]; exact eq1'
        have u2 : H13 q2 = some (.lst (as.map V.int)) := by rw [← l2]; exact eq2
        have n12 : q1 ≠ q2 := f13.ne eq1 (nl _)
        refine ⟨_, rfl, _, rfl, .list ((picked (·.isDeed) zs6).map .int), .list ((picked (·.isDeed) zs6).map .int), .lst (SqL.of u1) (dp_ints _), .lst (SqL.of eD13) (dp_ints _), shaped_ints _, shaped_ints _, _, rfl, ?_⟩
        rw [eqv_ints, decide_eq_true rfl]
        refine iteF ?_
        refine ⟨_, rfl, _, rfl, .list (as.map .int), .list (as.map .int), .lst (SqL.of u2) (dp_ints _), .lst (SqL.of eG13) (dp_ints _), shaped_ints _, shaped_ints _, _, rfl, ?_⟩
        rw [eqv_ints, decide_eq_true rfl]
        refine iteF ?_
        refine ⟨_, rfl, .inl ⟨rfl, _, SqL.of u1⟩, q1, _, _, rfl, rfl, u1, small1000 ?_, ?_⟩
        · have h1 := picked_len (·.isDeed) zs6
          have h2 := hp6.length_eq
          have h3 := hB9.len
          rw [List.length_map]
          omega
        have u3 : (upd H13 q1 (.lst ((picked (·.isDeed) zs6).map V.int ++ [.int 0]))) q2 = some (.lst (as.map V.int)) := by rw [upd_ne n12.symm]; exact u2
        refine ⟨_, rfl, .inl ⟨rfl, _, SqL.of u3⟩, q2, _, rfl, rfl, u3, ?_⟩
        refine ⟨_, _, _, rfl, ?_, Tabs.put (Tabs.put T13 u1 _) u3 _⟩
        have e1013 : ExtN H10 H13 := e11.trans (e12.trans e13)
        exact ExtN.put (ExtN.put e1013 (Fresh.up e11 f12) _) (Fresh.up (e11.trans e12) f13) _
      · rintro σ H11 ⟨z7, z8, z9, rfl, e11, T11⟩
        exact ⟨_, rfl, rfl, eN.trans (e9.trans (e10.trans e11)), T11⟩
    · rintro σ H' _
      exact q H'
end
end Deed

namespace Deed
open PySem PySem.Spec PyProof.Rows L2 LamX
/-! ### the end: the facts by names -/
def mkD (x : Str) (st : Stmt) : He.DefD := ⟨(x, none), x, x, defArgs st, defBody st, defScope st, [], []⟩
def mkDd (x : Str) (st : Stmt) (dfl : List He.Dv) : He.DefD := ⟨(x, none), x, x, defArgs st, defBody st, defScope st, dfl, []⟩
def fnAll : List He.DefD := [mkD "_law_cell_at" sCell, mkD "_law_pen" sPen, mkD "_law_draw" sDraw, mkD "_law_day" sDay, mkD "_law_folk" sFolk, mkD "_law_few" sFew, mkD "_law_deed" sDeed, mkD "_law_entry" sEntry, mkD "_law_mixed" sMixed, mkD "_law_book" sBook, mkD "entries_rising" sRising, mkD "deed_entries" sDeedE, mkD "act_entries" sActE, mkD "deeds_of" sDeedsOf, mkD "acts_of" sActsOf, mkD "law" sLaw]
def faAll : List He.Fa := [.glo "_law_cell_at", .glo "_law_pen", .glo "_law_draw", .glo "_law_day", .glo "_law_folk", .glo "_law_few", .glo "_law_deed", .glo "_law_entry", .glo "_law_mixed", .glo "_law_book", .glo "entries_rising", .glo "deed_entries", .glo "act_entries", .glo "deeds_of", .glo "acts_of", .glo "law", .free "range", .free "min", .free "max", .free "tuple", .free "list", .free "len", .free "sorted", .free "int", .int "NUMBER" 0, .int "WORD" 4]
def tfAll : List He.Defn := [("entries_rising", none), ("law", none)]
abbrev tsAll : List He.Tab := []
def exAll (K : PySem.W.Frag) : Bool := decide ((He.cT K ("entries_rising", none)).2 ≠ (He.cT K ("law", none)).2)
abbrev rowR : PySem.W.OpenRow := PySem.W.OpenLaw.row PySem.Challenge.rw_deedsheaf_k03_deeds_and_acts_listed
abbrev hk : PySem.W.Hook := He.hookX 4 faAll fnAll tsAll tfAll exAll
def ob (s : PySem.W.SharedT) : He.AlX := He.obsX 4 faAll fnAll tsAll tfAll exAll (HandSHeadRun.getT s)
theorem ob_eq (s : PySem.W.SharedT) : ob s = hk.obs s.abs := He.obsX_eq (HandSHeadRun.getT_eq s)
def looseAll : List Str := (["NUMBER", "WORD", "entries_rising", "deed_entries", "act_entries", "deeds_of", "acts_of", "_law_cell_at", "_law_pen", "_law_draw", "_law_day", "_law_folk"] : List Str) ++ (["_law_few", "_law_deed", "_law_entry", "_law_mixed", "_law_book"] : List Str)
theorem run (w : World) : HandSHeadRun.RunEq rowR (PySem.W.view rowR.prog [19]) hk ob 6000 looseAll w := by
  intro os
  kernel_rfl
theorem funOf {K : PySem.W.Frag} {x : Str} {st : Stmt} {f : Addr} {fd : FuncData} (F : FunD K x x (defArgs st) (defBody st) (defScope st) [] [] f fd) : Fun K x x st f fd := by
  obtain ⟨oc, od, dV, kV, doc, pm, an, cdv, ct, osl, e, lk, hcd, hD, hK⟩ := F.ex
  rcases hD with ⟨_, hD⟩ | ⟨hD, _⟩
  · subst hD
    exact ⟨⟨oc, od, kV, doc, pm, an, cdv, ct, osl, e, lk, hcd⟩, F.kp⟩
  · exact absurd rfl hD
theorem codeAt {K : PySem.W.Frag} {x : Str} {st : Stmt} {p : He.Defn} {fd : FuncData} (F : Fun K x x st (He.fAd K p) fd) : fd.code = .ref (He.cT K p).1 := by
  obtain ⟨oc, od, kV, doc, pm, an, cdv, ct, osl, e, lk, hcd⟩ := F.ex
  obtain ⟨c, ec⟩ := He.codeIn_ref hcd
  have e2 : fd.code = .ref c := by rw [e, ← ec]
  rw [show (He.cT K p).1 = c from He.codeOf_eq lk e2]
  exact e2
theorem facts {l : PySem.W.OpenLaw} {w : World} {K : PySem.W.Frag} {h : Heap} {mg : Str → Option Value} {f : Addr} (X : K.In h) (G : h.Ns mainGlobals mg) (hfa : mg ("law" : Str) = some (.ref f)) (c : He.SaysX faAll fnAll tsAll tfAll exAll w h K) : LawAtS l w K CX0 8 63 "_law_script" mg f h := by
  obtain ⟨d0, F0'⟩ := c.t.d.def_ 0 (d := mkD "_law_cell_at" sCell) rfl
  have g0 := He.glo_ok X G (c.t.d.fact 0 (f := .glo "_law_cell_at") rfl)
  have F0 : Fun K "_law_cell_at" "_law_cell_at" sCell (He.fAd K ("_law_cell_at", none)) d0 := funOf F0'
  have D0 : Df K mg "_law_cell_at" sCell ["_law_script", "_law_k"] _ d0 := ⟨F0, F0.binds (ps := ["_law_script", "_law_k"]) (fun _ _ _ _ _ _ us hl => match us, hl with | [_, _], _ => rfl), g0⟩
  obtain ⟨d1, F1'⟩ := c.t.d.def_ 1 (d := mkD "_law_pen" sPen) rfl
  have g1 := He.glo_ok X G (c.t.d.fact 1 (f := .glo "_law_pen") rfl)
  have F1 : Fun K "_law_pen" "_law_pen" sPen (He.fAd K ("_law_pen", none)) d1 := funOf F1'
  have D1 : Df K mg "_law_pen" sPen ["_law_cell"] _ d1 := ⟨F1, F1.binds (ps := ["_law_cell"]) (fun _ _ _ _ _ _ us hl => match us, hl with | [_], _ => rfl), g1⟩
  obtain ⟨d2, F2'⟩ := c.t.d.def_ 2 (d := mkD "_law_draw" sDraw) rfl
  have g2 := He.glo_ok X G (c.t.d.fact 2 (f := .glo "_law_draw") rfl)
  have F2 : Fun K "_law_draw" "_law_draw" sDraw (He.fAd K ("_law_draw", none)) d2 := funOf F2'
  have D2 : Df K mg "_law_draw" sDraw ["_law_pen_here", "_law_bound"] _ d2 := ⟨F2, F2.binds (ps := ["_law_pen_here", "_law_bound"]) (fun _ _ _ _ _ _ us hl => match us, hl with | [_, _], _ => rfl), g2⟩
  obtain ⟨d3, F3'⟩ := c.t.d.def_ 3 (d := mkD "_law_day" sDay) rfl
  have g3 := He.glo_ok X G (c.t.d.fact 3 (f := .glo "_law_day") rfl)
  have F3 : Fun K "_law_day" "_law_day" sDay (He.fAd K ("_law_day", none)) d3 := funOf F3'
  have D3 : Df K mg "_law_day" sDay ["_law_pen_here"] _ d3 := ⟨F3, F3.binds (ps := ["_law_pen_here"]) (fun _ _ _ _ _ _ us hl => match us, hl with | [_], _ => rfl), g3⟩
  obtain ⟨d4, F4'⟩ := c.t.d.def_ 4 (d := mkD "_law_folk" sFolk) rfl
  have g4 := He.glo_ok X G (c.t.d.fact 4 (f := .glo "_law_folk") rfl)
  have F4 : Fun K "_law_folk" "_law_folk" sFolk (He.fAd K ("_law_folk", none)) d4 := funOf F4'
  have D4 : Df K mg "_law_folk" sFolk ["_law_pen_here", "_law_least"] _ d4 := ⟨F4, F4.binds (ps := ["_law_pen_here", "_law_least"]) (fun _ _ _ _ _ _ us hl => match us, hl with | [_, _], _ => rfl), g4⟩
  obtain ⟨d5, F5'⟩ := c.t.d.def_ 5 (d := mkD "_law_few" sFew) rfl
  have g5 := He.glo_ok X G (c.t.d.fact 5 (f := .glo "_law_few") rfl)
  have F5 : Fun K "_law_few" "_law_few" sFew (He.fAd K ("_law_few", none)) d5 := funOf F5'
  have D5 : Df K mg "_law_few" sFew ["_law_pen_here", "_law_some", "_law_most"] _ d5 := ⟨F5, F5.binds (ps := ["_law_pen_here", "_law_some", "_law_most"]) (fun _ _ _ _ _ _ us hl => match us, hl with | [_, _, _], _ => rfl), g5⟩
  obtain ⟨d6, F6'⟩ := c.t.d.def_ 6 (d := mkD "_law_deed" sDeed) rfl
  have g6 := He.glo_ok X G (c.t.d.fact 6 (f := .glo "_law_deed") rfl)
  have F6 : Fun K "_law_deed" "_law_deed" sDeed (He.fAd K ("_law_deed", none)) d6 := funOf F6'
  have D6 : Df K mg "_law_deed" sDeed ["_law_pen_here", "_law_folk_here", "_law_deeds"] _ d6 := ⟨F6, F6.binds (ps := ["_law_pen_here", "_law_folk_here", "_law_deeds"]) (fun _ _ _ _ _ _ us hl => match us, hl with | [_, _, _], _ => rfl), g6⟩
  obtain ⟨d7, F7'⟩ := c.t.d.def_ 7 (d := mkD "_law_entry" sEntry) rfl
  have g7 := He.glo_ok X G (c.t.d.fact 7 (f := .glo "_law_entry") rfl)
  have F7 : Fun K "_law_entry" "_law_entry" sEntry (He.fAd K ("_law_entry", none)) d7 := funOf F7'
  have D7 : Df K mg "_law_entry" sEntry ["_law_pen_here", "_law_folk_here", "_law_number", "_law_deeds", "_law_acts"] _ d7 := ⟨F7, F7.binds (ps := ["_law_pen_here", "_law_folk_here", "_law_number", "_law_deeds", "_law_acts"]) (fun _ _ _ _ _ _ us hl => match us, hl with | [_, _, _, _, _], _ => rfl), g7⟩
  obtain ⟨d8, F8'⟩ := c.t.d.def_ 8 (d := mkD "_law_mixed" sMixed) rfl
  have g8 := He.glo_ok X G (c.t.d.fact 8 (f := .glo "_law_mixed") rfl)
  have F8 : Fun K "_law_mixed" "_law_mixed" sMixed (He.fAd K ("_law_mixed", none)) d8 := funOf F8'
  have D8 : Df K mg "_law_mixed" sMixed ["_law_pen_here", "_law_some"] _ d8 := ⟨F8, F8.binds (ps := ["_law_pen_here", "_law_some"]) (fun _ _ _ _ _ _ us hl => match us, hl with | [_, _], _ => rfl), g8⟩
  obtain ⟨d9, F9'⟩ := c.t.d.def_ 9 (d := mkD "_law_book" sBook) rfl
  have g9 := He.glo_ok X G (c.t.d.fact 9 (f := .glo "_law_book") rfl)
  have F9 : Fun K "_law_book" "_law_book" sBook (He.fAd K ("_law_book", none)) d9 := funOf F9'
  have D9 : Df K mg "_law_book" sBook ["_law_pen_here", "_law_most"] _ d9 := ⟨F9, F9.binds (ps := ["_law_pen_here", "_law_most"]) (fun _ _ _ _ _ _ us hl => match us, hl with | [_, _], _ => rfl), g9⟩
  obtain ⟨d10, F10'⟩ := c.t.d.def_ 10 (d := mkD "entries_rising" sRising) rfl
  have g10 := He.glo_ok X G (c.t.d.fact 10 (f := .glo "entries_rising") rfl)
  have F10 : Fun K "entries_rising" "entries_rising" sRising (He.fAd K ("entries_rising", none)) d10 := funOf F10'
  have D10 : Df K mg "entries_rising" sRising ["book"] _ d10 := ⟨F10, F10.binds (ps := ["book"]) (fun _ _ _ _ _ _ us hl => match us, hl with | [_], _ => rfl), g10⟩
  obtain ⟨d11, F11'⟩ := c.t.d.def_ 11 (d := mkD "deed_entries" sDeedE) rfl
  have g11 := He.glo_ok X G (c.t.d.fact 11 (f := .glo "deed_entries") rfl)
  have F11 : Fun K "deed_entries" "deed_entries" sDeedE (He.fAd K ("deed_entries", none)) d11 := funOf F11'
  have D11 : Df K mg "deed_entries" sDeedE ["book"] _ d11 := ⟨F11, F11.binds (ps := ["book"]) (fun _ _ _ _ _ _ us hl => match us, hl with | [_], _ => rfl), g11⟩
  obtain ⟨d12, F12'⟩ := c.t.d.def_ 12 (d := mkD "act_entries" sActE) rfl
  have g12 := He.glo_ok X G (c.t.d.fact 12 (f := .glo "act_entries") rfl)
  have F12 : Fun K "act_entries" "act_entries" sActE (He.fAd K ("act_entries", none)) d12 := funOf F12'
  have D12 : Df K mg "act_entries" sActE ["book"] _ d12 := ⟨F12, F12.binds (ps := ["book"]) (fun _ _ _ _ _ _ us hl => match us, hl with | [_], _ => rfl), g12⟩
  obtain ⟨d13, F13'⟩ := c.t.d.def_ 13 (d := mkD "deeds_of" sDeedsOf) rfl
  have g13 := He.glo_ok X G (c.t.d.fact 13 (f := .glo "deeds_of") rfl)
  have F13 : Fun K "deeds_of" "deeds_of" sDeedsOf (He.fAd K ("deeds_of", none)) d13 := funOf F13'
  have D13 : Df K mg "deeds_of" sDeedsOf ["book"] _ d13 := ⟨F13, F13.binds (ps := ["book"]) (fun _ _ _ _ _ _ us hl => match us, hl with | [_], _ => rfl), g13⟩
  obtain ⟨d14, F14'⟩ := c.t.d.def_ 14 (d := mkD "acts_of" sActsOf) rfl
  have g14 := He.glo_ok X G (c.t.d.fact 14 (f := .glo "acts_of") rfl)
  have F14 : Fun K "acts_of" "acts_of" sActsOf (He.fAd K ("acts_of", none)) d14 := funOf F14'
  have D14 : Df K mg "acts_of" sActsOf ["book"] _ d14 := ⟨F14, F14.binds (ps := ["book"]) (fun _ _ _ _ _ _ us hl => match us, hl with | [_], _ => rfl), g14⟩
  obtain ⟨d15, F15'⟩ := c.t.d.def_ 15 (d := mkD "law" sLaw) rfl
  have g15 := He.glo_ok X G (c.t.d.fact 15 (f := .glo "law") rfl)
  have F15 : Fun K "law" "law" sLaw (He.fAd K ("law", none)) d15 := funOf F15'
  have m_range := He.free_ok X G (c.t.d.fact 16 (f := .free "range") rfl)
  have m_min := He.free_ok X G (c.t.d.fact 17 (f := .free "min") rfl)
  have m_max := He.free_ok X G (c.t.d.fact 18 (f := .free "max") rfl)
  have m_tuple := He.free_ok X G (c.t.d.fact 19 (f := .free "tuple") rfl)
  have m_list := He.free_ok X G (c.t.d.fact 20 (f := .free "list") rfl)
  have m_len := He.free_ok X G (c.t.d.fact 21 (f := .free "len") rfl)
  have m_sorted := He.free_ok X G (c.t.d.fact 22 (f := .free "sorted") rfl)
  have m_int := He.free_ok X G (c.t.d.fact 23 (f := .free "int") rfl)
  have i_NUMBER : MgInt mg "NUMBER" 0 := He.int_ok X G (c.t.d.fact 24 (f := .int "NUMBER" 0) rfl)
  have i_WORD : MgInt mg "WORD" 4 := He.int_ok X G (c.t.d.fact 25 (f := .int "WORD" 4) rfl)
  have e := hfa.symm.trans g15
  cases e
  have b := FunD.bindsA (ps := ["_law_script"]) F15' fun _ _ _ _ _ _ us hl => match us, hl with | [_], _ => rfl
  have B : Bi mg := ⟨m_range, m_min, m_max, m_tuple, m_list, m_len, m_sorted, m_int⟩
  have hne : (He.cT K ("entries_rising", none)).2 ≠ (He.cT K ("law", none)).2 := of_decide_eq_true c.more
  have t0 : (("entries_rising", none) : He.Defn) ∈ tfAll := List.mem_cons_self
  have t1 : (("law", none) : He.Defn) ∈ tfAll := List.mem_cons_of_mem _ List.mem_cons_self
  refine ⟨d15, tfAll.map (He.cT K), spLaw K [((He.cT K ("entries_rising", none)).2, qRis), ((He.cT K ("law", none)).2, qLaw)], fun p hp => ?_, fun p hp => ?_, fun p hp => ?_, fun s v => b s [v] rfl, fun H a ns hl _ hH hS => ?_, fun base hK hG hTB => ?_⟩
  · obtain ⟨q, hq, rfl⟩ := List.mem_map.mp hp
    exact c.empty q hq
  · obtain ⟨q, hq, rfl⟩ := List.mem_map.mp hp
    exact c.out q hq
  · obtain ⟨q, hq, rfl⟩ := List.mem_map.mp hp
    exact PySem.W.codeHd_of_K X (c.hd q hq)
  · refine ⟨a, ns, rfl, hS, hl, fun p hp => ?_, fun _ => rfl⟩
    rcases List.mem_cons.mp hp with rfl | hp
    · exact TabS.nil (hH _ (List.mem_map.mpr ⟨_, t0, rfl⟩))
    · rw [List.mem_singleton.mp hp]
      exact TabS.nil (hH _ (List.mem_map.mpr ⟨_, t1, rfl⟩))
  · have tb0 := hTB _ (List.mem_map.mpr ⟨_, t0, rfl⟩)
    have tb1 := hTB _ (List.mem_map.mpr ⟨_, t1, rfl⟩)
    have R : RisD K mg base [((He.cT K ("entries_rising", none)).2, qRis), ((He.cT K ("law", none)).2, qLaw)] _ d10 := ⟨D10, ⟨_, _, codeAt F10, tb0, List.mem_cons_self, fun p hp e => by
      rcases List.mem_cons.mp hp with rfl | hp
      · rfl
      · rw [List.mem_singleton.mp hp] at e
        exact absurd e.symm hne⟩, m_sorted, i_NUMBER⟩
    have GDE : FnOk l.prog w K mg base CX0 6 _ d11 ["book"] (spPick (·.isDeed) _) := ok_deedE (k := 3) D11.F R i_WORD
    have GAE : FnOk l.prog w K mg base CX0 6 _ d12 ["book"] (spPick (fun e => !e.isDeed) _) := ok_actE (k := 3) D12.F R i_WORD
    refine ok_law F15 (codeAt F15) tb1 (List.mem_cons_of_mem _ List.mem_cons_self) (fun p hp e => ?_) ⟨B, D0, D1, D9, D8, D13, D14, ok_cell D0.F m_len, ok_pen D1.F m_int, ok_book (k := 2) D9.F D2 D5 D3 D6 D7 D4 D8 B, ok_mixed (k := 5) D8.F D2 B, ok_DeedsOf (k := 3) D13.F D11 GDE i_NUMBER, ok_ActsOf (k := 3) D14.F D12 GAE i_NUMBER⟩
    rcases List.mem_cons.mp hp with rfl | hp
    · exact absurd e hne
    · rw [List.mem_singleton.mp hp]
end Deed
open PySem PySem.W PySem.Calls PyProof.Rows
theorem PySem.Challenge.cw_deedsheaf_k03_deeds_and_acts_listed_holds : PySem.Challenge.rw_deedsheaf_k03_deeds_and_acts_listed.Holds := by
  w_on; o_law
  refine HandSHeadRun.head_any (r := OpenLaw.row PySem.Challenge.rw_deedsheaf_k03_deeds_and_acts_listed) (q := view (OpenLaw.row PySem.Challenge.rw_deedsheaf_k03_deeds_and_acts_listed).prog [19]) (H := Deed.hk) (ob := Deed.ob) (M := 6000) (loose := Deed.looseAll) (d := HandSHeadRun.topDef (OpenLaw.row PySem.Challenge.rw_deedsheaf_k03_deeds_and_acts_listed).prog 19) (kwd := []) Deed.ob_eq
    (by kernel_rfl) (fun s => by kernel_rfl) Deed.run (by kernel_rfl) (by kernel_rfl) (by kernel_rfl) (by rfl) (by first | assumption | decide +kernel) (by decide +kernel) ⟨rfl, rfl, rfl, rfl, rfl, by decide +kernel⟩ ?hw ?hc
  case hw => w_witness2
  case hc =>
    refine LamX.walk_ofTsE (l := PySem.Challenge.rw_deedsheaf_k03_deeds_and_acts_listed) (n := 63) (k := 8) (x := "_law_script") (CX := fun _ => L2.CX0) rfl (by decide) (by kernel_rfl) ⟨rfl, by decide, by decide⟩ ?F (fun _ _ _ _ _ z => z)
    intro w mg fa h Y G hmg0
    obtain ⟨K, KX, c⟩ := Y
    have hmg : mg ("law" : PySem.Str) = some (.ref fa) := by
      have e : (HandSHeadRun.topDef (OpenLaw.row PySem.Challenge.rw_deedsheaf_k03_deeds_and_acts_listed).prog 19).name = ("law" : PySem.Str) := by kernel_rfl
      rw [← e]
      exact hmg0
    exact ⟨K, KX, Deed.facts KX G hmg c⟩
