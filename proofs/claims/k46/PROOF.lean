import PyProof.Rows.All
import Wide.All
import OpenK.AllK
import Wide.FinOn
import KE.SortKeyHeap
import KE.KLam
import HandS.ForMost
import HandS.ForExc
import HandS.Flow
import HandS.Style
import HandS.SortInts
import HandS.SortKw
import HandS.TupAny
import HandS.Lambda
import HandS.EndTab
import HandS.Head2
import HandS.HeadEnd
import HandS.HeadHook4
import HandS.HeadWalk
import HandS.Walk
import HandS.IsInst
import HandS.Defaults
import HandS.More
import HandS.DictComp
import HandS.ListItems
import HandS.SetFor
import HandS.Strs
import HandS.Zip
import HandS.TupSets
import KE.SortData
import KE.GoesMore
import HandS.Conv
import HandS.WordsDict
import HandS.MakeKw
import HandS.Codes
import PySem.Challenge.RW_deedsheaf_k46_witnesses_that_could_be_no
set_option Elab.async false
set_option linter.all false
set_option maxRecDepth 100000
set_option maxHeartbeats 0
set_option pp.maxSteps 1200

namespace Deed
open PySem PySem.Spec PyProof.Rows L2
def topS (i : Nat) : Stmt := PySem.Challenge.pw_deedsheaf_k46_witnesses_that_could_be_no.main.body.getD i (.Pass ⟨0, 0, 0, 0⟩)
/-! ### heaps: all but the pen at p is as it was -/
def Kp (p : Addr) (H H' : Hp) : Prop := ∀ b o, b ≠ p → H b = some o → H' b = some o
theorem Kp.refl (p : Addr) (H : Hp) : Kp p H H := fun _ _ _ h => h
theorem Kp.trans {p : Addr} {H H1 H2 : Hp} (a : Kp p H H1) (b : Kp p H1 H2) : Kp p H H2 := fun c o n h => b c o n (a c o n h)
theorem Kp.new {p q : Addr} {H : Hp} (n : H q = none) (o : HO) : Kp p H (upd H q o) := fun b u _ e => by
  rw [upd_ne (ne_of_none e n)]
  exact e
theorem Kp.put {p : Addr} {H : Hp} (o : HO) : Kp p H (upd H p o) := fun b u n e => by
  rw [upd_ne n]
  exact e
theorem Kp.same {p : Addr} {H H' : Hp} (h : Same H H') : Kp p H H' := fun b o _ e => h b o e
/-- the pen: four whole numbers, the last one a rest -/
def PenAt (H : Hp) (p : Addr) : Prop := ∃ a f c e : Int, H p = some (.lst [.int a, .int f, .int c, .int e]) ∧ 0 ≤ e ∧ e < 1000000007
theorem PenAt.new {p q : Addr} {H : Hp} (h : PenAt H p) (n : H q = none) (o : HO) : PenAt (upd H q o) p := by
  obtain ⟨a, f, c, e, h1, h2⟩ := h
  refine ⟨a, f, c, e, ?_, h2⟩
  rw [upd_ne (ne_of_none h1 n)]
  exact h1
theorem PenAt.ne {p q : Addr} {H : Hp} {o : HO} (h : PenAt H p) (e : H q = some o) (no : ∀ xs, o ≠ .lst xs) : q ≠ p := fun z => by
  obtain ⟨a, f, c, e', h1, _⟩ := h
  rw [z, h1] at e
  exact no _ (Option.some.inj e).symm
theorem PenAt.free {p q : Addr} {H : Hp} (h : PenAt H p) (n : H q = none) : q ≠ p := fun z => by
  obtain ⟨a, f, c, e', h1, _⟩ := h
  rw [z, h1] at n
  cases n
section
variable {P : Program} {w : World} {K : PySem.W.Frag} {mg : Str → Option Value} {base : Heap}
/-! ### the script's cell -/
abbrev sCell : Stmt := topS 22
theorem scCell : FnScope ["_law_script", "_law_k"] ["_law_script", "_law_k"] (defScope sCell) := ⟨rfl, rfl, rfl, by decide +kernel, rfl, by decide +kernel, by decide +kernel⟩
def spCell (K : PySem.W.Frag) : Sp := fun vs H Q _ => ∃ (a : Addr) (ns : List Int) (k : Int), vs = [.ref a, .int k] ∧ SqL K H a (ns.map V.int) ∧ 0 ≤ k ∧ ∀ v : Int, Q (.int v) H
theorem ok_cell {f : Addr} {fd : FuncData} {k : Nat} (F : Fun K "_law_cell_at" "_law_cell_at" sCell f fd) (ml : mg "len" = none) : FnOk P w K mg base CX0 (k + 1) f fd ["_law_script", "_law_k"] (spCell K) := by
  refine F.ok scCell (fun vs H Q E h => ?_) (fun cdv A outer s H vs Q E hr h => ?_)
  · obtain ⟨a, ns, k, rfl, _⟩ := h
    rfl
  · obtain ⟨a, ns, k, rfl, hS, h0, q⟩ := h
    refine ⟨_, pss_cons (ps_if (pt_cmpR op_lt (pv 1) (pe_callB call_len_seq (by rfl) ml PySem.boot_len (pa_cons (pv 0) pa_nil)) (nomark _)) (pss_one (ps_ret (pe_ix ix_list (pv 0) (pv 1) (fun _ _ => rfl)))) pss_nil)
      (pss_one (ps_ret pe_int)), ?_⟩
    have hl : (ns.map V.int).length = ns.length := List.length_map _
    refine ⟨_, rfl, _, rfl, a, _, rfl, .inl hS, _, _, rfl, rfl, _, rfl, ?_⟩
    refine ite2 (fun c => ?_) (fun c => ?_)
    · have c' : k < (((ns.map V.int).length : Nat) : Int) := of_decide_eq_true c
      rw [hl] at c'
      have hk : k.toNat < ns.length := by omega
      have ek : k = ((k.toNat : Nat) : Int) := by omega
      refine ⟨_, rfl, _, rfl, a, _, _, .int ns[k.toNat], rfl, rfl, hS, ?_, q _⟩
      exact at_of ek (by rw [List.getElem?_map, List.getElem?_eq_getElem hk] <;> rfl)
    · exact q 0
/-! ### the pen -/
abbrev sPen : Stmt := topS 21
theorem scPen : FnScope ["_law_cell"] ["_law_cell"] (defScope sPen) := ⟨rfl, rfl, rfl, by decide +kernel, rfl, by decide +kernel, by decide +kernel⟩
def spPen : Sp := fun vs H Q _ => ∃ (c : Int), vs = [.int c] ∧ ∀ p H', Same H H' → H p = none → PenAt H' p → Q (.ref p) H'
theorem ok_pen {f : Addr} {fd : FuncData} {k : Nat} (F : Fun K "_law_pen" "_law_pen" sPen f fd) (mi : mg "int" = none) : FnOk P w K mg base CX0 (k + 1) f fd ["_law_cell"] spPen := by
  refine F.ok scPen (fun vs H Q E h => ?_) (fun cdv A outer s H vs Q E hr h => ?_)
  · obtain ⟨c, rfl, _⟩ := h
    rfl
  · obtain ⟨c, rfl, q⟩ := h
    refine ⟨_, pss_one (ps_ret (pe_lst (pa_cons (pv 0) (pa_cons (pe_callTy call_int1 (by rfl) mi (by decide +kernel) (pa_cons (pe_cmpR op_ge (pv 0) (pe_op op_pow pe_int pe_int) (nomark _)) pa_nil)) (pa_cons pe_int (pa_cons (pe_op op_mod (pv 0) pe_int) pa_nil)))))), ?_⟩
    refine ⟨_, rfl, _, rfl, _, _, rfl, rfl, ⟨by decide, by decide, by decide⟩, _, _, rfl, rfl, .inr ⟨_, rfl, ?_⟩⟩
    refine ⟨_, rfl, _, _, rfl, rfl, (by show (0 : Int) < 1000000007; decide), (by show 4 ≤ sizeLine; decide), fun p hp => ?_⟩
    refine q p _ (fun b o e => ?_) hp ⟨_, _, _, _, upd_same, Int.emod_nonneg _ (by decide), Int.emod_lt_of_pos _ (by decide)⟩
    rw [upd_ne (ne_of_none e hp)]
    exact e
/-! ### a draw -/
abbrev sDraw : Stmt := topS 23
theorem scDraw : FnScope ["_law_pen_here", "_law_bound", "_law_found", "_law_stir"] ["_law_pen_here", "_law_bound"] (defScope sDraw) := ⟨rfl, rfl, rfl, by decide +kernel, rfl, by decide +kernel, by decide +kernel⟩
def spDraw : Sp := fun vs H Q _ => ∃ (p : Addr) (b : Int), vs = [.ref p, .int b] ∧ PenAt H p ∧ 0 < b ∧ b < 1073741824 ∧ ∀ v H', Kp p H H' → PenAt H' p → 0 ≤ v → v < b → Q (.int v) H'
theorem ok_draw {f : Addr} {fd : FuncData} {k : Nat} (F : Fun K "_law_draw" "_law_draw" sDraw f fd) : FnOk P w K mg base CX0 (k + 1) f fd ["_law_pen_here", "_law_bound"] spDraw := by
  refine F.ok scDraw (fun vs H Q E h => ?_) (fun cdv A outer s H vs Q E hr h => ?_)
  · obtain ⟨p, b, rfl, _⟩ := h
    rfl
  · obtain ⟨p, b, rfl, ⟨x, y, c, e, hp, he0, he1⟩, hb0, hb1, q⟩ := h
    refine ⟨_, pss_cons (ps_if (PW.pt (pw_and (pt_cmpR op_eq (pe_ix ix_list (pv 0) pe_int (fun _ _ => rfl)) pe_int (nomark _)) (pw_and1 (pt_cmpR op_gt (pe_ix ix_list (pv 0) pe_int (fun _ _ => rfl)) pe_int (nomark _)))))
        (pss_cons (ps_set (i := 2) scDraw.nd rfl (.inl rfl) (pe_op op_mod (pe_ix ix_list (pv 0) pe_int (fun _ _ => rfl)) (pv 1)))
        (pss_cons (ps_asg (pe_op op_fdiv (pe_ix ix_list (pv 0) pe_int (fun _ _ => rfl)) (pv 1)) (pg_sub (pv 0) pe_int set_list))
        (pss_one (ps_ret (pv 2))))) pss_nil)
      (pss_cons (ps_asg (pe_op op_add (pe_ix ix_list (pv 0) pe_int (fun _ _ => rfl)) pe_int) (pg_sub (pv 0) pe_int set_list))
      (pss_cons (ps_set (i := 3) scDraw.nd rfl (.inl rfl) (pe_op op_mod (pe_op op_mul (pe_op op_add (pe_ix ix_list (pv 0) pe_int (fun _ _ => rfl)) pe_int) (pe_op op_add pe_int (pe_op op_mul pe_int (pe_ix ix_list (pv 0) pe_int (fun _ _ => rfl))))) pe_int))
      (pss_cons (ps_set (i := 3) scDraw.nd rfl (.inl rfl) (pe_op op_mod (pe_op op_add (pe_op op_add (pe_op op_mul (pv 3) (pv 3)) (pe_op op_mul pe_int (pe_ix ix_list (pv 0) pe_int (fun _ _ => rfl)))) pe_int) pe_int))
      (pss_one (ps_ret (pe_op op_mod (pe_op op_fdiv (pe_op op_mod (pe_op op_mul (pv 3) pe_int) pe_int) pe_int) (pv 1))))))), ?_⟩
    have i0 : ∀ u : V, ∀ r : List V, atI (u :: r) 0 = some u := fun u r => atI_nat (j := 0) rfl
    have i1 : ∀ u v : V, ∀ r : List V, atI (u :: v :: r) 1 = some v := fun u v r => atI_nat (j := 1) rfl
    have i2 : ∀ u v w : V, ∀ r : List V, atI (u :: v :: w :: r) 2 = some w := fun u v w r => atI_nat (j := 2) rfl
    have i3 : ∀ u v w z : V, ∀ r : List V, atI (u :: v :: w :: z :: r) 3 = some z := fun u v w z r => atI_nat (j := 3) rfl
    have hS : SqL K H p [.int x, .int y, .int c, .int e] := SqL.of hp
    refine ⟨_, rfl, p, _, _, _, rfl, rfl, hS, i1 _ _ _, rfl, _, rfl, ?_⟩
    refine ite2 (fun c1 => ?_) (fun c1 => ?slow1)
    refine ⟨_, rfl, p, _, _, _, rfl, rfl, hS, i0 _ _, _, _, rfl, rfl, _, rfl, ?_⟩
    refine ite2 (fun c2 => ?_) (fun c2 => ?slow2)
    · refine ⟨_, rfl, p, _, _, _, rfl, rfl, hS, i0 _ _, _, rfl, _, _, rfl, rfl, hb0, ?_⟩
      refine ⟨_, rfl, p, _, _, _, rfl, rfl, hS, i0 _ _, _, rfl, _, _, rfl, rfl, ⟨hb0, hb1⟩, _, rfl, p, _, 0, 0, rfl, rfl, hp, rfl, ?_⟩
      exact ⟨_, rfl, q _ _ (Kp.put _) ⟨_, _, _, _, upd_same, he0, he1⟩ (Int.emod_nonneg _ (by omega)) (Int.emod_lt_of_pos _ hb0)⟩
    all_goals
      refine ⟨_, rfl, p, _, _, _, rfl, rfl, hS, i2 _ _ _ _, _, _, rfl, rfl, _, rfl, p, _, 2, 2, rfl, rfl, hp, rfl, ?_⟩
      have hp1 : (upd H p (.lst [.int x, .int y, .int (c + 1), .int e])) p = some (.lst [.int x, .int y, .int (c + 1), .int e]) := upd_same
      have hS1 : SqL K (upd H p (.lst [.int x, .int y, .int (c + 1), .int e])) p [.int x, .int y, .int (c + 1), .int e] := SqL.of hp1
      refine ⟨_, rfl, p, _, _, _, rfl, rfl, hS1, i3 _ _ _ _ _, _, _, rfl, rfl, _, rfl, p, _, _, _, rfl, rfl, hS1, i2 _ _ _ _, _, _, rfl, rfl, .inl ⟨by decide, by decide⟩, _, _, rfl, rfl, _, _, rfl, rfl, .inl ⟨by omega, by omega⟩, _, _, rfl, rfl, (by show (0 : Int) < 2147483647; decide), ?_⟩
      have r1 := Int.emod_nonneg ((e + 17) * (69621 + 2 * (c + 1))) (b := 2147483647) (by decide)
      have r2 := Int.emod_lt_of_pos ((e + 17) * (69621 + 2 * (c + 1))) (b := 2147483647) (by decide)
      generalize (e + 17) * (69621 + 2 * (c + 1)) % 2147483647 = st at r1 r2
      refine ⟨_, rfl, _, rfl, _, _, rfl, rfl, .inl ⟨by omega, by omega⟩, _, rfl, p, _, _, _, rfl, rfl, hS1, i2 _ _ _ _, _, _, rfl, rfl, .inl ⟨by decide, by decide⟩, _, _, rfl, rfl, _, _, rfl, rfl, _, _, rfl, rfl, (by show (0 : Int) < 2147483629; decide), ?_⟩
      refine ⟨_, rfl, _, _, rfl, rfl, .inr ⟨by decide, by decide⟩, _, _, rfl, rfl, (by show (0 : Int) < 2147483647; decide), _, _, rfl, rfl, ⟨by decide, by decide⟩, _, rfl, _, _, rfl, rfl, hb0, ?_⟩
      exact q _ _ (Kp.put _) ⟨_, _, _, _, upd_same, he0, he1⟩ (Int.emod_nonneg _ (by omega)) (Int.emod_lt_of_pos _ hb0)
end
end Deed

namespace Deed
open PySem PySem.Spec PyProof.Rows L2
/-- a def of the top: where it stands, how its arguments come, its name -/
structure Df (K : PySem.W.Frag) (mg : Str → Option Value) (x : Str) (st : Stmt) (ps : List Str) (f : Addr) (fd : FuncData) : Prop where
  F : Fun K x x st f fd
  b : Binds K fd ps []
  g : mg x = some (.ref f)
theorem am0 {φ : V → Prop} : ∀ y ∈ ([] : List V), φ y := fun _ h => nomatch h
theorem am1 {φ : V → Prop} {x : V} {xs : List V} (h : φ x) (r : ∀ y ∈ xs, φ y) : ∀ y ∈ x :: xs, φ y := fun y hy => (List.mem_cons.mp hy).elim (fun e => e ▸ h) (r y)
/-- an item of a written list at an open place -/
theorem pick {xs : List V} {i : Int} (φ : V → Prop) (h0 : 0 ≤ i) (h1 : i < (xs.length : Int)) (hx : ∀ x ∈ xs, φ x) : ∃ v, atI xs i = some v ∧ φ v := by
  have hk : i.toNat < xs.length := by omega
  exact ⟨xs[i.toNat], at_of (j := i.toNat) (by omega) (List.getElem?_eq_getElem hk), hx _ (List.getElem_mem hk)⟩
/-- an int within bounds -/
def Within (lo hi : Int) (x : V) : Prop := ∃ n : Int, x = .int n ∧ lo ≤ n ∧ n ≤ hi
section
variable {P : Program} {w : World} {K : PySem.W.Frag} {mg : Str → Option Value} {base : Heap} {fDr : Addr} {dDr : FuncData}
abbrev DrawD (K : PySem.W.Frag) (mg : Str → Option Value) := Df K mg "_law_draw" sDraw ["_law_pen_here", "_law_bound"]
/-- a person at x -/
def PersonAt (H : Hp) (x : V) : Prop := ∃ (a : Addr) (b : Int) (d : V), x = .ref a ∧ H a = some (.tup [.int b, d]) ∧ -9999 ≤ b ∧ b ≤ 9999 ∧ (d = .non ∨ ∃ i : Int, d = .int i ∧ b < i ∧ i ≤ 9999)
theorem PersonAt.kp {p : Addr} {H H' : Hp} {x : V} (h : PersonAt H x) (k : Kp p H H') (P : PenAt H p) : PersonAt H' x := by
  obtain ⟨a, b, d, e, h1, r⟩ := h
  exact ⟨a, b, d, e, k _ _ (P.ne h1 fun _ z => by cases z) h1, r⟩
def FolkAt (H : Hp) (t : Addr) (n : Nat) : Prop := ∃ xs : List V, H t = some (.tup xs) ∧ xs.length = n ∧ ∀ x ∈ xs, PersonAt H x
theorem FolkAt.kp {p : Addr} {H H' : Hp} {t : Addr} {n : Nat} (h : FolkAt H t n) (k : Kp p H H') (P : PenAt H p) : FolkAt H' t n := by
  obtain ⟨xs, h1, h2, h3⟩ := h
  exact ⟨xs, k _ _ (P.ne h1 fun _ z => by cases z) h1, h2, fun x hx => (h3 x hx).kp k P⟩
end
end Deed

namespace Deed
open PySem PySem.Spec PyProof.Rows L2
theorem seqIx {i : Int} {n : Nat} (h0 : 0 ≤ i) (h1 : i < n) : seqIndex? i n = some i.toNat := seqIndex_of h0 h1
theorem rising_of {l : List Int} (hn : l.Nodup) (hp : l.Pairwise (· ≤ ·)) : l.Pairwise (· < ·) := by
  induction l with
  | nil => exact .nil
  | cons x r ih =>
    have h1 := List.nodup_cons.mp hn
    have h2 := List.pairwise_cons.mp hp
    refine List.pairwise_cons.mpr ⟨fun y hy => ?_, ih h1.2 h2.2⟩
    have h3 := h2.1 y hy
    have h4 : x ≠ y := fun e => h1.1 (e ▸ hy)
    omega
theorem perm_erase {α : Type} {l : List α} {k : Nat} {y : α} (h : l[k]? = some y) : (y :: l.eraseIdx k).Perm l := by
  induction l generalizing k with
  | nil => simp at h
  | cons a r ih =>
    cases k with
    | zero =>
      have e : a = y := by simpa using h
      subst e
      exact List.Perm.refl _
    | succ k =>
      have h' : r[k]? = some y := by simpa using h
      show (y :: a :: r.eraseIdx k).Perm (a :: r)
      exact (List.Perm.swap a y _).trans ((ih h').cons a)
theorem erase_map {α β : Type} (f : α → β) : ∀ (l : List α) (k : Nat), (l.map f).eraseIdx k = (l.eraseIdx k).map f
  | [], _ => rfl
  | _ :: _, 0 => rfl
  | a :: r, k + 1 => congrArg (List.cons (f a)) (erase_map f r k)
end Deed

namespace Deed
open PySem PySem.Spec PyProof.Rows L2
/-! ### lists of ints compared -/
theorem dp_ints {K : PySem.W.Frag} {H : Hp} : ∀ ns : List Int, DpAll K H (ns.map V.int) (ns.map PyData.int)
  | [] => .nil
  | n :: r => .cons (.int n) (dp_ints r)
theorem lay_ints : ∀ ns : List Int, PyData.canLayAll0 (ns.map PyData.int) = true
  | [] => by simp [PyData.canLayAll0]
  | n :: r => by simp [PyData.canLayAll0, PyData.canLay0, lay_ints r]
theorem depth_ints : ∀ ns : List Int, PyData.depthAll (ns.map PyData.int) ≤ 1
  | [] => by simp [PyData.depthAll]
  | n :: r => by
    have h := depth_ints r
    simp only [List.map_cons, PyData.depthAll, PyData.depth]
    omega
theorem shaped_ints (ns : List Int) : SeqAt.shaped (.list (ns.map PyData.int)) = true := by
  have h1 := depth_ints ns
  have h2 : PyData.depth (.list (ns.map PyData.int)) ≤ 64 := by
    simp only [PyData.depth]
    omega
  show (PyData.canLay0 (.list (ns.map PyData.int)) && decide (PyData.depth (.list (ns.map PyData.int)) ≤ 64)) = true
  rw [Bool.and_eq_true]
  exact ⟨by simp only [PyData.canLay0]; exact lay_ints ns, decide_eq_true h2⟩
theorem eqvAll_ints : ∀ ns ms : List Int, PyData.eqvAll (ns.map PyData.int) (ms.map PyData.int) = decide (ns = ms)
  | [], [] => by simp [PyData.eqvAll]
  | [], _ :: _ => by simp [PyData.eqvAll]
  | _ :: _, [] => by simp [PyData.eqvAll]
  | n :: r, m :: q => by
    simp only [List.map_cons, PyData.eqvAll, PyData.eqv, eqvAll_ints r q]
    by_cases h : n = m
    · subst h
      simp
    · simp [h]
theorem eqv_ints (ns ms : List Int) : PyData.eqv (.list (ns.map PyData.int)) (.list (ms.map PyData.int)) = decide (ns = ms) := by
  simp only [PyData.eqv]
  exact eqvAll_ints ns ms
theorem mem_inV {n : Int} {ns : List Int} : inV (.int n) (ns.map V.int) = decide (n ∈ ns) := by
  induction ns with
  | nil => simp [inV]
  | cons m r ih =>
    have e : inV (.int n) ((m :: r).map V.int) = (eqV (.int m) (.int n) || inV (.int n) (r.map V.int)) := by simp [inV]
    have e2 : eqV (.int m) (.int n) = decide (m = n) := by
      first | rfl | simp [eqV] | (unfold eqV; simp)
    rw [e, ih, e2]
    by_cases h : m = n
    · subst h
      simp
    · have h' : ¬ n = m := fun z => h z.symm
      simp [h, h']
theorem flat_ints (ns : List Int) : (ns.map V.int).all flatV = true := by
  induction ns with
  | nil => rfl
  | cons n r ih =>
    rw [List.map_cons, List.all_cons, ih]
    rfl
/-! ### entries -/
inductive Kd where
  | deed (g t : Int) (rs ws : List Int)
  | act (x : Str) (o : Int)
structure En where
  num : Int
  day : Int
  wri : Int
  hand : Int
  kd : Kd
def En.isDeed (e : En) : Bool := match e.kd with
  | .deed _ _ _ _ => true
  | .act _ _ => false
/-- the entry e at the address a -/
def EntAt (H : Hp) (a : Addr) (e : En) : Prop := match e.kd with
  | .deed g t rs ws => ∃ r w : Addr, H a = some (.tup [.int e.num, .int e.day, .int e.wri, .int e.hand, .str "deed", .int g, .int t, .ref r, .ref w]) ∧ H r = some (.tup (rs.map V.int)) ∧ H w = some (.tup (ws.map V.int))
  | .act x o => H a = some (.tup [.int e.num, .int e.day, .int e.wri, .int e.hand, .str x, .int o])
/-- all that isn't a list is kept -/
def KpT (H H' : Hp) : Prop := ∀ b xs, H b = some (.tup xs) → H' b = some (.tup xs)
theorem Kp.tup {p : Addr} {H H' : Hp} (k : Kp p H H') (P : PenAt H p) : KpT H H' := fun b xs e => k _ _ (P.ne e fun _ z => by cases z) e
theorem Same.tup {H H' : Hp} (k : Same H H') : KpT H H' := fun b xs e => k _ _ e
theorem KpT.trans {H H1 H2 : Hp} (a : KpT H H1) (b : KpT H1 H2) : KpT H H2 := fun c o h => b c o (a c o h)
theorem EntAt.kp {H H' : Hp} {a : Addr} {e : En} (h : EntAt H a e) (k : KpT H H') : EntAt H' a e := by
  unfold EntAt at h ⊢
  cases hk : e.kd with
  | deed g t rs ws =>
    rw [hk] at h
    obtain ⟨r, w, h1, h2, h3⟩ := h
    exact ⟨r, w, k _ _ h1, k _ _ h2, k _ _ h3⟩
  | act x o =>
    rw [hk] at h
    exact k _ _ h
def EnOk (n : Nat) (ds as : List Int) (e : En) : Prop := (0 ≤ e.day ∧ e.day ≤ 9999) ∧ (0 ≤ e.wri ∧ e.wri ≤ 9999) ∧ (0 ≤ e.hand ∧ e.hand ≤ 3) ∧ match e.kd with
  | .deed g t rs ws => (0 ≤ g ∧ g < n) ∧ (0 ≤ t ∧ t < n) ∧ g ≠ t ∧ rs.length ≤ 2 ∧ rs.Pairwise (· < ·) ∧ (∀ r ∈ rs, r ∈ ds ∧ r < e.num) ∧ ws.length ≤ 3 ∧ ws.Pairwise (· < ·) ∧ ∀ x ∈ ws, 0 ≤ x ∧ x < n ∧ x ≠ g ∧ x ≠ t
  | .act x o => ((x = "undone" ∧ o ∈ as) ∨ ((x = "paid" ∨ x = "void") ∧ o ∈ ds)) ∧ o < e.num
theorem EnOk.mono {n : Nat} {ds as ds' as' : List Int} {e : En} (h : EnOk n ds as e) (h1 : ∀ x ∈ ds, x ∈ ds') (h2 : ∀ x ∈ as, x ∈ as') : EnOk n ds' as' e := by
  unfold EnOk at h ⊢
  obtain ⟨a, b, c, d⟩ := h
  refine ⟨a, b, c, ?_⟩
  cases hk : e.kd with
  | deed g t rs ws =>
    rw [hk] at d
    obtain ⟨d1, d2, d3, d4, d5, d6, d7⟩ := d
    exact ⟨d1, d2, d3, d4, d5, fun r hr => ⟨h1 _ (d6 r hr).1, (d6 r hr).2⟩, d7⟩
  | act x o =>
    rw [hk] at d
    obtain ⟨d1, d2⟩ := d
    refine ⟨?_, d2⟩
    rcases d1 with ⟨z, m⟩ | ⟨z, m⟩
    · exact .inl ⟨z, h2 _ m⟩
    · exact .inr ⟨z, h1 _ m⟩
/-- the built-ins' names are the built-ins' -/
structure Bi (mg : Str → Option Value) : Prop where
  range : mg "range" = none
  min : mg "min" = none
  max : mg "max" = none
  tuple : mg "tuple" = none
  list : mg "list" = none
  len : mg "len" = none
  sorted : mg "sorted" = none
  int : mg "int" = none
end Deed

namespace Deed
open PySem PySem.Spec PyProof.Rows L2
def rLenS (K : PySem.W.Frag) : List V → Hp → VK → Prop := fun xs H Q => ∃ p ys, xs = [.ref p] ∧ (SqL K H p ys ∨ SqT K H p ys) ∧ Q (.int ys.length) H
section
variable {P : Program} {w : World} {K : PySem.W.Frag} {mg : Str → Option Value} {base : Heap} {fDr : Addr} {dDr : FuncData}
/-! ### in another order -/
abbrev sMixed : Stmt := topS 25
abbrev nMixed : List Str := ["_law_pen_here", "_law_some", "_law_left", "_law_k"]
theorem scMixed : FnScope nMixed ["_law_pen_here", "_law_some"] (defScope sMixed) := ⟨rfl, rfl, rfl, by decide +kernel, rfl, by decide +kernel, by decide +kernel⟩
def spMixed (K : PySem.W.Frag) : Sp := fun vs H Q _ => ∃ (p a : Addr) (xs : List V), vs = [.ref p, .ref a] ∧ PenAt H p ∧ (SqL K H a xs ∨ SqT K H a xs) ∧ xs.length ≤ 1000 ∧
  ∀ l (ys : List V) H', Kp p H H' → PenAt H' p → H l = none → H' l = some (.lst ys) → ys.Perm xs → Q (.ref l) H'
theorem ok_mixed {f : Addr} {fd : FuncData} {k : Nat} (F : Fun K "_law_mixed" "_law_mixed" sMixed f fd) (D : DrawD K mg fDr dDr) (B : Bi mg) : FnOk P w K mg base CX0 (k + 2) f fd ["_law_pen_here", "_law_some"] (spMixed K) := by
  have G : FnOk P w K mg base CX0 (k + 1) fDr dDr ["_law_pen_here", "_law_bound"] spDraw := ok_draw D.F
  refine F.ok scMixed (fun vs H Q E h => ?_) (fun cdv A outer s H vs Q E hr h => ?_)
  · obtain ⟨p, a, xs, rfl, _⟩ := h
    rfl
  · obtain ⟨p, a, xs, rfl, hP, hS, hxl, q⟩ := h
    refine ⟨_, pss_cons (ps_set (i := 2) scMixed.nd rfl (.inr rfl) (pe_callTy call_list_of (by rfl) B.list (by decide +kernel) (pa_cons (pv 1) pa_nil)))
      (pss_one (ps_ret (pe_lc (own := [("_law_k", 3)]) (g := gName 3) (by rfl) scMixed.nd (pi_range1 (by rfl) B.range (pa_cons (pe_callB call_len_seq (by rfl) B.len PySem.boot_len (pa_cons (pv 2) pa_nil)) pa_nil)) (blkOk_by (own := [("_law_k", 3)]) (N := nMixed) (sc := defScope sMixed) (by decide +kernel)) (fun _ _ _ _ _ => pg_name (i := 3) scMixed.nd rfl (Or.inl rfl)) (fun _ _ _ _ _ => pts_nil)
        (fun _ _ _ _ _ => show PE _ _ (tBM K "list" rPopAt (tVar 2) (tCons (tCall spDraw [] E0 (tCons (tVar 0) (tCons (tCB (rLenS K) (tCons (tVar 2) tNil)) tNil))) tNil)) from pe_bm PySem.F.plainAttrs_list PySem.F.slot_list_pop PySem.F.type_list_pop mt_popAt (pv 2) (pa_cons (pe_call G hr (by rfl) D.g D.F.kp D.b .nil pass0 (pa_cons (pv 0) (pa_cons (pe_callB call_len_seq (by rfl) B.len PySem.boot_len (pa_cons (pv 2) pa_nil)) pa_nil))) pa_nil))))), ?_⟩
    refine ⟨_, rfl, a, _, rfl, hS, fun l hl => ?_⟩
    have nl : l ≠ p := hP.free hl
    have el : (upd H l (.lst xs)) l = some (.lst xs) := upd_same
    refine ⟨_, rfl, l, xs, rfl, .inl (SqL.of el), _, rfl, by omega, by omega, fun o no => ?_⟩
    have no' : o ≠ p := (hP.new hl _).free no
    have nlo : l ≠ o := fun z => by
      rw [← z, el] at no
      cases no
    have hno : H o = none := by
      rw [upd_ne nlo.symm] at no
      exact no
    refine lc_range (lo := 0) (n := ((xs.length : Nat) : Int).toNat) (fun i H' => ∃ ys ls : List V, H' o = some (.lst ys) ∧ H' l = some (.lst ls) ∧ Kp p H H' ∧ PenAt H' p ∧ ys.length = i ∧ (ys ++ ls).Perm xs)
      ⟨[], xs, upd_same, by rw [upd_ne nlo]; exact el, (Kp.new hl _).trans (Kp.new no _), (hP.new hl _).new no _, rfl, List.Perm.refl _⟩ ?_ ?_
    · rintro i H' hi ⟨ys, ls, e1, e2, k', P', hyl, hpm⟩
      have hll : ls.length = xs.length - i := by
        have := hpm.length_eq
        rw [List.length_append] at this
        omega
      refine ⟨rfl, ?_⟩
      unfold tYes
      dsimp only
      rw [if_pos rfl]
      refine ⟨_, rfl, .inl ⟨rfl, _, SqL.of e2⟩, _, rfl, _, rfl, l, ls, rfl, .inl (SqL.of e2), p, _, rfl, P', by omega, by omega, fun v2 H2 k2 P2 a2 b2 => ?_⟩
      have e1' := k2 _ _ no' e1
      have e2' := k2 _ _ nl e2
      have hk : v2.toNat < ls.length := by omega
      refine ⟨l, _, v2, v2.toNat, ls[v2.toNat], rfl, rfl, e2', by omega, by omega, seqIx a2 (by omega), List.getElem?_eq_getElem hk, ?_⟩
      refine ⟨ys, by rw [upd_ne nlo.symm]; exact e1', small1000 (by omega), ys ++ [ls[v2.toNat]], ls.eraseIdx v2.toNat, upd_same, by rw [upd_ne nlo, upd_same], fun b z n1 e => ?_, ?_, ?_, ?_⟩
      · rw [upd_ne (ne_of_none e hno), upd_ne (ne_of_none e hl)]
        exact (k'.trans k2) _ _ n1 e
      · obtain ⟨x1, x2, x3, x4, z1, z2⟩ := P2
        exact ⟨x1, x2, x3, x4, by rw [upd_ne no'.symm, upd_ne nl.symm]; exact z1, z2⟩
      · rw [List.length_append, hyl]
        rfl
      · have h1 : (ls[v2.toNat] :: ls.eraseIdx v2.toNat).Perm ls := perm_erase (List.getElem?_eq_getElem hk)
        refine List.Perm.trans ?_ hpm
        rw [List.append_assoc]
        exact List.Perm.append_left ys h1
    · rintro H' ⟨ys, ls, e1, e2, k', P', hyl, hpm⟩
      refine q o ys H' k' P' hno e1 ?_
      have h0 : ls = [] := by
        have := hpm.length_eq
        rw [List.length_append] at this
        exact List.length_eq_zero_iff.mp (by omega)
      rw [h0, List.append_nil] at hpm
      exact hpm
end
end Deed

namespace Deed
open PySem PySem.Spec PyProof.Rows L2
theorem perm_pairs {α β : Type} (f : α → β) {ys xs : List β} (h : ys.Perm xs) : ∀ zs : List α, xs = zs.map f → ∃ zs' : List α, ys = zs'.map f ∧ zs'.Perm zs := by
  induction h with
  | nil =>
    intro zs e
    cases zs with
    | nil => exact ⟨[], rfl, List.Perm.refl _⟩
    | cons z r => cases e
  | cons x _ ih =>
    intro zs e
    cases zs with
    | nil => cases e
    | cons z r =>
      rw [List.map_cons] at e
      injection e with e1 e2
      obtain ⟨zs', h1, h2⟩ := ih r e2
      exact ⟨z :: zs', by rw [List.map_cons, ← h1, e1], h2.cons z⟩
  | swap x y l =>
    intro zs e
    match zs, e with
    | [], e => cases e
    | [_], e => cases e
    | a :: b :: r, e =>
      rw [List.map_cons, List.map_cons] at e
      injection e with e1 e2
      injection e2 with e2 e3
      exact ⟨b :: a :: r, by rw [List.map_cons, List.map_cons, ← e1, ← e2, ← e3], List.Perm.swap _ _ _⟩
  | trans _ _ ih1 ih2 =>
    intro zs e
    obtain ⟨z1, h1, h2⟩ := ih2 zs e
    obtain ⟨z2, h3, h4⟩ := ih1 z1 h1
    exact ⟨z2, h3, h4.trans h2⟩
def dn (es : List En) : List Int := (es.filter (·.isDeed)).map (·.num)
def an (es : List En) : List Int := (es.filter (fun e => !e.isDeed)).map (·.num)
theorem dn_snoc (es : List En) (e : En) : dn (es ++ [e]) = dn es ++ (if e.isDeed then [e.num] else []) := by
  unfold dn
  rw [List.filter_append, List.map_append]
  cases h : e.isDeed <;> simp [List.filter, h]
theorem an_snoc (es : List En) (e : En) : an (es ++ [e]) = an es ++ (if e.isDeed then [] else [e.num]) := by
  unfold an
  rw [List.filter_append, List.map_append]
  cases h : e.isDeed <;> simp [List.filter, h]
theorem dn_sub (es : List En) : ∀ x ∈ dn es, x ∈ es.map (·.num) := fun x hx => by
  obtain ⟨e, he, rfl⟩ := List.mem_map.mp hx
  exact List.mem_map.mpr ⟨e, (List.mem_filter.mp he).1, rfl⟩
theorem an_sub (es : List En) : ∀ x ∈ an es, x ∈ es.map (·.num) := fun x hx => by
  obtain ⟨e, he, rfl⟩ := List.mem_map.mp hx
  exact List.mem_map.mpr ⟨e, (List.mem_filter.mp he).1, rfl⟩
theorem dn_nodup {es : List En} (h : (es.map (fun e => e.num)).Nodup) : (dn es).Nodup := by
  have h1 : (es.filter (fun e => e.isDeed)).Sublist es := List.filter_sublist
  exact (h1.map (fun e => e.num)).nodup h
theorem dn_len (es : List En) : (dn es).length ≤ es.length := by
  unfold dn
  rw [List.length_map]
  exact List.length_filter_le _ _
theorem an_len (es : List En) : (an es).length ≤ es.length := by
  unfold an
  rw [List.length_map]
  exact List.length_filter_le _ _
theorem mem_dn {es : List En} {x : Int} : x ∈ dn es ↔ ∃ e ∈ es, e.isDeed = true ∧ e.num = x := by
  unfold dn
  simp only [List.mem_map, List.mem_filter]
  constructor
  · rintro ⟨e, ⟨h1, h2⟩, h3⟩
    exact ⟨e, h1, h2, h3⟩
  · rintro ⟨e, h1, h2, h3⟩
    exact ⟨e, ⟨h1, h2⟩, h3⟩
theorem mem_an {es : List En} {x : Int} : x ∈ an es ↔ ∃ e ∈ es, e.isDeed = false ∧ e.num = x := by
  unfold an
  simp only [List.mem_map, List.mem_filter, Bool.not_eq_true']
  constructor
  · rintro ⟨e, ⟨h1, h2⟩, h3⟩
    exact ⟨e, h1, h2, h3⟩
  · rintro ⟨e, h1, h2, h3⟩
    exact ⟨e, ⟨h1, h2⟩, h3⟩
/-- entries of a book of n folk -/
structure BkOk (n : Nat) (es : List En) : Prop where
  nd : (es.map (·.num)).Nodup
  rng : ∀ e ∈ es, 0 ≤ e.num ∧ e.num ≤ 30
  ok : ∀ e ∈ es, EnOk n (dn es) (an es) e
theorem BkOk.perm {n : Nat} {es es' : List En} (h : BkOk n es) (p : es'.Perm es) : BkOk n es' := by
  refine ⟨(p.map _).nodup_iff.mpr h.nd, fun e he => h.rng e (p.mem_iff.mp he), fun e he => (h.ok e (p.mem_iff.mp he)).mono (fun x hx => ?_) fun x hx => ?_⟩
  · obtain ⟨e', h1, h2⟩ := mem_dn.mp hx
    exact mem_dn.mpr ⟨e', p.mem_iff.mpr h1, h2⟩
  · obtain ⟨e', h1, h2⟩ := mem_an.mp hx
    exact mem_an.mpr ⟨e', p.mem_iff.mpr h1, h2⟩
def En.word (e : En) : Str := match e.kd with
  | .deed _ _ _ _ => "deed"
  | .act x _ => x
theorem EnOk.word {n : Nat} {ds as : List Int} {e : En} (h : EnOk n ds as e) : e.word = "deed" ↔ e.isDeed = true := by
  unfold En.word En.isDeed
  cases hk : e.kd with
  | deed g t rs ws => simp
  | act x o =>
    have h4 := h.2.2.2
    rw [hk] at h4
    simp only [Bool.false_eq_true, iff_false]
    rcases h4.1 with ⟨z, _⟩ | ⟨z | z, _⟩ <;> rw [z] <;> decide
/-- the first places of an entry -/
theorem EntAt.tup {H : Hp} {a : Addr} {e : En} (h : EntAt H a e) : ∃ xs, H a = some (.tup xs) ∧ atI xs 0 = some (.int e.num) ∧ atI xs 1 = some (.int e.day) ∧ atI xs 2 = some (.int e.wri) ∧ atI xs 3 = some (.int e.hand) ∧ atI xs 4 = some (.str e.word) := by
  unfold EntAt at h
  unfold En.word
  cases hk : e.kd with
  | deed g t rs ws =>
    rw [hk] at h
    obtain ⟨r, w, h1, _⟩ := h
    exact ⟨_, h1, atI_nat (j := 0) rfl, atI_nat (j := 1) rfl, atI_nat (j := 2) rfl, atI_nat (j := 3) rfl, atI_nat (j := 4) rfl⟩
  | act x o =>
    rw [hk] at h
    exact ⟨_, h, atI_nat (j := 0) rfl, atI_nat (j := 1) rfl, atI_nat (j := 2) rfl, atI_nat (j := 3) rfl, atI_nat (j := 4) rfl⟩
theorem FolkAt.kpT {H H' : Hp} {t : Addr} {n : Nat} (h : FolkAt H t n) (k : KpT H H') : FolkAt H' t n := by
  obtain ⟨xs, h1, h2, h3⟩ := h
  refine ⟨xs, k _ _ h1, h2, fun x hx => ?_⟩
  obtain ⟨a, b, d, e, h4, r⟩ := h3 x hx
  exact ⟨a, b, d, e, k _ _ h4, r⟩
theorem KpT.lst {H : Hp} {l : Addr} {xs : List V} (e : H l = some (.lst xs)) (o : HO) : KpT H (upd H l o) := fun b ys h => by
  have nb : b ≠ l := fun z => by
    rw [z, e] at h
    cases h
  rw [upd_ne nb]
  exact h
theorem KpT.refl (H : Hp) : KpT H H := fun _ _ h => h
theorem Kp.over {p l : Addr} {H H' : Hp} (k : Kp p H H') (n : H l = none) (o : HO) : Kp p H (upd H' l o) := fun b u n1 e => by
  rw [upd_ne (ne_of_none e n)]
  exact k _ _ n1 e
theorem PenAt.put {p l : Addr} {H : Hp} (h : PenAt H p) (n : l ≠ p) (o : HO) : PenAt (upd H l o) p := by
  obtain ⟨x1, x2, x3, x4, z1, z2⟩ := h
  exact ⟨x1, x2, x3, x4, by rw [upd_ne n.symm]; exact z1, z2⟩
abbrev refs (zs : List (Addr × En)) : List V := zs.map fun z => .ref z.1
abbrev ens (zs : List (Addr × En)) : List En := zs.map (·.2)
/-- a book at b -/
structure BookAt (H : Hp) (b fk t : Addr) (n : Nat) (age : Int) (zs : List (Addr × En)) : Prop where
  at_ : H b = some (.tup [.ref fk, .int age, .ref t])
  folk : FolkAt H fk n
  n2 : 2 ≤ n
  n6 : n ≤ 6
  age0 : 0 ≤ age
  age1 : age ≤ 9999
  ents : H t = some (.tup (refs zs))
  ent : ∀ z ∈ zs, EntAt H z.1 z.2
  ok : BkOk n (ens zs)
  len : zs.length ≤ 16
theorem BookAt.kp {H H' : Hp} {b fk t : Addr} {n : Nat} {age : Int} {zs : List (Addr × En)} (h : BookAt H b fk t n age zs) (k : KpT H H') : BookAt H' b fk t n age zs :=
  ⟨k _ _ h.at_, h.folk.kpT k, h.n2, h.n6, h.age0, h.age1, k _ _ h.ents, fun z hz => (h.ent z hz).kp k, h.ok, h.len⟩
end Deed

namespace Deed
open PySem PySem.Spec PySem.W PyProof.Rows L2 LamX
/-! ### sorted(e, key=lambda x: x[0]) of a list or tuple of tuples -/
section
variable {prog : Program} {w : World} {A : Around} {E : Value → Shared → Prop} {s : Shared}
theorem collectT {l : Addr} {vs : List Value} {Q : List Value → Shared → Prop} (ht : s.heap.IsTuple l vs.toArray) (hsz : vs.length ≤ sizeLine)
    (h : Q vs { s with heap := (s.heap.push (seqObj "list" #[] 0)).update s.heap.objs.size (Obj.mapSeq (· ++ vs.toArray)) }) : wpAny (model prog w) A (collect (.ref l)) Q E s := by
  obtain ⟨ob, g0, gc, ep, gd⟩ := id ht
  have g1 : (s.heap.push (seqObj "list" #[] 0)).get? l = some ob := Heap.get?_push_of_some _ g0
  unfold collect
  refine wpAny_bind (m := _) (wpAny_runValue (codeAny_builtin entry_proto_collect' ?_))
  show wpAny _ _ (do again (.builtin "list.__iadd__" ⟨[← newList [], Value.ref l], []⟩)) _ _ s
  refine wpAny_bind (wpAny_newList (wpAny_pure ⟨Code.quiet_builtin _ (by decide +kernel), (codeAny_builtin entry_list_iadd' ?_)⟩))
  show wpAny _ _ (Builtin.List.listExtendWith (.ref s.heap.objs.size) (Value.ref l) (.ref s.heap.objs.size)) _ _ { s with heap := s.heap.push (seqObj "list" #[] 0) }
  unfold Builtin.List.listExtendWith
  refine wpAny_bind (wpAny_typeOf (T := "tuple") ⟨ob, g1, gc⟩ ?_)
  have tt : (Value.type "tuple" == Value.type "tuple") = true := by rfl
  rw [if_pos (by simp [tt])]
  refine wpAny_bind (listItems_at g1 gd ?_)
  refine wpAny_bind (listItems_at (n := 0) (xs := #[]) (Heap.get?_push_size _ rfl) rfl ?_)
  rw [if_neg (fun z => by simp at z)]
  refine wpAny_bind (listUpdate_at (n := 0) (xs := #[]) (Heap.get?_push_size _ rfl) rfl ?_ (Nat.zero_le _) (by show (#[] ++ vs.toArray).size ≤ sizeLine + 1; simp only [Array.size_append, List.size_toArray, List.length_nil]; omega))
  refine wpAny_pure (?_)
  show wpAny (model prog w) A (do let o ← load s.heap.objs.size; match o.data with | .seq xs _ => pure xs.toList | _ => unsupported "internal:collect") Q E { s with heap := (s.heap.push (seqObj "list" #[] 0)).update s.heap.objs.size (Obj.mapSeq (· ++ vs.toArray)) }
  refine wpAny_bind (wpAny_load (get?_update_seq (Heap.get?_push_size _ rfl) _) (?_))
  show wpAny _ _ (pure (((#[] : Array Value) ++ vs.toArray).toList)) Q E _
  rw [show (((#[] : Array Value) ++ vs.toArray).toList) = vs by simp]
  exact wpAny_pure h
theorem collectS {l : Addr} {vs : List Value} {Q : List Value → Shared → Prop} (hl : s.heap.IsList l vs.toArray ∨ s.heap.IsTuple l vs.toArray) (hsz : vs.length ≤ sizeLine)
    (h : Q vs { s with heap := (s.heap.push (seqObj "list" #[] 0)).update s.heap.objs.size (Obj.mapSeq (· ++ vs.toArray)) }) : wpAny (model prog w) A (collect (.ref l)) Q E s := by
  rcases hl with hl | hl
  · exact collect_list hl h hsz
  · exact collectT hl hsz h
/-- sorted(e, key=f), e a list or a tuple, the keys ints -/
theorem sortedK {β : Type} {l f : Addr} {vs : List Value} {bs : List β} {R : Value → β → Prop} {Q : Value → Shared → Prop} (k : β → Int) (hl : s.heap.IsList l vs.toArray ∨ s.heap.IsTuple l vs.toArray) (e : EachIs R vs bs) (hL : bs.length ≤ sizeLine) (hu : A.units + 66 < cLine)
    (turn : ∀ (v : Value) (x : β), R v x → x ∈ bs → ∀ (h : Heap) (tk : Nat), (∀ b o, s.heap.get? b = some o → h.get? b = some o) →
      wpAny (model prog w) A.in1.in1 (call (.ref f) [v]) (KeyPure (.int (k x)) { s with heap := h, toks := tk }) (fun _ _ => False) { s with heap := h, toks := tk })
    (h : ∀ out c h' tk, (∀ b o, s.heap.get? b = some o → h'.get? b = some o) → h'.get? (s.heap.objs.size + 1) = some (seqObj "list" (List.toArray out) c) → out.length = bs.length → EachIs R out (bs.mergeSort (dataLe false fun x => .int (k x))) →
      Q (.ref (s.heap.objs.size + 1)) { s with heap := h', toks := tk }) :
    wpAny (model prog w) A (call (.builtin "sorted") [.ref l] [(Str.ofString "key", .ref f)]) Q E s := by
  have hv : vs.length ≤ sizeLine := by rw [e.length]; exact hL
  have up : ∀ {g : Heap}, KeepsBut (s.heap.objs.size + 1) (copyHeap s.heap vs) g → ∀ b o, s.heap.get? b = some o → g.get? b = some o := fun kp b o z =>
    kp b o (Nat.ne_of_lt (Nat.lt_succ_of_lt (Heap.lt_size z))) (copyHeap_old z)
  have ez : ((s.heap.push (seqObj "list" #[] 0)).update s.heap.objs.size (Obj.mapSeq (· ++ vs.toArray))).objs.size = s.heap.objs.size + 1 := by rw [Heap.size_update, size_push']
  refine call_function_entry_kw kind_sorted plain_sorted entry_sorted (ksk_s1 _ _) ?_
  unfold Builtin.«sorted»
  refine wpAny_bind (m := checkCount "sorted" 1 1 _) (wpAny_pure (?_))
  refine wpAny_bind (collectS hl hv ?_)
  refine wpAny_bind (wpAny_newList (?_) hv)
  show wpAny _ _ _ _ _ { s with heap := copyHeap s.heap vs }
  rw [ez]
  refine wpAny_bind (wpAny_holding (wpAny_call_entry_kw slot_list_sort ⟨_, copyHeap_at s.heap vs, rfl⟩ entry_list_sort (?body) (ksk_l1 _ _)))
  case body =>
    show wpAny (model prog w) A.in1.in1 (Builtin.«list.sort» ⟨[.ref (s.heap.objs.size + 1)], [(Str.ofString "key", .ref f)]⟩) _ _ _
    rw [ksk_t1]
    refine keyH_tree (kz := bs.map fun x => PyData.int (k x)) (s := { s with heap := copyHeap s.heap vs }) (copyHeap_at s.heap vs) (by rw [List.length_map]; exact e.length.symm) hv (AllAlike.of fun _ _ => by simp [alike]) ?srt (fun d hd => ?dep)
      (keyH_turns (k := fun x => PyData.int (k x)) (s := { s with heap := copyHeap s.heap vs }) e fun v x hR hx h tk kp => turn v x hR hx h tk (up kp)) fun h' tk out c kp hD ko => ?fin
    case srt => exact Sortable.others fun _ => ⟨(fun z => nomatch z), (fun _ z => nomatch z)⟩
    case dep =>
      obtain ⟨x, _, rfl⟩ := List.mem_map.mp hd
      show A.units + 1 + 1 + PyData.depth (.int (k x)) < cLine
      simp only [PyData.depth]
      omega
    case fin =>
      exact ⟨_, rfl, wpAny_pure ⟨_, rfl, h out c h' tk (up kp) hD ((ko.length (by rw [List.length_map]; exact e.length.symm)).trans e.length) (keyedOut_each (fun x => PyData.int (k x)) ko e)⟩⟩
/-- the call of the lambda -/
theorem lam_key {f c' t : Addr} {x q : Str} {params : Arguments} {ix : Expr} {scope : Scope} {cl : List (Str × Addr)} {pm ctv : Value} {p1 p3 : Pos} {items : Array Value} {kk : Int} {u : Tok} {mg : Str → Option Value}
    (of : s.heap.get? f = some (kla_obj "<lambda>" q params (.Subscript (.Name x p1) ix p3) scope cl pm c' ctv)) (hcd : s.heap.CodeRec (.ref c') q) (hroom : A.depth < recursionLimit) (lim : s.heap.NoLimit) (ns : s.heap.Ns mainGlobals mg)
    (hk : scope.kind = .function) (hco : scope.isCoroutine = false) (hgen : scope.isGenerator = false) (hcell : ∀ y ∈ scope.names, y.2 ≠ .cell) (hloc : scope.names.lookup x = some .local)
    (hbind : ∀ v : Value, bindArgs (kla_fn "<lambda>" q params (.Subscript (.Name x p1) ix p3) scope cl pm (.ref c') ctv) ⟨[v], []⟩ = pure [(x, v)])
    (hix : ∀ (env : Env) (A : Around) (E : Value → Shared → Prop) (s' : Shared) (Q : Value → Shared → Prop), env.scope = scope → env.globals = mainGlobals → s'.heap.Ns mainGlobals mg → (∀ u tk, Q (.int 0 u) { s' with toks := tk }) → wpAny (model prog w) A (eval ix env) Q E s')
    (hpl : PlainIx ix) (hd : (x == ("__debug__" : Str)) = false) (ht : s.heap.IsTuple t items) (hx : items[0]? = some (.int kk u)) :
    wpAny (model prog w) A (call (.ref f) [.ref t]) (KeyPure (.int kk) s) (fun _ _ => False) s := by
  refine wpAny_call (kla_callFunE hroom of rfl hco hgen rfl hcd ?_)
  rw [hbind]
  refine wpAny_pure (wpAny_newFunctionEnv hcell (fun y hy => ?_) (fun h₁ hns hsb => ⟨lim.fresh _ hsb, ?_⟩) hk)
  · rw [List.mem_singleton.mp hy]
    exact hloc
  have kp : ∀ b o, s.heap.get? b = some o → h₁.get? b = some o := fun b o z => hsb.extBut b o (Nat.ne_of_lt (Heap.lt_size z)) (Heap.get?_push_of_some _ z)
  refine kla_codeExpr (Subscript_ (wpAny_Name (wpAny_loadName_local hk hloc hns (v := .ref t) (by simp) ?_) hd))
  refine hix _ _ _ _ _ rfl rfl (ns.keeps kp) fun u' tk' => ?_
  have ht1 : h₁.IsTuple t items := by
    obtain ⟨o, z1, z2, z3⟩ := ht
    exact ⟨o, kp _ _ z1, z2, z3⟩
  have hsz : 0 < items.size := by
    rcases Nat.eq_zero_or_pos items.size with z | z
    · rw [Array.getElem?_eq_none (by omega)] at hx
      cases hx
    · exact z
  refine subscriptTail_builtinR (x := .int kk u) (ht1.typeIs) slot_tuple_getitem.lookup (getItem_tuple (j := 0) (Q := fun r s' => r = .int kk u ∧ KeyPure (.int kk) s r s') ht1 (by decide) (by decide) (seqIndex_of (by decide) (by omega)) hx ⟨rfl, ?_⟩) (hpl _ _)
  exact ⟨h₁, _, rfl, kp, .int _ _⟩
end
end Deed

namespace Deed
open PySem PySem.Spec PySem.W PyProof.Rows L2 LamX
theorem each_vals {xs : List V} {us : List Value} (r : Vals xs us) : EachIs (fun u y => RelV y u) us xs := by
  induction r with
  | nil => exact .nil
  | cons h _ ih => exact .cons h ih
theorem vals_each {xs : List V} {us : List Value} (r : EachIs (fun u y => RelV y u) us xs) : Vals xs us := by
  induction r with
  | nil => exact .nil
  | cons h _ ih => exact .cons h ih
/-- sorted(e, key=lambda x: x[0]): some arrangement by the keys, at a new address; a table may have grown -/
def tSortK (K : PySem.W.Frag) (T : List (Addr × Str)) (te : TA) : TE := fun σ H Q => te σ H fun vs H1 => ∃ (a : Addr) (xs : List V) (ks : V → Int), vs = [.ref a] ∧ (SqL K H1 a xs ∨ SqT K H1 a xs) ∧ (∀ y ∈ xs, ∃ t r, y = .ref t ∧ H1 t = some (.tup (.int (ks y) :: r))) ∧ Tabs T H1 ∧
  ∀ p ys H2, ExtN H1 H2 → Tabs T H2 → H2 p = none → ys.Perm xs → ys.Pairwise (fun u v => ks u ≤ ks v) → Q (.ref p) (upd H2 p (.lst ys))
section
variable {X : Cx}
theorem pe_sortK {T : List (Addr × Str)} {c P : Addr} {k : Nat} {e ix : Expr} {te : TA} {x : Str} {params : Arguments} {scope : Scope} {p p1 p3 lpos kpos pos : Pos}
    (hg : Gl X "sorted") (hm : X.mg "sorted" = none) (ha : PA X [e] te) (hr : Room (k + 1) X.A) (TB : TabB X.base X.mg c P) (hcode : X.env.code = .ref c) (hmT : (P, X.env.qual ++ "<lambda>") ∈ T) (hu : ∀ p ∈ T, p.1 = P → p.2 = X.env.qual ++ "<lambda>")
    (hdef : defaultsOf params X.env = ([], [])) (hfree : ∀ y ∈ scope.names, y.2 ≠ .free)
    (hk : scope.kind = .function) (hco : scope.isCoroutine = false) (hgen : scope.isGenerator = false) (hcell : ∀ y ∈ scope.names, y.2 ≠ .cell) (hloc : scope.names.lookup x = some .local)
    (hbind : ∀ (q : Str) (cl : List (Str × Addr)) (pm cv ctv v : Value), bindArgs (kla_fn "<lambda>" q params (.Subscript (.Name x p1) ix p3) scope cl pm cv ctv) ⟨[v], []⟩ = pure [(x, v)])
    (hix : ∀ (env : Env) (A : Around) (E : Value → Shared → Prop) (s' : Shared) (Q : Value → Shared → Prop), env.scope = scope → env.globals = mainGlobals → s'.heap.Ns mainGlobals X.mg → (∀ u tk, Q (.int 0 u) { s' with toks := tk }) → wpAny (model X.prog X.w) A (eval ix env) Q E s')
    (hpl : PlainIx ix) (hd : (x == ("__debug__" : Str)) = false)
    (h1 : backTo pos (starEach [e] X.env) = (false, eval e X.env) :: backTo pos (starEach [] X.env) := by rfl) (h2 : (backTo pos (starEach [e] X.env)).any (·.1) = false := by rfl) :
    PE X (.Call (.Name "sorted" p) [e] [⟨some "key", .Lambda params (.Subscript (.Name x p1) ix p3) scope lpos, kpos⟩] pos) (tSortK X.K T te) := by
  refine ⟨fun pins s σ H Q I h => ?_⟩
  refine wpAny_Call_Name_kw (ld_blt I hg hm (show bootBuiltins "sorted" = some (.builtin "sorted") by decide +kernel) ?_)
  refine callWith_kw (thn (ha.run pos pins s σ H _ I h) fun us s1 ⟨vs, H1, I1, r1, q1⟩ => ?_) h1 h2 rfl rfl
  obtain ⟨a, xs, ks, rfl, hS, hxs, hT, q⟩ := q1
  obtain rfl := Vals.ref1 r1
  show wpAny _ _ (evalAll [(do let v ← eval (.Lambda params (.Subscript (.Name x p1) ix p3) scope lpos) X.env; standAt pos; pure v)]) _ _ s1
  refine wpAny_evalAll_cons (wpAny_bind (lam_make2 I1 TB hcode hmT hu hT hdef (fun y hy e => absurd e (hfree y hy)) fun f c' pm ctv H2 s2 I2 eN T2 hf hfn hfr hco' => wpAny_bind (wpAny_standAt (wpAny_pure (wpAny_evalAll_nil ?_)))))
  have seqs : ∃ its, Vals xs its ∧ xs.length ≤ sizeLine ∧ (s2.heap.IsList a its.toArray ∨ s2.heap.IsTuple a its.toArray) := by
    rcases hS with hS | hS
    · have hS2 : SqL X.K H2 a xs := by
        rcases hS with (z | ⟨o, z⟩) | z
        · exact .inl (.inl (eN _ _ z fun ps z' => by cases z'))
        · exact .inl (.inr ⟨o, eN _ _ z fun ps z' => by cases z'⟩)
        · exact .inr z
      obtain ⟨its, rv, hl, hz⟩ := I2.list hS2
      exact ⟨its, rv, hz, .inl hl.isList⟩
    · have hS2 : SqT X.K H2 a xs := by
        rcases hS with (z | ⟨o, z⟩) | z
        · exact .inl (.inl (eN _ _ z fun ps z' => by cases z'))
        · exact .inl (.inr ⟨o, eN _ _ z fun ps z' => by cases z'⟩)
        · exact .inr z
      obtain ⟨its, rv, hl, hz⟩ := I2.tuple hS2
      exact ⟨its, rv, hz, .inr hl⟩
  obtain ⟨its, rv, hz, hl⟩ := seqs
  have hun := hr.un
  have hdp := hr.dp
  show wpAny (model X.prog X.w) X.A (call (.builtin "sorted") [.ref a] [(Str.ofString "key", .ref f)]) _ _ s2
  refine sortedK (R := fun u y => RelV y u) ks hl (each_vals rv) hz (by omega) (fun u y hR hy h tk kp => ?_) fun out ep h' tk kp hD hlen eo => ?_
  · obtain ⟨t, r, rfl, ht⟩ := hxs y hy
    obtain rfl : u = Value.ref t := hR
    have ht2 := eN _ _ ht fun ps z' => by cases z'
    obtain ⟨_, its2, r2, o, ho, hc, n, hd2⟩ := I2.hok _ _ ht2
    obtain ⟨oc, vs, tt, c1, c2, c3⟩ := (I2.hok c' _ hco').1
    cases r2 with
    | cons ru r3 =>
      obtain ⟨tu, rfl⟩ := ru
      refine lam_key (u := tu) (s := { s2 with heap := h, toks := tk }) (kp _ _ hf) ⟨c', oc, vs, tt, rfl, kp _ _ c1, c2, c3⟩ ?_ (I2.nolimit.keeps kp) ((I2.mod.glob.keeps I2.bk).keeps kp) hk hco hgen hcell hloc (fun v => hbind _ _ _ _ _ v) hix hpl hd ⟨o, kp _ _ ho, hc, n, hd2⟩ (by simp)
      show X.A.depth < recursionLimit
      omega
  · rw [dataLe_int] at eo
    have hp : (xs.mergeSort fun a b => decide (ks a ≤ ks b)).Perm xs := List.mergeSort_perm _ _
    have hs : (xs.mergeSort fun a b => decide (ks a ≤ ks b)).Pairwise (fun u v => ks u ≤ ks v) := by
      have := List.pairwise_mergeSort (le := fun a b => decide (ks a ≤ ks b)) (fun a b c h1 h2 => by simp only [decide_eq_true_eq] at *; omega) (fun a b => by simp only [Bool.or_eq_true, decide_eq_true_eq]; omega) xs
      exact this.imp fun h => of_decide_eq_true h
    refine ⟨.ref _, _, I2.laid (t' := tk) kp (Nat.le_succ _) (show ObjOk X.prog X.w _ h' _ (.lst (xs.mergeSort fun a b => decide (ks a ≤ ks b))) from ⟨by rw [hp.length_eq]; exact hz, out, ep, vals_each eo, hD⟩), rfl, q _ _ H2 eN T2 (I2.hok.fresh (Nat.le_succ _)) hp hs⟩
end
end Deed

namespace Deed
open PySem PySem.Spec PyProof.Rows L2 LamX
/-! ### a def whose code object's table is told -/
theorem okC {P : Program} {w : World} {K : PySem.W.Frag} {mg : Str → Option Value} {base : Heap} {x qual : Str} {st : Stmt} {f c : Addr} {fd : FuncData} {N ps : List Str} {k : Nat} {sp : Sp} (F : Fun K x qual st f fd) (hc : fd.code = .ref c) (S : FnScope N ps (defScope st)) (len : ∀ vs H Q E, sp vs H Q E → vs.length = ps.length)
    (hbody : ∀ (A : Around) (outer : List Env) (s : Shared) (H : Hp) (vs : List V) (Q : VK) (E : XK), Room k (A.deeper (envOfC qual (defScope st) s.heap.objs.size f (.ref c))) → sp vs H Q E →
      ∃ t, PSs (cxOf CX0 P w K mg base N qual (defScope st) f (.ref c) A outer s H E).nox (defBody st) t ∧ t { nx := fun _ H' => Q .non H', rt := Q } (start N vs) H) : FnOk P w K mg base CX0 (k + 1) f fd ps sp := by
  obtain ⟨oc, od, kV, doc, pm, an, cdv, ct, osl, rfl, lk, hcd⟩ := F.ex
  have e : cdv = .ref c := hc
  subst e
  refine fn_of lk hcd S len fun A outer s H vs Q E hr hsp => ?_
  obtain ⟨t, h, q⟩ := hbody A outer s H vs Q E hr hsp
  exact ⟨t, h.nox, q⟩
/-- the number that stands ahead in the tuple at v -/
def keyAt (H : Hp) (v : V) : Int := match v with
  | .ref t => (match H t with
    | some (.tup (.int n :: _)) => n
    | _ => 0)
  | _ => 0
theorem EntAt.key {H : Hp} {a : Addr} {e : En} (h : EntAt H a e) : ∃ r, H a = some (.tup (.int e.num :: r)) ∧ keyAt H (.ref a) = e.num := by
  have fin : ∀ r, H a = some (.tup (.int e.num :: r)) → keyAt H (.ref a) = e.num := fun r z => by
    show (match H a with | some (.tup (.int n :: _)) => n | _ => 0) = e.num
    rw [z]
  unfold EntAt at h
  cases hk : e.kd with
  | deed g t rs ws =>
    rw [hk] at h
    obtain ⟨r, w, h1, _⟩ := h
    exact ⟨_, h1, fin _ h1⟩
  | act x o =>
    rw [hk] at h
    exact ⟨_, h, fin _ h⟩
/-- what isn't tracked, or a table -/
def Fresh (H : Hp) (p : Addr) : Prop := ∀ o, H p = some o → ∃ ps, o = .tbl ps
theorem Fresh.of {H H' : Hp} {p : Addr} (e : ExtN H H') (n : H' p = none) : Fresh H p := fun o z => by
  by_cases h : ∃ ps, o = .tbl ps
  · exact h
  · rw [e p o z fun ps q => h ⟨ps, q⟩] at n
    cases n
theorem Fresh.ne {H : Hp} {p b : Addr} {o : HO} (f : Fresh H p) (e : H b = some o) (h : ∀ ps, o ≠ .tbl ps) : b ≠ p := fun z => by
  rw [z] at e
  obtain ⟨ps, q⟩ := f o e
  exact h ps q
theorem Fresh.up {H H' : Hp} {p : Addr} (e : ExtN H H') (f : Fresh H' p) : Fresh H p := fun o z => by
  by_cases h : ∃ ps, o = .tbl ps
  · exact h
  · exact f o (e p o z fun ps q => h ⟨ps, q⟩)
theorem ExtN.tup {H H' : Hp} (e : ExtN H H') : KpT H H' := fun b xs z => e _ _ z fun ps q => by cases q
theorem ExtN.new {H : Hp} {p : Addr} (n : H p = none) (o : HO) : ExtN H (upd H p o) := .of fun b u e => by
  rw [upd_ne (ne_of_none e n)]
  exact e
theorem Tabs.new {T : List (Addr × Str)} {H : Hp} (t : Tabs T H) {p : Addr} (n : H p = none) (o : HO) : Tabs T (upd H p o) := t.ext fun b u e => by
  rw [upd_ne (ne_of_none e n)]
  exact e
/-- a tracked list is written: the tables stay -/
theorem Tabs.put {T : List (Addr × Str)} {H : Hp} (t : Tabs T H) {p : Addr} {xs : List V} (e : H p = some (.lst xs)) (o : HO) : Tabs T (upd H p o) := fun q hq => by
  obtain ⟨ps, h1, h2, h3⟩ := t q hq
  have n1 : q.1 ≠ p := fun z => by
    rw [z, e] at h1
    cases h1
  refine ⟨ps, by rw [upd_ne n1]; exact h1, h2, fun pos cv hc => ?_⟩
  obtain ⟨c, e1, e2⟩ := h3 pos cv hc
  refine ⟨c, e1, ?_⟩
  have n2 : c ≠ p := fun z => by
    rw [z, e] at e2
    unfold CodeO at e2
    cases e2
  rw [upd_ne n2]
  exact e2
theorem srt_num {H : Hp} {zs : List (Addr × En)} (he : ∀ z ∈ zs, EntAt H z.1 z.2) (nd : ((ens zs).map (·.num)).Nodup) (h : (refs zs).Pairwise (fun u v => keyAt H u ≤ keyAt H v)) : zs.Pairwise (fun a b => a.2.num < b.2.num) := by
  induction zs with
  | nil => exact .nil
  | cons z r ih =>
    have h1 := List.pairwise_cons.mp h
    have nd' : (z.2.num :: (ens r).map (·.num)).Nodup := nd
    have h2 := List.nodup_cons.mp nd'
    refine List.pairwise_cons.mpr ⟨fun y hy => ?_, ih (fun y hy => he y (List.mem_cons_of_mem _ hy)) h2.2 h1.2⟩
    have h3 := h1.1 (.ref y.1) (List.mem_map.mpr ⟨y, hy, rfl⟩)
    obtain ⟨_, _, k1⟩ := (he z List.mem_cons_self).key
    obtain ⟨_, _, k2⟩ := (he y (List.mem_cons_of_mem _ hy)).key
    rw [k1, k2] at h3
    have h4 : z.2.num ≠ y.2.num := fun q => h2.1 (List.mem_map.mpr ⟨y.2, List.mem_map.mpr ⟨y, hy, rfl⟩, q.symm⟩)
    omega
section
variable {P : Program} {w : World} {K : PySem.W.Frag} {mg : Str → Option Value} {base : Heap} {fRi : Addr} {dRi : FuncData} {T : List (Addr × Str)}
/-- an int of the module's top -/
def MgInt (mg : Str → Option Value) (x : Str) (i : Int) : Prop := ∃ t, mg x = some (.int i t)
theorem pe_num {X : Cx} {x : Str} {i : Int} {pos : Pos} (hg : Gl X x) (h : MgInt X.mg x i) (hd : (x == ("__debug__" : Str)) = false := by decide) : PE X (.Name x pos) (tC (.int i)) := by
  obtain ⟨t, h⟩ := h
  exact pe_glob hg h ⟨t, rfl⟩ hd
/-! ### the entries by their numbers -/
abbrev sRising : Stmt := topS 9
theorem scRising : FnScope ["book"] ["book"] (defScope sRising) := ⟨rfl, rfl, rfl, by decide +kernel, rfl, by decide +kernel, by decide +kernel⟩
/-- the book's text of the lambda's name -/
def qRis : Str := "entries_rising.<locals>.<lambda>"
def spRising (T : List (Addr × Str)) : Sp := fun vs H Q _ => ∃ (b fk t : Addr) (n : Nat) (age : Int) (zs : List (Addr × En)), vs = [.ref b] ∧ BookAt H b fk t n age zs ∧ Tabs T H ∧
  ∀ (p : Addr) (zs' : List (Addr × En)) (H' : Hp), ExtN H H' → Tabs T H' → Fresh H p → H' p = some (.lst (refs zs')) → zs'.Perm zs → zs'.Pairwise (fun a b => a.2.num < b.2.num) → Q (.ref p) H'
theorem ok_rising {f c tb : Addr} {fd : FuncData} {k : Nat} (F : Fun K "entries_rising" "entries_rising" sRising f fd) (hc : fd.code = .ref c) (TB : TabB base mg c tb) (ms : mg "sorted" = none) (mN : MgInt mg "NUMBER" 0) (hmT : (tb, qRis) ∈ T) (hu : ∀ p ∈ T, p.1 = tb → p.2 = qRis) :
    FnOk P w K mg base CX0 (k + 2) f fd ["book"] (spRising T) := by
  refine okC F hc scRising (fun vs H Q E h => ?_) (fun A outer s H vs Q E hr h => ?_)
  · obtain ⟨b, fk, t, n, age, zs, rfl, _⟩ := h
    rfl
  · obtain ⟨b, fk, t, n, age, zs, rfl, hB, hT, q⟩ := h
    refine ⟨_, pss_one (ps_ret (pe_sortK (T := T) (c := c) (P := tb) (k := k) (by rfl) ms (pa_cons (pe_ix ix_tup (pv 0) pe_int (fun _ _ => rfl)) pa_nil) hr TB rfl hmT hu rfl (by decide +kernel) rfl rfl rfl (by decide +kernel) rfl (fun _ _ _ _ _ _ => rfl) (fun env A E s' Q he hg hn hq => ?ix) (fun _ _ => rfl) (by decide))), ?_⟩
    case ix =>
      obtain ⟨tk, hN⟩ := mN
      refine Calls.Name_function_global (by rw [he]) (by unfold Env.kindOf; rw [he]; rfl) (Calls.loadGlobal_global (by rw [hg]; exact hn) hN (hq tk s'.toks))
    refine ⟨_, rfl, b, _, 2, _, rfl, rfl, SqT.of hB.at_, atI_nat (j := 2) rfl, t, refs zs, keyAt H, rfl, .inr (SqT.of hB.ents), fun y hy => ?_, hT, fun p ys H2 eN T2 np pm so => ?_⟩
    · obtain ⟨z, hz, rfl⟩ := List.mem_map.mp hy
      obtain ⟨r, h1, h2⟩ := (hB.ent z hz).key
      exact ⟨z.1, r, rfl, by rw [h2]; exact h1⟩
    · obtain ⟨zs', rfl, hp⟩ := perm_pairs (fun z : Addr × En => V.ref z.1) pm zs rfl
      refine q p zs' _ (eN.trans (ExtN.new np _)) (Tabs.new T2 np _) (Fresh.of eN np) upd_same hp (srt_num (fun z hz => hB.ent z (hp.mem_iff.mp hz)) (((hp.map _).map _).nodup_iff.mpr hB.ok.nd) so)
end
end Deed

namespace Deed
open PySem PySem.Spec PyProof.Rows L2 LamX
theorem take_more {α : Type} {l : List α} {i : Nat} {x : α} (h : l[i]? = some x) : l.take (i + 1) = l.take i ++ [x] := by
  rw [List.take_add_one, h]
  rfl
theorem ref_at {zs : List (Addr × En)} {i : Nat} {x : V} (h : (refs zs)[i]? = some x) : ∃ z, zs[i]? = some z ∧ x = .ref z.1 := by
  rw [List.getElem?_map] at h
  cases e : zs[i]? with
  | none => rw [e] at h; cases h
  | some z =>
    rw [e] at h
    exact ⟨z, rfl, (Option.some.inj h).symm⟩
section
variable {P : Program} {w : World} {K : PySem.W.Frag} {mg : Str → Option Value} {base : Heap} {fRi fDe : Addr} {dRi dDe : FuncData} {T : List (Addr × Str)}
/-- what entries_rising needs -/
structure RisD (K : PySem.W.Frag) (mg : Str → Option Value) (base : Heap) (T : List (Addr × Str)) (f : Addr) (fd : FuncData) : Prop where
  D : Df K mg "entries_rising" sRising ["book"] f fd
  hc : ∃ c tb, fd.code = .ref c ∧ TabB base mg c tb ∧ (tb, qRis) ∈ T ∧ ∀ p ∈ T, p.1 = tb → p.2 = qRis
  ms : mg "sorted" = none
  mN : MgInt mg "NUMBER" 0
theorem RisD.ok {k : Nat} {f : Addr} {fd : FuncData} (R : RisD K mg base T f fd) : FnOk P w K mg base CX0 (k + 2) f fd ["book"] (spRising T) := by
  obtain ⟨c, tb, h1, h2, h3, h4⟩ := R.hc
  exact ok_rising R.D.F h1 h2 R.ms R.mN h3 h4
/-- the entries that φ picks, by their numbers -/
def spPick (φ : En → Bool) (T : List (Addr × Str)) : Sp := fun vs H Q _ => ∃ (b fk t : Addr) (n : Nat) (age : Int) (zs : List (Addr × En)), vs = [.ref b] ∧ BookAt H b fk t n age zs ∧ Tabs T H ∧
  ∀ (p : Addr) (zs' : List (Addr × En)) (H' : Hp), ExtN H H' → Tabs T H' → Fresh H p → H' p = some (.lst (refs (zs'.filter fun z => φ z.2))) → zs'.Perm zs → zs'.Pairwise (fun a b => a.2.num < b.2.num) → Q (.ref p) H'
/-! ### their numbers -/
/-- the numbers of what φ picks, rising -/
def spNums (φ : En → Bool) (T : List (Addr × Str)) : Sp := fun vs H Q _ => ∃ (b fk t : Addr) (n : Nat) (age : Int) (zs : List (Addr × En)), vs = [.ref b] ∧ BookAt H b fk t n age zs ∧ Tabs T H ∧
  ∀ (p : Addr) (zs' : List (Addr × En)) (H' : Hp), ExtN H H' → Tabs T H' → Fresh H p → H' p = some (.lst (((zs'.filter fun z => φ z.2).map fun z => z.2.num).map V.int)) → zs'.Perm zs → zs'.Pairwise (fun a b => a.2.num < b.2.num) → Q (.ref p) H'
end
end Deed

namespace Deed
open PySem PySem.Spec PyProof.Rows L2 LamX
/-! ### rules whose reading names K; a def that may be called; comprehensions at large -/
theorem ix_tupK {X : Cx} {K : PySem.W.Frag} (h : X.K = K) : IxR X (rIxT K) := h ▸ ix_tup
theorem ix_listK {X : Cx} {K : PySem.W.Frag} (h : X.K = K) : IxR X (rIxL K) := h ▸ ix_list
theorem in_seqK {X : Cx} {K : PySem.W.Frag} (h : X.K = K) : OpR X (compareOp .In) (rIn K false) := h ▸ op_in_seq
theorem notIn_seqK {X : Cx} {K : PySem.W.Frag} (h : X.K = K) : OpR X (compareOp .NotIn) (rIn K true) := h ▸ op_notIn_seq
theorem len_seqK {X : Cx} {K : PySem.W.Frag} (h : X.K = K) : CallR X (.builtin "len") (rLenS K) := h ▸ call_len_seq
structure CallOk (P : Program) (w : World) (K : PySem.W.Frag) (mg : Str → Option Value) (base : Heap) (L : Nat) (x : Str) (ps : List Str) (sp : Sp) where
  f : Addr
  fd : FuncData
  g : mg x = some (.ref f)
  kp : PySem.W.keepIn K (.ref f) = true
  b : Binds K fd ps []
  ok : FnOk P w K mg base CX0 L f fd ps sp
def CallOk.mono {P : Program} {w : World} {K : PySem.W.Frag} {mg : Str → Option Value} {base : Heap} {L L' : Nat} {x : Str} {ps : List Str} {sp : Sp} (c : CallOk P w K mg base L x ps sp) (h : L ≤ L') : CallOk P w K mg base L' x ps sp := ⟨c.f, c.fd, c.g, c.kp, c.b, c.ok.mono h⟩
def Df.call {P : Program} {w : World} {K : PySem.W.Frag} {mg : Str → Option Value} {base : Heap} {L : Nat} {x : Str} {st : Stmt} {ps : List Str} {f : Addr} {fd : FuncData} {sp : Sp} (D : Df K mg x st ps f fd) (G : FnOk P w K mg base CX0 L f fd ps sp) : CallOk P w K mg base L x ps sp := ⟨f, fd, D.g, D.F.kp, D.b, G⟩
theorem nodup_len : ∀ {l m : List Int}, l.Nodup → (∀ x ∈ l, x ∈ m) → l.length ≤ m.length
  | [], m, _, _ => Nat.zero_le _
  | a :: r, m, h, hs => by
    rw [List.nodup_cons] at h
    have ha := hs a List.mem_cons_self
    have h1 := nodup_len (l := r) (m := m.erase a) h.2 fun x hx => by
      have hne : x ≠ a := fun z => h.1 (z ▸ hx)
      exact (List.mem_erase_of_ne hne).mpr (hs x (List.mem_cons_of_mem _ hx))
    rw [List.length_erase_of_mem ha] at h1
    have := List.length_pos_of_mem ha
    rw [List.length_cons]
    omega
theorem none_back {H H' : Hp} {p : Addr} (s : Same H H') (n : H' p = none) : H p = none := by
  cases h : H p with
  | none => rfl
  | some o => rw [s _ _ h] at n; cases n
theorem same_refl (H : Hp) : Same H H := fun _ _ e => e
theorem take_filter {α : Type} {p : α → Bool} {ys : List α} {i : Nat} {y : α} (h : ys[i]? = some y) : (ys.take (i + 1)).filter p = (ys.take i).filter p ++ (if p y then [y] else []) := by
  rw [take_more h, List.filter_append]
  congr 1
  cases hp : p y <;> simp [hp]
section
variable {J : It} {n : Nat} {G : Hp → Prop} {Y : Nat → Hp → V → Hp → Prop} {g : TG} {tt : TT} {te : TE} {vs : List Nat} {σ : L2.St} {H1 : Hp} {D : Addr} {Qd : Hp → Prop} {α : Type}
abbrev LcGoal (J : It) (g : TG) (tt : TT) (te : TE) (vs : List Nat) (σ : L2.St) (H1 : Hp) (D : Addr) (Qd : Hp → Prop) : Prop :=
  ∃ W : Nat → Nat → Hp → Prop, (∃ m, W 0 m (upd H1 D (.lst []))) ∧ ∀ i m H, W i m H →
      (J.stop i H ∧ Qd H) ∨ (J.go i H ∧ ∃ Nx : Hp → Prop, (∀ H', Nx H' → ∃ m', m' < m ∧ W (i + 1) m' H') ∧ ∀ x H', J.yld i H x H' → g x (wipe σ vs) H' fun σ2 H2 => wipe σ2 vs = wipe σ vs ∧ tt σ2 H2 fun b H3 =>
        if b = true then te σ2 H3 fun y H4 => ∃ acc, H4 D = some (.lst acc) ∧ acc.length < sizeLine ∧ Nx (upd H4 D (.lst (acc ++ [y]))) else Nx H3)
/-- at large: St a step of the heap, In what holds of it, E what holds of an item -/
theorem lc_gen (w : Walk J n G Y) (ys : List α) (p : α → Bool) (In : Hp → Prop) (Sp1 : Hp → Hp → Prop) (E : Hp → α → V → Prop) (hn : ys.length = n) (hlen : ys.length ≤ 1000) (h0 : In (upd H1 D (.lst []))) (hG : ∀ H, In H → G H)
    (hSt : ∀ H H', In H → Sp1 H H' → In H' ∧ ∀ xs, H D = some (.lst xs) → H' D = some (.lst xs)) (hPut : ∀ H xs l, In H → H D = some (.lst xs) → In (upd H D (.lst l)))
    (hE : ∀ H H' y u, In H → Sp1 H H' → E H y u → E H' y u) (hEp : ∀ H xs l y u, In H → H D = some (.lst xs) → E H y u → E (upd H D (.lst l)) y u)
    (hs : ∀ i y x H H', ys[i]? = some y → In H → Y i H x H' → ∀ (Q1 : V → Hp → Prop) (Q0 : Hp → Prop), (p y = true → ∀ u H4, Sp1 H H4 → E H4 y u → Q1 u H4) → (p y = false → ∀ H3, Sp1 H H3 → Q0 H3) →
      g x (wipe σ vs) H' fun σ2 H2 => wipe σ2 vs = wipe σ vs ∧ tt σ2 H2 fun b H3 => if b = true then te σ2 H3 Q1 else Q0 H3)
    (hd : ∀ H (zs : List (V × α)), In H → H D = some (.lst (zs.map (·.1))) → zs.map (·.2) = ys.filter p → (∀ z ∈ zs, E H z.2 z.1) → Qd H) : LcGoal J g tt te vs σ H1 D Qd := by
  refine lc_it w (fun i H => In H ∧ ∃ zs : List (V × α), H D = some (.lst (zs.map (·.1))) ∧ zs.map (·.2) = (ys.take i).filter p ∧ ∀ z ∈ zs, E H z.2 z.1) ⟨h0, [], upd_same, rfl, fun _ h => nomatch h⟩ (fun i H _ h => hG H h.1) ?_ ?_
  · rintro i x H H' hi ⟨hI, zs, eD, ez, hz⟩ hY
    rw [← hn] at hi
    have hy : ys[i]? = some ys[i] := List.getElem?_eq_getElem hi
    have hzl : zs.length ≤ 1000 := by
      have h1 := congrArg List.length ez
      rw [List.length_map] at h1
      have h2 := List.length_filter_le p (ys.take i)
      rw [List.length_take] at h2
      omega
    refine hs i ys[i] x H H' hy hI hY _ _ (fun hp u H4 s4 e4 => ?_) (fun hp H3 s3 => ?_)
    · obtain ⟨I4, k4⟩ := hSt _ _ hI s4
      have eD4 := k4 _ eD
      refine ⟨_, eD4, small1000 (by rw [List.length_map]; omega), hPut _ _ _ I4 eD4, zs ++ [(u, ys[i])], ?_, ?_, fun z hzz => ?_⟩
      · rw [upd_same, List.map_append]
        rfl
      · rw [List.map_append, ez, take_filter hy, hp]
        rfl
      · rcases List.mem_append.mp hzz with h | h
        · exact hEp _ _ _ _ _ I4 eD4 (hE _ _ _ _ hI s4 (hz z h))
        · rw [List.mem_singleton.mp h]
          exact hEp _ _ _ _ _ I4 eD4 e4
    · obtain ⟨I3, k3⟩ := hSt _ _ hI s3
      refine ⟨I3, zs, k3 _ eD, ?_, fun z hzz => hE _ _ _ _ hI s3 (hz z hzz)⟩
      rw [ez, take_filter hy, hp]
      simp
  · rintro H ⟨hI, zs, eD, ez, hz⟩
    rw [← hn, List.take_length] at ez
    exact hd H zs hI eD ez hz
theorem same_put {H H1 : Hp} {D : Addr} (nD : H1 D = none) (s : Same H1 H) (o : HO) : Same H1 (upd H D o) := fun b u e => by
  rw [upd_ne (ne_of_none e nD)]
  exact s _ _ e
theorem same_new {H : Hp} {p : Addr} (n : H p = none) (o : HO) : Same H (upd H p o) := fun b u e => by rw [upd_ne (ne_of_none e n)]; exact e
/-- values; nothing but the new list is otherwise -/
theorem lc_sameV (w : Walk J n G Y) (ys : List α) (p : α → Bool) (v : α → V) (hn : ys.length = n) (hlen : ys.length ≤ 1000) (nD : H1 D = none) (hG : ∀ H, Same H1 H → G H)
    (hs : ∀ i y x H H', ys[i]? = some y → Same H1 H → Y i H x H' → ∀ (Q1 : V → Hp → Prop) (Q0 : Hp → Prop), (p y = true → ∀ H4, Same H H4 → Q1 (v y) H4) → (p y = false → ∀ H3, Same H H3 → Q0 H3) →
      g x (wipe σ vs) H' fun σ2 H2 => wipe σ2 vs = wipe σ vs ∧ tt σ2 H2 fun b H3 => if b = true then te σ2 H3 Q1 else Q0 H3)
    (hd : ∀ H, Same H1 H → H D = some (.lst ((ys.filter p).map v)) → Qd H) : LcGoal J g tt te vs σ H1 D Qd := by
  refine lc_gen w ys p (fun H => Same H1 H) Same (fun _ y u => u = v y) hn hlen (same_new nD _) hG (fun H H' h1 h2 => ⟨h1.trans h2, fun xs e => h2 _ _ e⟩) (fun H xs l h1 _ => same_put nD h1 _) (fun _ _ _ _ _ _ e => e) (fun _ _ _ _ _ _ _ e => e) (fun i y x H H' hy h1 hY Q1 Q0 q1 q0 => ?_) (fun H zs h1 e ez hz => ?_)
  · exact hs i y x H H' hy h1 hY Q1 Q0 (fun hp H4 s4 => q1 hp _ H4 s4 rfl) q0
  · refine hd H h1 ?_
    rw [e, ← ez, List.map_map]
    congr 2
    exact List.map_congr_left fun z hzz => hz z hzz
theorem lc_sameM (w : Walk J n G Y) (ys : List α) (v : α → V) (hn : ys.length = n) (hlen : ys.length ≤ 1000) (nD : H1 D = none) (hG : ∀ H, Same H1 H → G H)
    (hs : ∀ i y x H H', ys[i]? = some y → Same H1 H → Y i H x H' → ∀ (Q1 : V → Hp → Prop), (∀ H4, Same H H4 → Q1 (v y) H4) → g x (wipe σ vs) H' fun σ2 H2 => wipe σ2 vs = wipe σ vs ∧ te σ2 H2 Q1)
    (hd : ∀ H, Same H1 H → H D = some (.lst (ys.map v)) → Qd H) : LcGoal J g tYes te vs σ H1 D Qd := by
  refine lc_sameV w ys (fun _ => true) v hn hlen nD hG (fun i y x H H' hy h1 hY Q1 Q0 q1 q0 => ?_) (fun H h1 e => hd H h1 (by rw [e, List.filter_eq_self.mpr fun _ _ => rfl]))
  exact hs i y x H H' hy h1 hY Q1 (fun H4 s4 => q1 rfl H4 s4)
/-- new tuples -/
theorem lc_sameT (w : Walk J n G Y) (ys : List α) (p : α → Bool) (v : α → List V) (hn : ys.length = n) (hlen : ys.length ≤ 1000) (nD : H1 D = none) (hG : ∀ H, Same H1 H → G H)
    (hs : ∀ i y x H H', ys[i]? = some y → Same H1 H → Y i H x H' → ∀ (Q1 : V → Hp → Prop) (Q0 : Hp → Prop), (p y = true → ∀ t H4, Same H H4 → H4 t = some (.tup (v y)) → Q1 (.ref t) H4) → (p y = false → ∀ H3, Same H H3 → Q0 H3) →
      g x (wipe σ vs) H' fun σ2 H2 => wipe σ2 vs = wipe σ vs ∧ tt σ2 H2 fun b H3 => if b = true then te σ2 H3 Q1 else Q0 H3)
    (hd : ∀ H (zs : List (Addr × α)), Same H1 H → H D = some (.lst (zs.map fun z => .ref z.1)) → zs.map (·.2) = ys.filter p → (∀ z ∈ zs, H z.1 = some (.tup (v z.2))) → Qd H) : LcGoal J g tt te vs σ H1 D Qd := by
  refine lc_gen w ys p (fun H => Same H1 H) Same (fun H y u => ∃ t, u = .ref t ∧ H t = some (.tup (v y))) hn hlen (same_new nD _) hG (fun H H' h1 h2 => ⟨h1.trans h2, fun xs e => h2 _ _ e⟩) (fun H xs l h1 _ => same_put nD h1 _) (fun H H' y u _ h2 e => ?_) (fun H xs l y u h1 h2 e => ?_) (fun i y x H H' hy h1 hY Q1 Q0 q1 q0 => ?_) (fun H zs h1 e ez hz => ?_)
  · obtain ⟨t, e1, e2⟩ := e
    exact ⟨t, e1, h2 _ _ e2⟩
  · obtain ⟨t, e1, e2⟩ := e
    refine ⟨t, e1, ?_⟩
    rw [upd_ne fun z => by rw [z, h2] at e2; cases e2]
    exact e2
  · exact hs i y x H H' hy h1 hY Q1 Q0 (fun hp t H4 s4 e4 => q1 hp _ H4 s4 ⟨t, rfl, e4⟩) q0
  · have key : ∀ zs : List (V × α), (∀ z ∈ zs, ∃ t, z.1 = .ref t ∧ H t = some (.tup (v z.2))) → ∃ ws : List (Addr × α), zs.map (·.1) = ws.map (fun z => V.ref z.1) ∧ ws.map (·.2) = zs.map (·.2) ∧ ∀ z ∈ ws, H z.1 = some (.tup (v z.2)) := by
      intro zs
      induction zs with
      | nil => exact fun _ => ⟨[], rfl, rfl, fun _ h => nomatch h⟩
      | cons z r ih =>
        intro h
        obtain ⟨ws, a1, a2, a3⟩ := ih fun x hx => h x (List.mem_cons_of_mem _ hx)
        obtain ⟨t, e1, e2⟩ := h z List.mem_cons_self
        refine ⟨(t, z.2) :: ws, ?_, ?_, fun x hx => ?_⟩
        · rw [List.map_cons, List.map_cons, a1, e1]
        · rw [List.map_cons, List.map_cons, a2]
        · rcases List.mem_cons.mp hx with h | h
          · rw [h]
            exact e2
          · exact a3 x h
    obtain ⟨ws, a1, a2, a3⟩ := key zs hz
    exact hd H ws h1 (by rw [e, a1]) (by rw [a2, ez]) a3
end
end Deed

namespace Deed
open PySem PySem.Spec PyProof.Rows L2 LamX
theorem cutTake {α : Type} (f : α → V) (l : List α) {v : Int} (h : 0 ≤ v) : cutV (l.map f) none (some v) = (l.take v.toNat).map f := by
  unfold cutV
  obtain ⟨n, rfl⟩ : ∃ n : Nat, v = n := ⟨v.toNat, by omega⟩
  rw [HT.sIx_none, HT.sIx_nat, List.drop_zero, List.length_map, Int.toNat_natCast, Nat.sub_zero, ← List.map_take]
  congr 1
  rw [List.take_eq_take_iff]
  omega
theorem cutDrop {α : Type} (f : α → V) (l : List α) (m : Nat) : cutV (l.map f) (some (m : Int)) none = (l.drop m).map f := by
  unfold cutV
  rw [HT.sIx_none, HT.sIx_nat, List.length_map, ← List.map_drop, ← List.map_take]
  congr 1
  by_cases h : m ≤ l.length
  · rw [Nat.min_eq_left h, List.take_of_length_le (by rw [List.length_drop]; omega)]
  · rw [Nat.min_eq_right (by omega), List.drop_of_length_le (by omega), List.drop_of_length_le (by omega), List.take_nil]
section
variable {P : Program} {w : World} {K : PySem.W.Frag} {mg : Str → Option Value} {base : Heap}
abbrev CDraw (P : Program) (w : World) (K : PySem.W.Frag) (mg : Str → Option Value) (base : Heap) (k : Nat) := CallOk P w K mg base k "_law_draw" ["_law_pen_here", "_law_bound"] spDraw
abbrev sDay : Stmt := topS 26
abbrev nDay : List Str := ["_law_pen_here"]
abbrev pDay : List Str := ["_law_pen_here"]
theorem scDay : FnScope nDay pDay (defScope sDay) := ⟨rfl, rfl, rfl, by decide +kernel, rfl, by decide +kernel, by decide +kernel⟩
def spDay : Sp := fun vs H Q _ => ∃ (p : Addr), vs = [.ref p] ∧ PenAt H p ∧ ∀ v H', Kp p H H' → PenAt H' p → 0 ≤ v → v ≤ 9999 → Q (.int v) H'
theorem ok_day {f : Addr} {fd : FuncData} {k : Nat} (F : Fun K "_law_day" "_law_day" sDay f fd) (C__law_draw : CDraw P w K mg base k) : FnOk P w K mg base CX0 (k + 1) f fd pDay spDay := by
  refine F.ok scDay (fun vs H Q E h => ?_) (fun cdv A outer s H vs Q E hr h => ?_)
  · obtain ⟨p, rfl, _⟩ := h
    rfl
  · obtain ⟨p, rfl, hP, q⟩ := h
    refine ⟨_, pss_one (ps_ret (pe_ix ix_list (pe_lst (pa_cons (pe_call C__law_draw.ok hr (by rfl) C__law_draw.g C__law_draw.kp C__law_draw.b .nil pass0 (pa_cons (pv 0) (pa_cons pe_int pa_nil))) (pa_cons (pe_call C__law_draw.ok hr (by rfl) C__law_draw.g C__law_draw.kp C__law_draw.b .nil pass0 (pa_cons (pv 0) (pa_cons pe_int pa_nil))) (pa_cons (pe_call C__law_draw.ok hr (by rfl) C__law_draw.g C__law_draw.kp C__law_draw.b .nil pass0 (pa_cons (pv 0) (pa_cons pe_int pa_nil))) pa_nil)))) (pe_op op_fdiv (pe_call C__law_draw.ok hr (by rfl) C__law_draw.g C__law_draw.kp C__law_draw.b .nil pass0 (pa_cons (pv 0) (pa_cons pe_int pa_nil))) pe_int) (fun _ _ => rfl))), ?_⟩
    refine ⟨_, rfl, p, 7, rfl, hP, by decide, by decide, fun v1 H1 k1 P1 a1 b1 => ?_⟩
    refine ⟨_, rfl, p, 40, rfl, P1, by decide, by decide, fun v2 H2 k2 P2 a2 b2 => ?_⟩
    refine ⟨_, rfl, p, 10000, rfl, P2, by decide, by decide, fun v3 H3 k3 P3 a3 b3 => ?_⟩
    refine ⟨(by show 3 ≤ sizeLine; decide), fun l nl => ?_⟩
    refine ⟨_, rfl, p, 6, rfl, P3.new nl _, by decide, by decide, fun v4 H4 k4 P4 a4 b4 => ?_⟩
    refine ⟨_, _, rfl, rfl, ⟨by decide, by decide⟩, ?_⟩
    obtain ⟨_, g5, n5, rfl, a5, b5⟩ := pick (i := v4 / 2) (xs := [.int v1, .int v2, .int v3]) (Within 0 9999) (by omega) (by show v4 / 2 < 3; omega) (am1 ⟨_, rfl, by omega, by omega⟩ (am1 ⟨_, rfl, by omega, by omega⟩ (am1 ⟨_, rfl, by omega, by omega⟩ am0)))
    refine ⟨l, _, _, _, rfl, rfl, SqL.of (k4 _ _ (P3.free nl) upd_same), g5, ?_⟩
    exact q n5 _ (k1.trans (k2.trans (k3.trans ((Kp.new nl _).trans k4)))) P4 a5 b5
abbrev sFolk : Stmt := topS 24
abbrev nFolk : List Str := ["_law_pen_here", "_law_least", "_law_found", "_law_k", "_law_born", "_law_died"]
abbrev pFolk : List Str := ["_law_pen_here", "_law_least"]
theorem scFolk : FnScope nFolk pFolk (defScope sFolk) := ⟨rfl, rfl, rfl, by decide +kernel, rfl, by decide +kernel, by decide +kernel⟩
def spFolk : Sp := fun vs H Q _ => ∃ (p : Addr) (least : Int), vs = [.ref p, .int least] ∧ PenAt H p ∧ 1 ≤ least ∧ least ≤ 6 ∧ ∀ t (n : Nat) H', Kp p H H' → PenAt H' p → FolkAt H' t n → least ≤ n → n ≤ 6 → Q (.ref t) H'
theorem ok_folk {f : Addr} {fd : FuncData} {k : Nat} (F : Fun K "_law_folk" "_law_folk" sFolk f fd) (C__law_draw : CDraw P w K mg base k) (m_range : mg "range" = none) (m_min : mg "min" = none) (m_tuple : mg "tuple" = none) : FnOk P w K mg base CX0 (k + 1) f fd pFolk spFolk := by
  refine F.ok scFolk (fun vs H Q E h => ?_) (fun cdv A outer s H vs Q E hr h => ?_)
  · obtain ⟨p, l, rfl, _⟩ := h
    rfl
  · obtain ⟨p, least, rfl, hP, hl1, hl6, q⟩ := h
    have nd := scFolk.nd
    refine ⟨_, pss_cons (ps_set (i := 2) nd rfl (.inl rfl) (pe_lst pa_nil))
      (pss_cons (ps_for PassesOwn.never rfl (pi_range1 rfl m_range (pa_cons (pe_op op_add (pv 1) (pe_call C__law_draw.ok hr (by rfl) C__law_draw.g C__law_draw.kp C__law_draw.b .nil pass0 (pa_cons (pv 0) (pa_cons (pe_op op_sub pe_int (pv 1)) pa_nil)))) pa_nil)) (pg_name (i := 3) nd rfl (.inl rfl))
        (pss_cons (ps_set (i := 4) nd rfl (.inl rfl) (pe_ix ix_list (pe_lst (pa_cons (pe_op op_sub pe_int (pe_call C__law_draw.ok hr (by rfl) C__law_draw.g C__law_draw.kp C__law_draw.b .nil pass0 (pa_cons (pv 0) (pa_cons pe_int pa_nil)))) (pa_cons (pe_call C__law_draw.ok hr (by rfl) C__law_draw.g C__law_draw.kp C__law_draw.b .nil pass0 (pa_cons (pv 0) (pa_cons pe_int pa_nil))) (pa_cons (pe_op op_sub (pe_call C__law_draw.ok hr (by rfl) C__law_draw.g C__law_draw.kp C__law_draw.b .nil pass0 (pa_cons (pv 0) (pa_cons pe_int pa_nil))) pe_int) pa_nil)))) (pe_op op_fdiv (pe_call C__law_draw.ok hr (by rfl) C__law_draw.g C__law_draw.kp C__law_draw.b .nil pass0 (pa_cons (pv 0) (pa_cons pe_int pa_nil))) pe_int) (fun _ _ => rfl)))
      (pss_cons (ps_set (i := 5) nd rfl (.inl rfl) (pe_callB (call_min2 rfl) (by rfl) m_min (by decide +kernel) (pa_cons pe_int (pa_cons (pe_op op_add (pe_op op_add (pv 4) pe_int) (pe_ix ix_list (pe_lst (pa_cons (pe_call C__law_draw.ok hr (by rfl) C__law_draw.g C__law_draw.kp C__law_draw.b .nil pass0 (pa_cons (pv 0) (pa_cons pe_int pa_nil))) (pa_cons (pe_call C__law_draw.ok hr (by rfl) C__law_draw.g C__law_draw.kp C__law_draw.b .nil pass0 (pa_cons (pv 0) (pa_cons pe_int pa_nil))) pa_nil))) (pe_call C__law_draw.ok hr (by rfl) C__law_draw.g C__law_draw.kp C__law_draw.b .nil pass0 (pa_cons (pv 0) (pa_cons pe_int pa_nil))) (fun _ _ => rfl))) pa_nil))))
      (pss_one (ps_expr (pe_bm PySem.F.plainAttrs_list PySem.F.slot_list_append PySem.F.type_list_append mt_append (pv 2) (pa_cons (pe_tup (pa_cons (pv 4) (pa_cons (pe_ix ix_list (pe_lst (pa_cons pe_non (pa_cons (pv 5) pa_nil))) (pe_call C__law_draw.ok hr (by rfl) C__law_draw.g C__law_draw.kp C__law_draw.b .nil pass0 (pa_cons (pv 0) (pa_cons pe_int pa_nil))) (fun _ _ => rfl)) pa_nil))) pa_nil)))))))
      (pss_one (ps_ret (pe_callTy call_tuple_of (by rfl) m_tuple (by decide +kernel) (pa_cons (pv 2) pa_nil))))), ?_⟩
    refine ⟨Nat.zero_le _, fun l hl => ?_⟩
    have Pl : PenAt (upd H l (.lst [])) p := hP.new hl _
    have nl : l ≠ p := hP.free hl
    refine ⟨_, rfl, _, rfl, _, rfl, _, _, rfl, rfl, p, 7 - least, rfl, Pl, by omega, by omega, fun v1 H1 k1 P1 a1 b1 => ?_⟩
    refine ⟨_, _, rfl, rfl, _, rfl, by omega, by omega, ?_⟩
    refine for_range (lo := 0) (n := (least + v1).toNat) (fun i σ H' => ∃ y3 y4 y5 xs, σ = [some (.ref p), some (.int least), some (.ref l), y3, y4, y5] ∧ Kp p H H' ∧ PenAt H' p ∧ H' l = some (.lst xs) ∧ xs.length = i ∧ ∀ x ∈ xs, PersonAt H' x)
      ⟨none, none, none, [], rfl, (Kp.new hl _).trans k1, P1, k1 _ _ nl upd_same, rfl, am0⟩ ?_ ?_
    · rintro i σ H' hi ⟨y3, y4, y5, xs, rfl, k', P', el, ln, ps⟩
      refine ⟨_, rfl, p, 40, rfl, P', by decide, by decide, fun v2 H2 k2 P2 a2 b2 => ⟨_, _, rfl, rfl, ?_⟩⟩
      refine ⟨_, rfl, p, 9, rfl, P2, by decide, by decide, fun v2' H2' k2' P2' a2' b2' => ?_⟩
      refine ⟨_, rfl, p, 9000, rfl, P2', by decide, by decide, fun v3 H3 k3 P3 a3 b3 => ⟨_, _, rfl, rfl, ?_⟩⟩
      refine ⟨(by show 3 ≤ sizeLine; decide), fun m hm => ?_⟩
      refine ⟨_, rfl, p, 5, rfl, P3.new hm _, by decide, by decide, fun v4 H4 k4 P4 a4 b4 => ?_⟩
      refine ⟨_, _, rfl, rfl, ⟨by decide, by decide⟩, ?_⟩
      obtain ⟨_, g5, n5, rfl, a5, b5⟩ := pick (i := v4 / 2) (xs := [.int (0 - v2), .int v2', .int (v3 - 4000)]) (Within (-9999) 9998) (by omega) (by show v4 / 2 < 3; omega) (am1 ⟨_, rfl, by omega, by omega⟩ (am1 ⟨_, rfl, by omega, by omega⟩ (am1 ⟨_, rfl, by omega, by omega⟩ am0)))
      refine ⟨m, _, _, _, rfl, rfl, SqL.of (k4 _ _ (P3.free hm) upd_same), g5, ?_⟩
      have kA : Kp p H' H4 := k2.trans (k2'.trans (k3.trans ((Kp.new hm _).trans k4)))
      refine ⟨_, rfl, _, _, rfl, rfl, ?_⟩
      refine ⟨_, rfl, p, 60, rfl, P4, by decide, by decide, fun v6 H6 k6 P6 a6 b6 => ?_⟩
      refine ⟨_, rfl, p, 9999, rfl, P6, by decide, by decide, fun v7 H7 k7 P7 a7 b7 => ?_⟩
      refine ⟨(by show 2 ≤ sizeLine; decide), fun m2 hm2 => ?_⟩
      refine ⟨_, rfl, p, 2, rfl, P7.new hm2 _, by decide, by decide, fun v8 H8 k8 P8 a8 b8 => ?_⟩
      obtain ⟨_, g9, n9, rfl, a9, b9⟩ := pick (xs := [.int v6, .int v7]) (Within 0 9998) a8 b8 (am1 ⟨_, rfl, by omega, by omega⟩ (am1 ⟨_, rfl, by omega, by omega⟩ am0))
      refine ⟨m2, _, v8, _, rfl, rfl, SqL.of (k8 _ _ (P7.free hm2) upd_same), g9, _, _, rfl, rfl, _, _, rfl, ?_⟩
      have kB : Kp p H4 H8 := k6.trans (k7.trans ((Kp.new hm2 _).trans k8))
      have hd : n5 < (if n5 + 1 + n9 < 9999 then n5 + 1 + n9 else 9999) ∧ (if n5 + 1 + n9 < 9999 then n5 + 1 + n9 else 9999) ≤ 9999 := by
        split <;> omega
      generalize (if n5 + 1 + n9 < 9999 then n5 + 1 + n9 else 9999) = dd at hd
      have kC := kA.trans kB
      have el8 := kC _ _ nl el
      refine ⟨_, rfl, .inl ⟨rfl, _, SqL.of el8⟩, _, rfl, _, rfl, (by show 2 ≤ sizeLine; decide), fun m3 hm3 => ?_⟩
      refine ⟨_, rfl, p, 2, rfl, P8.new hm3 _, by decide, by decide, fun v10 H10 k10 P10 a10 b10 => ?_⟩
      obtain ⟨vd, g11, hvd⟩ := pick (xs := [.non, .int dd]) (fun d => d = .non ∨ ∃ i : Int, d = .int i ∧ n5 < i ∧ i ≤ 9999) a10 b10 (am1 (.inl rfl) (am1 (.inr ⟨_, rfl, hd⟩) am0))
      refine ⟨m3, _, v10, _, rfl, rfl, SqL.of (k10 _ _ (P8.free hm3) upd_same), g11, (by show 2 ≤ sizeLine; decide), fun t ht => ?_⟩
      have kD := (kC.trans ((Kp.new hm3 _).trans k10)).trans (Kp.new (p := p) ht (.tup [.int n5, vd]))
      have elD := kD _ _ nl el
      have PD : PenAt (upd H10 t (.tup [.int n5, vd])) p := P10.new ht _
      refine ⟨l, _, _, rfl, rfl, elD, small1000 (by omega), ?_⟩
      have kE : ∀ b o, b ≠ p → b ≠ l → H' b = some o → (upd (upd H10 t (.tup [.int n5, vd])) l (.lst (xs ++ [.ref t]))) b = some o := fun b o n1 n2 e => by
        rw [upd_ne n2]
        exact kD _ _ n1 e
      have ntl : t ≠ l := fun z => by
        have := (kC.trans ((Kp.new hm3 _).trans k10)) _ _ nl el
        rw [z, this] at ht
        cases ht
      refine ⟨_, _, _, xs ++ [.ref t], rfl, fun b o n1 e => ?_, ?_, upd_same, ?_, fun x hx => ?_⟩
      · by_cases hb : b = l
        · rw [hb, hl] at e
          cases e
        · exact kE b o n1 hb (k' _ _ n1 e)
      · obtain ⟨x1, x2, x3, x4, e1, e2⟩ := PD
        exact ⟨x1, x2, x3, x4, by rw [upd_ne nl.symm]; exact e1, e2⟩
      · rw [List.length_append, ln]
        rfl
      · rcases List.mem_append.mp hx with hx | hx
        · obtain ⟨a, b, d, e, h1, r⟩ := ps x hx
          exact ⟨a, b, d, e, kE _ _ (P'.ne h1 fun _ z => by cases z) (fun z => by rw [z, el] at h1; cases h1) h1, r⟩
        · rw [List.mem_singleton.mp hx]
          exact ⟨t, n5, vd, rfl, by rw [upd_ne ntl, upd_same], by omega, by omega, hvd⟩
    · rintro σ H' ⟨y3, y4, y5, xs, rfl, k', P', el, ln, ps⟩
      refine ⟨_, rfl, l, xs, rfl, .inl ⟨SqL.of el, fun t ht => ?_⟩⟩
      have kF : Kp p H' (upd H' t (.tup xs)) := Kp.new ht _
      exact q t (least + v1).toNat _ (k'.trans kF) (P'.new ht _) ⟨xs, upd_same, ln, fun x hx => (ps x hx).kp kF P'⟩ (by omega) (by omega)
abbrev sFew : Stmt := topS 27
abbrev nFew : List Str := ["_law_pen_here", "_law_some", "_law_most", "_law_left"]
abbrev pFew : List Str := ["_law_pen_here", "_law_some", "_law_most"]
theorem scFew : FnScope nFew pFew (defScope sFew) := ⟨rfl, rfl, rfl, by decide +kernel, rfl, by decide +kernel, by decide +kernel⟩
def spFew (K : PySem.W.Frag) : Sp := fun vs H Q _ => ∃ (p a : Addr) (most : Int) (ns : List Int), vs = [.ref p, .ref a, .int most] ∧ PenAt H p ∧ SqL K H a (ns.map V.int) ∧ 0 ≤ most ∧ most ≤ 1000 ∧ ns.length ≤ 1000 ∧
  ∀ t (rs ls : List Int) H', Kp p H H' → PenAt H' p → H' t = some (.tup (rs.map V.int)) → (rs ++ ls).Perm ns → rs.Pairwise (· ≤ ·) → rs.length ≤ most → Q (.ref t) H'
theorem ok_few {f : Addr} {fd : FuncData} {k : Nat} (F : Fun K "_law_few" "_law_few" sFew f fd) (C__law_draw : CDraw P w K mg base k) (C__law_mixed : CallOk P w K mg base k "_law_mixed" ["_law_pen_here", "_law_some"] (spMixed K)) (m_tuple : mg "tuple" = none) (m_sorted : mg "sorted" = none) : FnOk P w K mg base CX0 (k + 1) f fd pFew (spFew K) := by
  refine F.ok scFew (fun vs H Q E h => ?_) (fun cdv A outer s H vs Q E hr h => ?_)
  · obtain ⟨p, a, most, ns, rfl, _⟩ := h
    rfl
  · obtain ⟨p, a, most, ns, rfl, hP, hS, hm0, hm1, hln, q⟩ := h
    have nd := scFew.nd
    refine ⟨_, pss_cons (ps_set (i := 3) nd rfl (.inl rfl) (pe_call C__law_mixed.ok hr (by rfl) C__law_mixed.g C__law_mixed.kp C__law_mixed.b .nil pass0 (pa_cons (pv 0) (pa_cons (pv 1) pa_nil))))
      (pss_one (ps_ret (pe_callTy call_tuple_of (by rfl) m_tuple (by decide +kernel) (pa_cons (pe_callB cr_sortedI (by rfl) m_sorted (by decide +kernel) (pa_cons (pe_slice sl_list (pv 3) po_none (po_some (pe_call C__law_draw.ok hr (by rfl) C__law_draw.g C__law_draw.kp C__law_draw.b .nil pass0 (pa_cons (pv 0) (pa_cons (pe_op op_add (pv 2) pe_int) pa_nil))))) pa_nil)) pa_nil)))), ?_⟩
    refine ⟨_, rfl, _, rfl, p, a, _, rfl, hP, .inl hS, by rw [List.length_map]; exact hln, fun l ys H1 k1 P1 nl el pm => ?_⟩
    obtain ⟨ms, rfl, pm2⟩ := perm_pairs V.int pm ns rfl
    have nlp : l ≠ p := hP.free nl
    refine ⟨_, rfl, _, rfl, _, rfl, _, _, rfl, rfl, p, most + 1, rfl, P1, by omega, by omega, fun v H2 k2 P2 a2 b2 => ?_⟩
    have el2 := k2 _ _ nlp el
    refine ⟨_, rfl, l, _, rfl, SqL.of el2, fun s1 ns1 => ?_⟩
    rw [cutTake _ _ a2]
    have P3 := P2.new ns1 (.lst ((ms.take v.toNat).map V.int))
    have k3 : Kp p H2 _ := Kp.new ns1 (.lst ((ms.take v.toNat).map V.int))
    refine ⟨s1, _, rfl, SqL.of upd_same, fun rs m pm3 up nm => ?_⟩
    refine ⟨m, _, rfl, .inl ⟨SqL.of upd_same, fun t nt => ?_⟩⟩
    refine q t rs (ms.drop v.toNat) _ (k1.trans (k2.trans (k3.trans ((Kp.new nm _).trans (Kp.new nt _))))) ((P3.new nm _).new nt _) upd_same ?_ up ?_
    · refine (List.Perm.append_right _ pm3).trans ?_
      rw [List.take_append_drop]
      exact pm2
    · rw [pm3.length_eq, List.length_take]
      omega
end
end Deed

namespace Deed
open PySem PySem.Spec PyProof.Rows L2 LamX
section
variable {P : Program} {w : World} {K : PySem.W.Frag} {mg : Str → Option Value} {base : Heap}
def rgI (n : Nat) : List Int := (List.range n).map fun i : Nat => (i : Int)
theorem rgV_ints (n : Nat) : rgV 0 (n : Int) = (rgI n).map V.int := by
  unfold rgV rgI
  rw [List.map_map]
  simp
theorem rgI_len (n : Nat) : (rgI n).length = n := by unfold rgI; simp
abbrev sDeed : Stmt := topS 28
abbrev nDeed : List Str := ["_law_pen_here", "_law_number", "_law_folk_here", "_law_deeds", "_law_both", "_law_giver", "_law_taker", "_law_head"]
abbrev pDeed : List Str := ["_law_pen_here", "_law_number", "_law_folk_here", "_law_deeds"]
theorem scDeed : FnScope nDeed pDeed (defScope sDeed) := ⟨rfl, rfl, rfl, by decide +kernel, rfl, by decide +kernel, by decide +kernel⟩
def spDeed (K : PySem.W.Frag) : Sp := fun vs H Q _ => ∃ (p fk ld : Addr) (num : Int) (n : Nat) (ds : List Int), vs = [.ref p, .int num, .ref fk, .ref ld] ∧ PenAt H p ∧ FolkAt H fk n ∧ 2 ≤ n ∧ n ≤ 6 ∧ H ld = some (.lst (ds.map V.int)) ∧ ld ≠ p ∧ ds.Nodup ∧ ds.length ≤ 1000 ∧ (∀ d ∈ ds, d < num) ∧
  ∀ a (e : En) H', Kp p H H' → PenAt H' p → EntAt H' a e → e.num = num → e.isDeed = true → (∀ as, EnOk n ds as e) → Q (.ref a) H'
theorem ok_deed {f : Addr} {fd : FuncData} {k : Nat} (F : Fun K "_law_deed" "_law_deed" sDeed f fd) (C__law_draw : CDraw P w K mg base k) (C__law_day : CallOk P w K mg base k "_law_day" pDay spDay) (C__law_mixed : CallOk P w K mg base k "_law_mixed" ["_law_pen_here", "_law_some"] (spMixed K)) (C__law_few : CallOk P w K mg base k "_law_few" pFew (spFew K)) (m_list : mg "list" = none) (m_range : mg "range" = none) (m_len : mg "len" = none) : FnOk P w K mg base CX0 (k + 1) f fd pDeed (spDeed K) := by
  refine F.ok scDeed (fun vs H Q E h => ?_) (fun cdv A outer s H vs Q E hr h => ?_)
  · obtain ⟨p, fk, ld, num, n, ds, rfl, _⟩ := h
    rfl
  · obtain ⟨p, fk, ld, num, n, ds, rfl, hP, hF, h2, h6, eld, nld, hnd, hdl, hdn, q⟩ := h
    have nd := scDeed.nd
    refine ⟨_, pss_cons (ps_set (i := 4) nd rfl (.inl rfl) (pe_call C__law_mixed.ok hr (by rfl) C__law_mixed.g C__law_mixed.kp C__law_mixed.b .nil pass0 (pa_cons (pv 0) (pa_cons (pe_listRg (by rfl) (by rfl) m_list (prg_1 (by rfl) m_range (pe_callB call_len_seq (by rfl) m_len (by decide +kernel) (pa_cons (pv 2) pa_nil)))) pa_nil))))
      (pss_cons (ps_par (i := 5) (j := 6) (by rfl) nd rfl rfl (by decide) rfl rfl (pa_cons (pe_ix ix_list (pv 4) pe_int (fun _ _ => rfl)) (pa_cons (pe_ix ix_list (pv 4) pe_int (fun _ _ => rfl)) pa_nil)) (by rfl))
      (pss_cons (ps_set (i := 7) nd rfl (.inl rfl) (pe_tup (pa_cons (pv 1) (pa_cons (pe_call C__law_day.ok hr (by rfl) C__law_day.g C__law_day.kp C__law_day.b .nil pass0 (pa_cons (pv 0) pa_nil)) (pa_cons (pe_call C__law_day.ok hr (by rfl) C__law_day.g C__law_day.kp C__law_day.b .nil pass0 (pa_cons (pv 0) pa_nil)) (pa_cons (pe_call C__law_draw.ok hr (by rfl) C__law_draw.g C__law_draw.kp C__law_draw.b .nil pass0 (pa_cons (pv 0) (pa_cons pe_int pa_nil))) (pa_cons pe_str (pa_cons (pv 5) (pa_cons (pv 6) pa_nil)))))))))
      (pss_one (ps_ret (pe_op op_catT (pv 7) (pe_tup (pa_cons (pe_call C__law_few.ok hr (by rfl) C__law_few.g C__law_few.kp C__law_few.b .nil pass0 (pa_cons (pv 0) (pa_cons (pv 3) (pa_cons pe_int pa_nil)))) (pa_cons (pe_call C__law_few.ok hr (by rfl) C__law_few.g C__law_few.kp C__law_few.b .nil pass0 (pa_cons (pv 0) (pa_cons (pe_slice sl_list (pv 4) (po_some pe_int) po_none) (pa_cons pe_int pa_nil)))) pa_nil)))))))), ?_⟩
    obtain ⟨xs, ef, hxl, _⟩ := id hF
    refine ⟨_, rfl, _, rfl, fk, _, rfl, .inr (SqT.of ef), _, rfl, ?_, fun l1 nl1 => ?_⟩
    · unfold RgOk
      rw [hxl]
      refine ⟨by omega, by omega, by omega, by omega, ?_⟩
      exact Nat.le_of_lt (small1000 (by omega))
    rw [hxl, rgV_ints]
    have k1 : Kp p H _ := Kp.new nl1 (.lst ((rgI n).map V.int))
    have P1 := hP.new nl1 (.lst ((rgI n).map V.int))
    have el1 : (upd H l1 (.lst ((rgI n).map V.int))) l1 = some (.lst ((rgI n).map V.int)) := upd_same
    generalize upd H l1 (.lst ((rgI n).map V.int)) = H1 at k1 P1 el1
    refine ⟨p, l1, _, rfl, P1, .inl (SqL.of el1), by rw [List.length_map, rgI_len]; omega, fun l ys H2 k2 P2 nl el pm => ?_⟩
    obtain ⟨ms, rfl, pm2⟩ := perm_pairs V.int pm _ rfl
    have hml : ms.length = n := by rw [pm2.length_eq, rgI_len]
    have hmr : ∀ x ∈ ms, 0 ≤ x ∧ x < n := fun x hx => by
      have hx := pm2.mem_iff.mp hx
      unfold rgI at hx
      obtain ⟨i, hi, rfl⟩ := List.mem_map.mp hx
      have := List.mem_range.mp hi
      omega
    have hmn : ms.Nodup := pm2.nodup_iff.mpr (by
      have h := List.nodup_range (n := n)
      unfold rgI
      exact List.Pairwise.map _ (fun a b h z => h (by omega)) h)
    have nlp : l ≠ p := P1.free nl
    obtain ⟨g, t, r, rfl⟩ : ∃ g t r, ms = g :: t :: r := by
      match ms, hml with
      | [], h => exact absurd h (by simp; omega)
      | [_], h => exact absurd h (by simp; omega)
      | a :: b :: c, _ => exact ⟨a, b, c, rfl⟩
    refine ⟨_, rfl, l, _, _, _, rfl, rfl, SqL.of el, (atI_nat (j := 0) rfl), _, rfl, l, _, _, _, rfl, rfl, SqL.of el, (atI_nat (j := 1) rfl), _, _, rfl, ?_⟩
    refine ⟨_, rfl, _, rfl, p, rfl, P2, fun v1 H3 k3 P3 a1 b1 => ?_⟩
    refine ⟨_, rfl, p, rfl, P3, fun v2 H4 k4 P4 a2 b2 => ?_⟩
    refine ⟨_, rfl, p, 4, rfl, P4, by decide, by decide, fun v3 H5 k5 P5 a3 b3 => ?_⟩
    refine ⟨_, rfl, _, rfl, (by show 7 ≤ sizeLine; decide), fun th nth => ?_⟩
    have k6 : Kp p H5 _ := Kp.new nth (.tup [.int num, .int v1, .int v2, .int v3, .str "deed", .int g, .int t])
    have P6 := P5.new nth (.tup [.int num, .int v1, .int v2, .int v3, .str "deed", .int g, .int t])
    have eth : (upd H5 th (.tup [.int num, .int v1, .int v2, .int v3, .str "deed", .int g, .int t])) th = some (.tup [.int num, .int v1, .int v2, .int v3, .str "deed", .int g, .int t]) := upd_same
    generalize upd H5 th (.tup [.int num, .int v1, .int v2, .int v3, .str "deed", .int g, .int t]) = H6 at k6 P6 eth
    have k26 : Kp p H2 H6 := k3.trans (k4.trans (k5.trans k6))
    have k06 : Kp p H H6 := k1.trans (k2.trans k26)
    refine ⟨_, rfl, _, rfl, _, rfl, p, ld, 2, ds, rfl, P6, SqL.of (k06 _ _ nld eld), by decide, by decide, hdl, fun tr rs ls H7 k7 P7 etr pr upr hrl => ?_⟩
    have el7 := k7 _ _ nlp (k26 _ _ nlp el)
    refine ⟨_, rfl, _, rfl, _, rfl, l, _, rfl, SqL.of el7, fun s1 ns1 => ?_⟩
    rw [show cutV ((g :: t :: r).map V.int) (some 2) none = r.map V.int from cutDrop V.int (g :: t :: r) 2]
    have k8 : Kp p H7 _ := Kp.new ns1 (.lst (r.map V.int))
    have P8 := P7.new ns1 (.lst (r.map V.int))
    have es1 : (upd H7 s1 (.lst (r.map V.int))) s1 = some (.lst (r.map V.int)) := upd_same
    generalize upd H7 s1 (.lst (r.map V.int)) = H8 at k8 P8 es1
    have hrn : r.length ≤ 1000 := by
      have : (g :: t :: r).length = n := hml
      simp at this
      omega
    refine ⟨p, s1, 3, r, rfl, P8, SqL.of es1, by decide, by decide, hrn, fun tw ws ls2 H9 k9 P9 etw pw upw hwl => ?_⟩
    refine ⟨(by show 2 ≤ sizeLine; decide), fun t4 nt4 => ?_⟩
    have k10 : Kp p H9 _ := Kp.new nt4 (.tup [.ref tr, .ref tw])
    have P10 := P9.new nt4 (.tup [.ref tr, .ref tw])
    have et4 : (upd H9 t4 (.tup [.ref tr, .ref tw])) t4 = some (.tup [.ref tr, .ref tw]) := upd_same
    generalize upd H9 t4 (.tup [.ref tr, .ref tw]) = H10 at k10 P10 et4
    have k79 : Kp p H7 H10 := k8.trans (k9.trans k10)
    have eth10 := (k7.trans k79).tup P6 _ _ eth
    refine ⟨th, t4, _, _, rfl, rfl, SqT.of eth10, SqT.of et4, List.cons_ne_nil _ _, (by show 9 ≤ sizeLine; decide), fun z0 => absurd z0 (List.cons_ne_nil _ _), fun _ b hb => ?_⟩
    have kb : Kp p H10 (upd H10 b (.tup ([.int num, .int v1, .int v2, .int v3, .str "deed", .int g, .int t] ++ [.ref tr, .ref tw]))) := Kp.new hb _
    have etr10 := kb.tup P10 _ _ (k79.tup P7 _ _ etr)
    have etw10 := kb.tup P10 _ _ (k10.tup P9 _ _ etw)
    have hg := hmr g (by simp)
    have ht := hmr t (by simp)
    rw [List.nodup_cons, List.nodup_cons] at hmn
    have hwr : ∀ y ∈ ws, y ∈ r := fun y hy => pw.mem_iff.mp (List.mem_append_left _ hy)
    have hrd : ∀ y ∈ rs, y ∈ ds := fun y hy => pr.mem_iff.mp (List.mem_append_left _ hy)
    refine q b ⟨num, v1, v2, v3, .deed g t rs ws⟩ _ (k06.trans (k7.trans (k79.trans kb))) (P10.new hb _) ⟨tr, tw, upd_same, etr10, etw10⟩ rfl rfl fun as => ?_
    refine ⟨⟨a1, b1⟩, ⟨a2, b2⟩, ⟨a3, by show v3 ≤ 3; omega⟩, hg, ht, fun z => hmn.1 (z ▸ List.mem_cons_self), by omega, rising_of ?_ upr, fun y hy => ⟨hrd y hy, hdn _ (hrd y hy)⟩, by omega, rising_of ?_ upw, fun y hy => ?_⟩
    · exact (List.nodup_append.mp (pr.nodup_iff.mpr hnd)).1
    · exact (List.nodup_append.mp (pw.nodup_iff.mpr hmn.2.2)).1
    · have hy := hwr y hy
      have h1 := hmr y (by simp [hy])
      exact ⟨h1.1, h1.2, fun z => hmn.1 (z ▸ List.mem_cons_of_mem _ hy), fun z => hmn.2.1 (z ▸ hy)⟩
abbrev sAct : Stmt := topS 29
abbrev nAct : List Str := ["_law_pen_here", "_law_number", "_law_deeds", "_law_acts", "_law_word", "_law_some"]
abbrev pAct : List Str := ["_law_pen_here", "_law_number", "_law_deeds", "_law_acts"]
theorem scAct : FnScope nAct pAct (defScope sAct) := ⟨rfl, rfl, rfl, by decide +kernel, rfl, by decide +kernel, by decide +kernel⟩
def spAct (K : PySem.W.Frag) : Sp := fun vs H Q _ => ∃ (p ld la : Addr) (num : Int) (ds as : List Int), vs = [.ref p, .int num, .ref ld, .ref la] ∧ PenAt H p ∧ H ld = some (.lst (ds.map V.int)) ∧ ld ≠ p ∧ H la = some (.lst (as.map V.int)) ∧ la ≠ p ∧ ds ≠ [] ∧ ds.length ≤ 1000 ∧ as.length ≤ 1000 ∧ (∀ d ∈ ds, d < num) ∧ (∀ d ∈ as, d < num) ∧
  ∀ a (e : En) H', Kp p H H' → PenAt H' p → EntAt H' a e → e.num = num → e.isDeed = false → (∀ n, EnOk n ds as e) → Q (.ref a) H'
theorem ok_act {f : Addr} {fd : FuncData} {k : Nat} (F : Fun K "_law_act" "_law_act" sAct f fd) (C__law_draw : CDraw P w K mg base k) (C__law_day : CallOk P w K mg base k "_law_day" pDay spDay) (m_len : mg "len" = none) : FnOk P w K mg base CX0 (k + 1) f fd pAct (spAct K) := by
  refine F.ok scAct (fun vs H Q E h => ?_) (fun cdv A outer s H vs Q E hr h => ?_)
  · obtain ⟨p, ld, la, num, ds, as, rfl, _⟩ := h
    rfl
  · obtain ⟨p, ld, la, num, ds, as, rfl, hP, eld, nld, ela, nla, hne, hdl, hal, hdn, han, q⟩ := h
    have nd := scAct.nd
    refine ⟨_, pss_cons (ps_set (i := 4) nd rfl (.inl rfl) (pe_ix ix_list (pe_lst (pa_cons pe_str (pa_cons pe_str (pa_cons pe_str pa_nil)))) (pe_call C__law_draw.ok hr (by rfl) C__law_draw.g C__law_draw.kp C__law_draw.b .nil pass0 (pa_cons (pv 0) (pa_cons pe_int pa_nil))) (fun _ _ => rfl)))
      (pss_cons (ps_set (i := 5) nd rfl (.inl rfl) (pv 2))
      (pss_cons (ps_if (pt_cmpR op_eq (pv 4) pe_str (nomark _)) (pss_one (ps_set (i := 5) nd rfl (.inl rfl) (pv 3))) pss_nil)
      (pss_cons (ps_if (pt_cmpR (op_eqD hr.units) (pv 5) (pe_lst pa_nil) (nomark _)) (pss_one (ps_par (i := 4) (j := 5) (by rfl) nd rfl rfl (by decide) rfl rfl (pa_cons pe_str (pa_cons (pv 2) pa_nil)) (by rfl))) pss_nil)
      (pss_one (ps_ret (pe_tup (pa_cons (pv 1) (pa_cons (pe_call C__law_day.ok hr (by rfl) C__law_day.g C__law_day.kp C__law_day.b .nil pass0 (pa_cons (pv 0) pa_nil)) (pa_cons (pe_call C__law_day.ok hr (by rfl) C__law_day.g C__law_day.kp C__law_day.b .nil pass0 (pa_cons (pv 0) pa_nil)) (pa_cons (pe_call C__law_draw.ok hr (by rfl) C__law_draw.g C__law_draw.kp C__law_draw.b .nil pass0 (pa_cons (pv 0) (pa_cons pe_int pa_nil))) (pa_cons (pv 4) (pa_cons (pe_ix ix_list (pv 5) (pe_call C__law_draw.ok hr (by rfl) C__law_draw.g C__law_draw.kp C__law_draw.b .nil pass0 (pa_cons (pv 0) (pa_cons (pe_callB call_len_seq (by rfl) m_len (by decide +kernel) (pa_cons (pv 5) pa_nil)) pa_nil))) (fun _ _ => rfl)) pa_nil)))))))))))), ?_⟩
    refine ⟨(by show 3 ≤ sizeLine; decide), fun l1 nl1 => ?_⟩
    refine ⟨_, rfl, p, 3, rfl, hP.new nl1 _, by decide, by decide, fun v0 H1 k1 P1 a0 b0 => ?_⟩
    obtain ⟨_, gx, x, rfl, hx⟩ := pick (xs := [.str "paid", .str "void", .str "undone"]) (fun v => ∃ x : Str, v = .str x ∧ (x = "paid" ∨ x = "void" ∨ x = "undone")) a0 b0 (am1 ⟨_, rfl, .inl rfl⟩ (am1 ⟨_, rfl, .inr (.inl rfl)⟩ (am1 ⟨_, rfl, .inr (.inr rfl)⟩ am0)))
    have k01 : Kp p H H1 := (Kp.new nl1 _).trans k1
    refine ⟨l1, _, _, _, rfl, rfl, SqL.of (k1 _ _ (hP.free nl1) upd_same), gx, ?_⟩
    have eld1 := k01 _ _ nld eld
    have ela1 := k01 _ _ nla ela
    refine ⟨_, rfl, ?_⟩
    refine ⟨_, rfl, rfl, _, rfl, ?_⟩
    refine (Classical.em (x = ("undone" : Str))).elim (fun hu => ?U) (fun hu => ?NU)
    case' U =>
      rw [decide_eq_true (show V.str x = V.str "undone" by rw [hu])]
      refine iteT ?_
      refine ⟨_, rfl, ?_⟩
      refine ⟨_, rfl, Nat.zero_le _, fun l2 nl2 => ?_⟩
      have s2 := same_new nl2 (.lst [])
      have el2 : (upd H1 l2 (.lst [])) l2 = some (.lst (([] : List Int).map V.int)) := upd_same
      generalize upd H1 l2 (.lst []) = H2 at s2 el2
      refine ⟨.list (as.map PyData.int), .list (([] : List Int).map PyData.int), .lst (SqL.of (s2 _ _ ela1)) (dp_ints _), .lst (SqL.of el2) (dp_ints _), shaped_ints _, shaped_ints _, _, rfl, ?_⟩
      rw [eqv_ints]
      refine (Classical.em (as = [])).elim (fun ha => ?A1) (fun ha => ?B1)
      case' A1 =>
        rw [decide_eq_true ha]
        refine iteT ?_
        refine ⟨_, rfl, _, _, rfl, ?A⟩
      case' B1 =>
        rw [decide_eq_false ha]
        refine iteF ?B
    case' NU =>
      rw [decide_eq_false (show ¬ V.str x = V.str "undone" from fun z => hu (by injection z))]
      refine iteF ?_
      refine ⟨_, rfl, Nat.zero_le _, fun l2 nl2 => ?_⟩
      have s2 := same_new nl2 (.lst [])
      have el2 : (upd H1 l2 (.lst [])) l2 = some (.lst (([] : List Int).map V.int)) := upd_same
      generalize upd H1 l2 (.lst []) = H2 at s2 el2
      refine ⟨.list (ds.map PyData.int), .list (([] : List Int).map PyData.int), .lst (SqL.of (s2 _ _ eld1)) (dp_ints _), .lst (SqL.of el2) (dp_ints _), shaped_ints _, shaped_ints _, _, rfl, ?_⟩
      rw [eqv_ints, decide_eq_false hne]
      refine iteF ?C
    case' A1 =>
      obtain ⟨xw, ss, sa, es, nsa, hss, hsl, hcase, exw⟩ : ∃ (xw : Str) (ss : List Int) (sa : Addr), H2 sa = some (.lst (ss.map V.int)) ∧ sa ≠ p ∧ ss ≠ [] ∧ ss.length ≤ 1000 ∧ (∀ o ∈ ss, (((xw = "undone" ∧ o ∈ as) ∨ ((xw = "paid" ∨ xw = "void") ∧ o ∈ ds)) ∧ o < num)) ∧ (xw = "paid" ∧ sa = ld) :=
        ⟨"paid", ds, ld, s2 _ _ eld1, nld, hne, hdl, fun o ho => ⟨.inr ⟨.inl rfl, ho⟩, hdn o ho⟩, rfl, rfl⟩
      obtain ⟨rfl, rfl⟩ := exw
    case' B1 =>
      obtain ⟨xw, ss, sa, es, nsa, hss, hsl, hcase, exw⟩ : ∃ (xw : Str) (ss : List Int) (sa : Addr), H2 sa = some (.lst (ss.map V.int)) ∧ sa ≠ p ∧ ss ≠ [] ∧ ss.length ≤ 1000 ∧ (∀ o ∈ ss, (((xw = "undone" ∧ o ∈ as) ∨ ((xw = "paid" ∨ xw = "void") ∧ o ∈ ds)) ∧ o < num)) ∧ (xw = x ∧ sa = la) :=
        ⟨x, as, la, s2 _ _ ela1, nla, ha, hal, fun o ho => ⟨.inl ⟨hu, ho⟩, han o ho⟩, rfl, rfl⟩
      obtain ⟨rfl, rfl⟩ := exw
    case' NU =>
      obtain ⟨xw, ss, sa, es, nsa, hss, hsl, hcase, exw⟩ : ∃ (xw : Str) (ss : List Int) (sa : Addr), H2 sa = some (.lst (ss.map V.int)) ∧ sa ≠ p ∧ ss ≠ [] ∧ ss.length ≤ 1000 ∧ (∀ o ∈ ss, (((xw = "undone" ∧ o ∈ as) ∨ ((xw = "paid" ∨ xw = "void") ∧ o ∈ ds)) ∧ o < num)) ∧ (xw = x ∧ sa = ld) :=
        ⟨x, ds, ld, s2 _ _ eld1, nld, hne, hdl, fun o ho => ⟨.inr ⟨(by rcases hx with h | h | h; exact .inl h; exact .inr h; exact absurd h hu), ho⟩, hdn o ho⟩, rfl, rfl⟩
      obtain ⟨rfl, rfl⟩ := exw
    all_goals
      have P2 : PenAt H2 p := by
        obtain ⟨x1, x2, x3, x4, z1, z2⟩ := P1
        exact ⟨x1, x2, x3, x4, s2 _ _ z1, z2⟩
      have k02 : Kp p H H2 := k01.trans (Kp.same s2)
      refine ⟨_, rfl, _, rfl, p, rfl, P2, fun v1 H3 k3 P3 a1 b1 => ?_⟩
      refine ⟨_, rfl, p, rfl, P3, fun v2 H4 k4 P4 a2 b2 => ?_⟩
      refine ⟨_, rfl, p, 4, rfl, P4, by decide, by decide, fun v3 H5 k5 P5 a3 b3 => ?_⟩
      have k25 : Kp p H2 H5 := k3.trans (k4.trans k5)
      have es5 := k25 _ _ nsa es
      have hlpos : 0 < ss.length := List.length_pos_iff.mpr hss
      refine ⟨_, rfl, _, rfl, _, rfl, _, rfl, _, _, rfl, .inl (SqL.of es5), p, _, rfl, P5, by rw [List.length_map]; omega, by rw [List.length_map]; omega, fun v4 H6 k6 P6 a4 b4 => ?_⟩
      rw [List.length_map] at b4
      have hk : v4.toNat < ss.length := by omega
      refine ⟨_, _, _, .int ss[v4.toNat], rfl, rfl, SqL.of (k6 _ _ nsa es5), at_of (j := v4.toNat) (by omega) (by rw [List.getElem?_map, List.getElem?_eq_getElem hk]; rfl), (by show 6 ≤ sizeLine; decide), fun t3 nt3 => ?_⟩
      exact q t3 ⟨num, v1, v2, v3, .act _ ss[v4.toNat]⟩ _ (k02.trans (k25.trans (k6.trans (Kp.new nt3 _)))) (P6.new nt3 _) upd_same rfl rfl fun n => ⟨⟨a1, b1⟩, ⟨a2, b2⟩, ⟨a3, by show v3 ≤ 3; omega⟩, hcase _ (List.getElem_mem hk)⟩
end
end Deed

namespace Deed
open PySem PySem.Spec PyProof.Rows L2 LamX
theorem okE_snoc {n : Nat} {es : List En} {e : En} {num : Int} (hok : BkOk n es) (hlt : ∀ x ∈ es, x.num < num) (hnum : e.num = num) (h0 : 0 ≤ num) (h1 : num ≤ 30) (hEn : EnOk n (dn es) (an es) e) : BkOk n (es ++ [e]) := by
  have hd : ∀ x ∈ dn es, x ∈ dn (es ++ [e]) := fun x hx => by rw [dn_snoc]; exact List.mem_append_left _ hx
  have ha : ∀ x ∈ an es, x ∈ an (es ++ [e]) := fun x hx => by rw [an_snoc]; exact List.mem_append_left _ hx
  refine ⟨?_, fun e' he' => ?_, fun e' he' => ?_⟩
  · rw [List.map_append]
    refine List.nodup_append.mpr ⟨hok.nd, List.pairwise_singleton _ _, fun x hx y hy => ?_⟩
    obtain ⟨e', he', rfl⟩ := List.mem_map.mp hx
    have hy' : y = e.num := by simpa using hy
    rw [hy', hnum]
    exact Int.ne_of_lt (hlt e' he')
  · rcases List.mem_append.mp he' with he' | he'
    · exact hok.rng e' he'
    · rw [List.mem_singleton.mp he', hnum]
      omega
  · rcases List.mem_append.mp he' with he' | he'
    · exact (hok.ok e' he').mono hd ha
    · rw [List.mem_singleton.mp he']
      exact hEn.mono hd ha
theorem Kp.none {p q : Addr} {H H' : Hp} (k : Kp p H H') (n : q ≠ p) (h : H' q = none) : H q = none := by
  cases z : H q with
  | none => rfl
  | some o => rw [k _ _ n z] at h; cases h
section
variable {P : Program} {w : World} {K : PySem.W.Frag} {mg : Str → Option Value} {base : Heap}
abbrev sBook : Stmt := topS 30
abbrev nBook : List Str := ["_law_pen_here", "_law_most", "_law_folk_here", "_law_step", "_law_deeds", "_law_acts", "_law_entries", "_law_shift", "_law_k", "_law_number", "_law_age"]
abbrev pBook : List Str := ["_law_pen_here", "_law_most"]
theorem scBook : FnScope nBook pBook (defScope sBook) := ⟨rfl, rfl, rfl, by decide +kernel, rfl, by decide +kernel, by decide +kernel⟩
def spBook : Sp := fun vs H Q _ => ∃ (p : Addr) (most : Int), vs = [.ref p, .int most] ∧ PenAt H p ∧ 0 ≤ most ∧ most ≤ 16 ∧
  ∀ b fk t n age zs H', Kp p H H' → PenAt H' p → BookAt H' b fk t n age zs → (zs.length : Int) ≤ most → Q (.ref b) H'
theorem ok_book {f : Addr} {fd : FuncData} {k : Nat} (F : Fun K "_law_book" "_law_book" sBook f fd) (C__law_draw : CDraw P w K mg base k) (C__law_folk : CallOk P w K mg base k "_law_folk" pFolk spFolk) (C__law_deed : CallOk P w K mg base k "_law_deed" pDeed (spDeed K)) (C__law_act : CallOk P w K mg base k "_law_act" pAct (spAct K)) (C__law_mixed : CallOk P w K mg base k "_law_mixed" ["_law_pen_here", "_law_some"] (spMixed K)) (m_int : mg "int" = none) (m_range : mg "range" = none) (m_tuple : mg "tuple" = none) : FnOk P w K mg base CX0 (k + 1) f fd pBook spBook := by
  refine F.ok scBook (fun vs H Q E h => ?_) (fun cdv A outer s H vs Q E hr h => ?_)
  · obtain ⟨p, m, rfl, _⟩ := h
    rfl
  · obtain ⟨p, most, rfl, hP, hm0, hm1, q⟩ := h
    have nd := scBook.nd
    refine ⟨_, pss_cons (ps_par (i := 2) (j := 3) (by rfl) nd rfl rfl (by decide) rfl rfl (pa_cons (pe_call C__law_folk.ok hr (by rfl) C__law_folk.g C__law_folk.kp C__law_folk.b .nil pass0 (pa_cons (pv 0) (pa_cons pe_int pa_nil))) (pa_cons (pe_op op_add pe_int (pe_call C__law_draw.ok hr (by rfl) C__law_draw.g C__law_draw.kp C__law_draw.b .nil pass0 (pa_cons (pv 0) (pa_cons pe_int pa_nil)))) pa_nil)) (by rfl))
      (pss_cons (ps_par3 (i := 4) (j := 5) (l := 6) (by rfl) nd rfl rfl rfl (by decide) (by decide) (by decide) rfl rfl rfl (pa_cons (pe_lst pa_nil) (pa_cons (pe_lst pa_nil) (pa_cons (pe_lst pa_nil) pa_nil))) (by rfl))
      (pss_cons (ps_set (i := 7) nd rfl (.inl rfl) (pe_op op_mul (pe_call C__law_draw.ok hr (by rfl) C__law_draw.g C__law_draw.kp C__law_draw.b .nil pass0 (pa_cons (pv 0) (pa_cons pe_int pa_nil))) (pe_callTy call_int1 (by rfl) m_int (by decide +kernel) (pa_cons (pe_cmpR op_eq (pv 3) pe_int (nomark _)) pa_nil))))
      (pss_cons (ps_for PassesOwn.never rfl (pi_range1 rfl m_range (pa_cons (pe_call C__law_draw.ok hr (by rfl) C__law_draw.g C__law_draw.kp C__law_draw.b .nil pass0 (pa_cons (pv 0) (pa_cons (pe_op op_add (pv 1) pe_int) pa_nil))) pa_nil)) (pg_name (i := 8) nd rfl (.inl rfl))
        (pss_cons (ps_set (i := 9) nd rfl (.inl rfl) (pe_op op_add (pe_op op_mul (pv 8) (pv 3)) (pv 7)))
      (pss_one (ps_if (PW.pt (pw_or (pt_cmpR (op_eqD hr.units) (pv 4) (pe_lst pa_nil) (nomark _)) (pw_or1 (pt_cmpR op_lt (pe_call C__law_draw.ok hr (by rfl) C__law_draw.g C__law_draw.kp C__law_draw.b .nil pass0 (pa_cons (pv 0) (pa_cons pe_int pa_nil))) pe_int (nomark _))))) (pss_cons (ps_expr (pe_bm PySem.F.plainAttrs_list PySem.F.slot_list_append PySem.F.type_list_append mt_append (pv 6) (pa_cons (pe_call C__law_deed.ok hr (by rfl) C__law_deed.g C__law_deed.kp C__law_deed.b .nil pass0 (pa_cons (pv 0) (pa_cons (pv 9) (pa_cons (pv 2) (pa_cons (pv 4) pa_nil))))) pa_nil)))
      (pss_one (ps_expr (pe_bm PySem.F.plainAttrs_list PySem.F.slot_list_append PySem.F.type_list_append mt_append (pv 4) (pa_cons (pv 9) pa_nil))))) (pss_cons (ps_expr (pe_bm PySem.F.plainAttrs_list PySem.F.slot_list_append PySem.F.type_list_append mt_append (pv 6) (pa_cons (pe_call C__law_act.ok hr (by rfl) C__law_act.g C__law_act.kp C__law_act.b .nil pass0 (pa_cons (pv 0) (pa_cons (pv 9) (pa_cons (pv 4) (pa_cons (pv 5) pa_nil))))) pa_nil)))
      (pss_one (ps_expr (pe_bm PySem.F.plainAttrs_list PySem.F.slot_list_append PySem.F.type_list_append mt_append (pv 5) (pa_cons (pv 9) pa_nil)))))))))
      (pss_cons (ps_set (i := 10) nd rfl (.inl rfl) (pe_ix ix_list (pe_lst (pa_cons pe_int (pa_cons (pe_call C__law_draw.ok hr (by rfl) C__law_draw.g C__law_draw.kp C__law_draw.b .nil pass0 (pa_cons (pv 0) (pa_cons pe_int pa_nil))) (pa_cons (pe_call C__law_draw.ok hr (by rfl) C__law_draw.g C__law_draw.kp C__law_draw.b .nil pass0 (pa_cons (pv 0) (pa_cons pe_int pa_nil))) pa_nil)))) (pe_call C__law_draw.ok hr (by rfl) C__law_draw.g C__law_draw.kp C__law_draw.b .nil pass0 (pa_cons (pv 0) (pa_cons pe_int pa_nil))) (fun _ _ => rfl)))
      (pss_one (ps_ret (pe_tup (pa_cons (pv 2) (pa_cons (pv 10) (pa_cons (pe_callTy call_tuple_of (by rfl) m_tuple (by decide +kernel) (pa_cons (pe_call C__law_mixed.ok hr (by rfl) C__law_mixed.g C__law_mixed.kp C__law_mixed.b .nil pass0 (pa_cons (pv 0) (pa_cons (pv 6) pa_nil))) pa_nil)) pa_nil)))))))))), ?_⟩
    refine ⟨_, rfl, p, 2, rfl, hP, by decide, by decide, fun fk n H1 k1 P1 F1 hn2 hn6 => ?_⟩
    have hn2' : 2 ≤ n := by omega
    refine ⟨_, rfl, p, 2, rfl, P1, by decide, by decide, fun st0 H2 k2 P2 a2 b2 => ⟨_, _, rfl, rfl, _, _, rfl, ?_⟩⟩
    have F2 := F1.kp k2 P1
    have k12 := k1.trans k2
    refine ⟨Nat.zero_le _, fun ld hld => ?_⟩
    have nld : ld ≠ p := P2.free hld
    have hldH : H ld = none := k12.none nld hld
    refine ⟨Nat.zero_le _, fun la hla => ?_⟩
    have Pd := P2.new hld (.lst [])
    have nla : la ≠ p := Pd.free hla
    have nda : ld ≠ la := fun z => by rw [← z, upd_same] at hla; cases hla
    have hlaH : H la = none := (k12.trans (Kp.new hld _)).none nla hla
    refine ⟨Nat.zero_le _, fun lf hlf => ⟨_, _, _, rfl, ?_⟩⟩
    have Pa := Pd.new hla (.lst [])
    have nlf : lf ≠ p := Pa.free hlf
    have naf : la ≠ lf := fun z => by rw [← z, upd_same] at hlf; cases hlf
    have ndf : ld ≠ lf := fun z => by rw [← z, upd_ne nda, upd_same] at hlf; cases hlf
    have hlfH : H lf = none := (k12.trans ((Kp.new hld _).trans (Kp.new hla _))).none nlf hlf
    have k3 : Kp p H2 (upd (upd (upd H2 ld (.lst [])) la (.lst [])) lf (.lst [])) := ((Kp.new hld _).trans (Kp.new hla _)).trans (Kp.new hlf _)
    have P3 := Pa.new hlf (.lst [])
    have e3d : (upd (upd (upd H2 ld (.lst [])) la (.lst [])) lf (.lst [])) ld = some (.lst []) := by rw [upd_ne ndf, upd_ne nda, upd_same]
    have e3a : (upd (upd (upd H2 ld (.lst [])) la (.lst [])) lf (.lst [])) la = some (.lst []) := by rw [upd_ne naf, upd_same]
    have e3f : (upd (upd (upd H2 ld (.lst [])) la (.lst [])) lf (.lst [])) lf = some (.lst []) := upd_same
    generalize (upd (upd (upd H2 ld (.lst [])) la (.lst [])) lf (.lst [])) = H3 at k3 P3 e3d e3a e3f
    -- the shift
    refine ⟨_, rfl, p, 15, rfl, P3, by decide, by decide, fun sh H3' k3' P3' a3 b3 => ?_⟩
    refine ⟨_, rfl, rfl, .inr ⟨_, rfl, ?_⟩⟩
    refine ⟨_, _, rfl, rfl, .inl ⟨by omega, by omega⟩, ?_⟩
    obtain ⟨sf, esf, hsf⟩ : ∃ sf : Int, sh * (if decide (V.int (1 + st0) = V.int 1) = true then 1 else 0) = sf ∧ 0 ≤ sf ∧ ∀ i : Int, 0 ≤ i → i < 16 → i * (1 + st0) + sf ≤ 30 ∧ 0 ≤ i * (1 + st0) + sf := by
      have hst : st0 = 0 ∨ st0 = 1 := by omega
      rcases hst with rfl | rfl
      · exact ⟨sh, by simp, by omega, fun i h1 h2 => by omega⟩
      · exact ⟨0, by simp, by omega, fun i h1 h2 => by omega⟩
    dsimp only
    rw [esf]
    have k03 := k12.trans (k3.trans k3')
    refine ⟨_, rfl, _, rfl, _, _, rfl, rfl, p, most + 1, rfl, P3', by omega, by omega, fun many H4 k4 P4 a4 b4 => ?_⟩
    refine ⟨_, rfl, by omega, by omega, ?_⟩
    have k34 := k3'.trans k4
    refine for_range (lo := 0) (n := many.toNat) (fun i σ H' => ∃ y8 y9 y10, ∃ (zs : List (Addr × En)), σ = [some (.ref p), some (.int most), some (.ref fk), some (.int (1 + st0)), some (.ref ld), some (.ref la), some (.ref lf), some (.int sf), y8, y9, y10] ∧ Kp p H H' ∧ PenAt H' p ∧ FolkAt H' fk n ∧
        H' ld = some (.lst ((dn (ens zs)).map V.int)) ∧ H' la = some (.lst ((an (ens zs)).map V.int)) ∧ H' lf = some (.lst (refs zs)) ∧ (∀ z ∈ zs, EntAt H' z.1 z.2) ∧ zs.length = i ∧ BkOk n (ens zs) ∧ (∀ e ∈ ens zs, e.num < (i : Int) * (1 + st0) + sf))
      ⟨none, none, none, [], rfl, k03.trans k4, P4, ((F2.kp k3 P2).kp k3' P3).kp k4 P3', k34 _ _ nld e3d, k34 _ _ nla e3a, k34 _ _ nlf e3f, (fun _ h => nomatch h), rfl, ⟨List.nodup_nil, (fun _ h => nomatch h), (fun _ h => nomatch h)⟩, (fun _ h => nomatch h)⟩ ?_ ?_
    · rintro i σ H' hi ⟨y8, y9, y10, zs, rfl, k', P', F', ed, ea, ef, hent, hlen, hok, hlt⟩
      have hel : (ens zs).length = i := by rw [List.length_map, hlen]
      have hdl := dn_len (ens zs)
      have hal := an_len (ens zs)
      obtain ⟨hn1, hn0⟩ := hsf.2 (i : Int) (by omega) (by omega)
      have hst : 0 ≤ st0 ∧ st0 ≤ 1 := ⟨a2, by omega⟩
      refine ⟨_, rfl, _, rfl, _, _, rfl, rfl, .inl ⟨by omega, by omega⟩, _, rfl, _, _, rfl, rfl, ?_⟩
      dsimp only
      rw [show (0 + (i : Int)) * (1 + st0) + sf = (i : Int) * (1 + st0) + sf by rw [Int.zero_add]]
      have hnext : (i : Int) * (1 + st0) + sf < ((i : Nat) + 1 : Int) * (1 + st0) + sf := by
        rw [Int.add_mul]
        omega
      generalize hnm : (i : Int) * (1 + st0) + sf = num at hn1 hn0 hlt hnext
      have hdn : ∀ d ∈ dn (ens zs), d < num := fun d hd => by
        obtain ⟨e, he, rfl⟩ := List.mem_map.mp (dn_sub _ _ hd)
        exact hlt e he
      have han : ∀ d ∈ an (ens zs), d < num := fun d hd => by
        obtain ⟨e, he, rfl⟩ := List.mem_map.mp (an_sub _ _ hd)
        exact hlt e he
      refine ⟨_, rfl, Nat.zero_le _, fun l5 nl5 => ?_⟩
      have s5 := same_new nl5 (.lst [])
      have el5 : (upd H' l5 (.lst [])) l5 = some (.lst (([] : List Int).map V.int)) := upd_same
      generalize upd H' l5 (.lst []) = H5 at s5 el5
      have P5 : PenAt H5 p := by
        obtain ⟨x1, x2, x3, x4, z1, z2⟩ := P'
        exact ⟨x1, x2, x3, x4, s5 _ _ z1, z2⟩
      have k5 : Kp p H' H5 := Kp.same s5
      refine ⟨.list ((dn (ens zs)).map PyData.int), .list (([] : List Int).map PyData.int), .lst (SqL.of (s5 _ _ ed)) (dp_ints _), .lst (SqL.of el5) (dp_ints _), shaped_ints _, shaped_ints _, _, rfl, ?_⟩
      rw [eqv_ints]
      -- behind an entry at a, of a deed or an act, at the heap H6
      have fin : ∀ (a : Addr) (e : En) (H6 : Hp), Kp p H' H6 → PenAt H6 p → EntAt H6 a e → e.num = num → EnOk n (dn (ens zs)) (an (ens zs)) e →
          (H6 lf = some (.lst (refs zs)) ∧ ∀ (lx : Addr) (o : List V), (lx = ld ∨ lx = la) → (e.isDeed = true → lx = ld ∧ o = (dn (ens zs)).map V.int ++ [.int num]) → (e.isDeed = false → lx = la ∧ o = (an (ens zs)).map V.int ++ [.int num]) →
            (upd H6 lf (.lst (refs zs ++ [.ref a]))) lx = some (.lst (if e.isDeed then (dn (ens zs)).map V.int else (an (ens zs)).map V.int)) ∧
            ∃ (zs' : List (Addr × En)), Kp p H (upd (upd H6 lf (.lst (refs zs ++ [.ref a]))) lx (.lst o)) ∧ PenAt (upd (upd H6 lf (.lst (refs zs ++ [.ref a]))) lx (.lst o)) p ∧ FolkAt (upd (upd H6 lf (.lst (refs zs ++ [.ref a]))) lx (.lst o)) fk n ∧
        (upd (upd H6 lf (.lst (refs zs ++ [.ref a]))) lx (.lst o)) ld = some (.lst ((dn (ens zs')).map V.int)) ∧ (upd (upd H6 lf (.lst (refs zs ++ [.ref a]))) lx (.lst o)) la = some (.lst ((an (ens zs')).map V.int)) ∧ (upd (upd H6 lf (.lst (refs zs ++ [.ref a]))) lx (.lst o)) lf = some (.lst (refs zs')) ∧ (∀ z ∈ zs', EntAt (upd (upd H6 lf (.lst (refs zs ++ [.ref a]))) lx (.lst o)) z.1 z.2) ∧ zs'.length = i + 1 ∧ BkOk n (ens zs') ∧ (∀ e ∈ ens zs', e.num < ((i : Nat) + 1 : Int) * (1 + st0) + sf)) := by
        intro a e H6 k6 P6 E6 hnum hEn
        have kT6 := k6.tup P'
        have ed6 := k6 _ _ nld ed
        have ea6 := k6 _ _ nla ea
        have ef6 := k6 _ _ nlf ef
        refine ⟨ef6, fun lx o hlx hD hA => ?_⟩
        have nlxf : lx ≠ lf := by rcases hlx with h | h <;> rw [h] <;> assumption
        have nlxp : lx ≠ p := by rcases hlx with h | h <;> rw [h] <;> assumption
        have hlxH : H lx = none := by rcases hlx with h | h <;> rw [h] <;> assumption
        have kT7 := KpT.lst ef6 (.lst (refs zs ++ [.ref a]))
        have P7 := P6.put nlf (.lst (refs zs ++ [.ref a]))
        have k7 := (k'.trans k6).over hlfH (.lst (refs zs ++ [.ref a]))
        have ed7 := (show (upd H6 lf (.lst (refs zs ++ [.ref a]))) ld = H6 ld from upd_ne ndf).trans ed6
        have ea7 := (show (upd H6 lf (.lst (refs zs ++ [.ref a]))) la = H6 la from upd_ne naf).trans ea6
        have ef7 := (show (upd H6 lf (.lst (refs zs ++ [.ref a]))) lf = some (.lst (refs zs ++ [.ref a])) from upd_same)
        have E7 := E6.kp kT7
        have F7 := (F'.kpT kT6).kpT kT7
        have hent7 : ∀ z ∈ zs, EntAt (upd H6 lf (.lst (refs zs ++ [.ref a]))) z.1 z.2 := fun z hz => ((hent z hz).kp kT6).kp kT7
        generalize (upd H6 lf (.lst (refs zs ++ [.ref a]))) = H7 at kT7 P7 k7 ed7 ea7 ef7 E7 F7 hent7
        have elx : H7 lx = some (.lst (if e.isDeed then (dn (ens zs)).map V.int else (an (ens zs)).map V.int)) := by
          cases hd : e.isDeed with
          | true => rw [(hD hd).1, ed7]; rfl
          | false => rw [(hA hd).1, ea7]; rfl
        refine ⟨elx, zs ++ [(a, e)], k7.over hlxH _, P7.put nlxp _, F7.kpT (KpT.lst elx _), ?_, ?_, ?_, fun z hz => ?_, ?_, ?_, fun e' he' => ?_⟩
        · rw [show ens (zs ++ [(a, e)]) = ens zs ++ [e] by simp [ens], dn_snoc]
          cases hd : e.isDeed with
          | true =>
            obtain ⟨h1, h2⟩ := hD hd
            rw [h1, h2, upd_same, if_pos rfl, List.map_append, hnum]
            rfl
          | false =>
            obtain ⟨h1, h2⟩ := hA hd
            rw [h1, upd_ne nda, if_neg (by decide), List.append_nil]
            exact ed7
        · rw [show ens (zs ++ [(a, e)]) = ens zs ++ [e] by simp [ens], an_snoc]
          cases hd : e.isDeed with
          | true =>
            obtain ⟨h1, h2⟩ := hD hd
            rw [h1, upd_ne nda.symm, if_pos rfl, List.append_nil]
            exact ea7
          | false =>
            obtain ⟨h1, h2⟩ := hA hd
            rw [h1, h2, upd_same, if_neg (by decide), List.map_append, hnum]
            rfl
        · rw [upd_ne nlxf.symm, ef7]
          simp [refs]
        · rcases List.mem_append.mp hz with hz | hz
          · exact (hent7 z hz).kp (KpT.lst elx _)
          · rw [List.mem_singleton.mp hz]
            exact E7.kp (KpT.lst elx _)
        · rw [List.length_append, hlen]
          rfl
        · rw [show ens (zs ++ [(a, e)]) = ens zs ++ [e] by simp [ens]]
          exact okE_snoc hok hlt hnum hn0 hn1 hEn
        · rw [show ens (zs ++ [(a, e)]) = ens zs ++ [e] by simp [ens]] at he'
          rcases List.mem_append.mp he' with he' | he'
          · have := hlt e' he'
            omega
          · rw [List.mem_singleton.mp he', hnum]
            exact hnext
      refine (Classical.em (dn (ens zs) = [])).elim (fun hd0 => ?D1) (fun hd0 => ?D2)
      case' D1 =>
        rw [decide_eq_true hd0]
        refine iteT ?_
        refine iteT ?_
        obtain ⟨H5b, k5b, P5b⟩ : ∃ H5b, Kp p H' H5b ∧ PenAt H5b p ∧ H5b = H5 := ⟨H5, k5, P5, rfl⟩
        obtain ⟨P5b, rfl⟩ := P5b
      case' D2 =>
        rw [decide_eq_false hd0]
        refine iteF ?_
        refine ⟨_, rfl, p, 5, rfl, P5, by decide, by decide, fun v5 H5b k5b0 P5b a5 b5 => ⟨_, _, rfl, rfl, _, rfl, ?_⟩⟩
        have k5b : Kp p H' H5b := k5.trans k5b0
        refine (Classical.em (v5 < 2)).elim (fun h52 => ?D3) (fun h52 => ?D4)
        case' D3 =>
          rw [decide_eq_true h52]
          refine iteT ?_
        case' D4 =>
          rw [decide_eq_false h52]
          refine iteF ?_
      case D4 =>
        have ef5 := k5b _ _ nlf ef
        refine ⟨_, rfl, .inl ⟨rfl, _, SqL.of ef5⟩, _, rfl, _, rfl, _, rfl, _, rfl, p, ld, la, num, dn (ens zs), an (ens zs), rfl, P5b, k5b _ _ nld ed, nld, k5b _ _ nla ea, nla, hd0, by omega, by omega, hdn, han, fun a e H6 k6 P6 E6 hnum hnd hEn => ?_⟩
        obtain ⟨f1, f2⟩ := fin a e H6 (k5b.trans k6) P6 E6 hnum (hEn n)
        refine ⟨lf, _, _, rfl, rfl, f1, small1000 (by rw [List.length_map]; omega), ?_⟩
        obtain ⟨f3, zs', f4⟩ := f2 la ((an (ens zs)).map V.int ++ [.int num]) (.inr rfl) (fun z => by rw [hnd] at z; cases z) (fun _ => ⟨rfl, rfl⟩)
        rw [hnd] at f3
        refine ⟨_, rfl, .inl ⟨rfl, _, SqL.of f3⟩, _, rfl, la, _, _, rfl, rfl, f3, small1000 (by show ((an (ens zs)).map V.int).length ≤ 1000; rw [List.length_map]; omega), ?_⟩
        exact ⟨_, _, _, zs', rfl, f4⟩
      all_goals
        have ef5 := k5b _ _ nlf ef
        refine ⟨_, rfl, .inl ⟨rfl, _, SqL.of ef5⟩, _, rfl, _, rfl, _, rfl, _, rfl, p, fk, ld, num, n, dn (ens zs), rfl, P5b, F'.kpT (k5b.tup P'), hn2', hn6, k5b _ _ nld ed, nld, dn_nodup hok.nd, by omega, hdn, fun a e H6 k6 P6 E6 hnum hnd hEn => ?_⟩
        obtain ⟨f1, f2⟩ := fin a e H6 (k5b.trans k6) P6 E6 hnum (hEn _)
        refine ⟨lf, _, _, rfl, rfl, f1, small1000 (by rw [List.length_map]; omega), ?_⟩
        obtain ⟨f3, zs', f4⟩ := f2 ld ((dn (ens zs)).map V.int ++ [.int num]) (.inl rfl) (fun _ => ⟨rfl, rfl⟩) (fun z => by rw [hnd] at z; cases z)
        rw [hnd] at f3
        refine ⟨_, rfl, .inl ⟨rfl, _, SqL.of f3⟩, _, rfl, ld, _, _, rfl, rfl, f3, small1000 (by show ((dn (ens zs)).map V.int).length ≤ 1000; rw [List.length_map]; omega), ?_⟩
        exact ⟨_, _, _, zs', rfl, f4⟩
    · rintro σ H' ⟨y8, y9, y10, zs, rfl, k', P', F', ed, ea, ef, hent, hlen, hok, hlt⟩
      refine ⟨_, rfl, p, 30, rfl, P', by decide, by decide, fun v1 H5 k5 P5 a5 b5 => ?_⟩
      refine ⟨_, rfl, p, 10000, rfl, P5, by decide, by decide, fun v2 H6 k6 P6 a6 b6 => ?_⟩
      refine ⟨(by show 3 ≤ sizeLine; decide), fun l6 nl6 => ?_⟩
      refine ⟨_, rfl, p, 3, rfl, P6.new nl6 _, by decide, by decide, fun v3 H7 k7 P7 a7 b7 => ?_⟩
      obtain ⟨_, g8, age, rfl, a8, b8⟩ := pick (xs := [.int 0, .int v1, .int v2]) (Within 0 9999) a7 b7 (am1 ⟨_, rfl, by omega, by omega⟩ (am1 ⟨_, rfl, by omega, by omega⟩ (am1 ⟨_, rfl, by omega, by omega⟩ am0)))
      refine ⟨l6, _, _, _, rfl, rfl, SqL.of (k7 _ _ (P6.free nl6) upd_same), g8, ?_⟩
      have k57 : Kp p H' H7 := k5.trans (k6.trans ((Kp.new nl6 _).trans k7))
      have hl16 : zs.length ≤ 16 := by omega
      refine ⟨_, rfl, _, rfl, _, rfl, _, rfl, p, lf, _, rfl, P7, .inl (SqL.of (k57 _ _ nlf ef)), by rw [List.length_map]; omega, fun lm ys H8 k8 P8 nlm elm pm => ?_⟩
      obtain ⟨zs', rfl, pm2⟩ := perm_pairs (fun z : Addr × En => V.ref z.1) pm zs rfl
      refine ⟨lm, _, rfl, .inl ⟨SqL.of elm, fun t7 nt7 => ?_⟩⟩
      have k9 : Kp p H8 _ := Kp.new nt7 (.tup (refs zs'))
      have P9 := P8.new nt7 (.tup (refs zs'))
      have e9 : (upd H8 t7 (.tup (refs zs'))) t7 = some (.tup (refs zs')) := upd_same
      refine ⟨(by show 3 ≤ sizeLine; decide), fun t8 nt8 => ?_⟩
      have k10 : Kp p _ _ := Kp.new nt8 (.tup [.ref fk, .int age, .ref t7])
      have kA := (k57.trans (k8.trans (k9.trans k10)))
      have kAT := kA.tup P'
      refine q t8 fk t7 n age zs' _ (k'.trans kA) (P9.new nt8 _) ⟨upd_same, F'.kpT kAT, hn2', hn6, a8, b8, k10.tup P9 _ _ e9, fun z hz => (hent z (pm2.mem_iff.mp hz)).kp kAT, hok.perm (pm2.map _), by rw [pm2.length_eq]; exact hl16⟩ ?_
      rw [pm2.length_eq, hlen]
      omega
end
end Deed

namespace Deed
open PySem PySem.Spec PyProof.Rows L2 LamX
section
variable {P : Program} {w : World} {K : PySem.W.Frag} {mg : Str → Option Value} {base : Heap} {fRi fDe : Addr} {dRi dDe : FuncData} {T : List (Addr × Str)}
abbrev sDeedE : Stmt := topS 10
theorem scDeedE : FnScope ["book", "entry"] ["book"] (defScope sDeedE) := ⟨rfl, rfl, rfl, by decide +kernel, rfl, by decide +kernel, by decide +kernel⟩
theorem ok_deedE {f : Addr} {fd : FuncData} {k : Nat} (F : Fun K "deed_entries" "deed_entries" sDeedE f fd) (R : RisD K mg base T fRi dRi) (mW : MgInt mg "WORD" 4) : FnOk P w K mg base CX0 (k + 3) f fd ["book"] (spPick (·.isDeed) T) := by
  have GR : FnOk P w K mg base CX0 (k + 2) fRi dRi ["book"] (spRising T) := R.ok
  refine F.ok scDeedE (fun vs H Q E h => ?_) (fun cdv A outer s H vs Q E hr h => ?_)
  · obtain ⟨b, fk, t, n, age, zs, rfl, _⟩ := h
    rfl
  · obtain ⟨b, fk, t, n, age, zs, rfl, hB, hT, q⟩ := h
    refine ⟨_, pss_one (ps_ret (pe_lc (own := [("entry", 1)]) (g := gName 1) (by rfl) scDeedE.nd (pi_list (pe_call GR hr (by rfl) R.D.g R.D.F.kp R.D.b .nil pass0 (pa_cons (pv 0) pa_nil))) (blkOk_by (own := [("entry", 1)]) (N := ["book", "entry"]) (sc := defScope sDeedE) (by decide +kernel)) (fun _ _ _ _ _ => pg_name (i := 1) scDeedE.nd rfl (Or.inl rfl))
      (fun _ _ _ _ _ => pts_one (pt_cmpR op_eq (show PE _ _ (tOp (rIxT K) (tVar 1) (tC (.int 4))) from pe_ix ix_tup (pv 1) (pe_num (by rfl) mW) (fun _ _ => rfl)) pe_str (nomark _))) (fun _ _ _ _ _ => pv 1))), ?_⟩
    refine ⟨_, rfl, b, fk, t, n, age, zs, rfl, hB, hT, fun p zs' H1 eN T1 fr ep pm so => ?_⟩
    have hent : ∀ z ∈ zs', EntAt H1 z.1 z.2 := fun z hz => (hB.ent z (pm.mem_iff.mp hz)).kp (ExtN.tup eN)
    refine ⟨p, rfl, ⟨_, SqL.of ep⟩, fun D nD => ?_⟩
    have npD : p ≠ D := ne_of_none ep nD
    refine lc_list (K := K) (a := p) (xs := refs zs') (fun i H' => H' D = some (.lst (refs ((zs'.take i).filter fun z => z.2.isDeed))) ∧ Same H1 H') ⟨upd_same, fun b o e => by rw [upd_ne (ne_of_none e nD)]; exact e⟩ (fun i H' _ h => SqL.of (h.2 _ _ ep)) ?_ ?_
    · rintro i x H' hx ⟨eD, sm⟩
      obtain ⟨z, hz, rfl⟩ := ref_at hx
      have hzm : z ∈ zs' := List.mem_of_getElem? hz
      obtain ⟨xs, ex, _, _, _, _, g4⟩ := ((hent z hzm).kp (Same.tup sm)).tup
      refine ⟨rfl, _, rfl, z.1, xs, 4, _, rfl, rfl, SqT.of ex, g4, rfl, _, rfl, ?_⟩
      have wd := (hB.ok.ok z.2 (List.mem_map.mpr ⟨z, pm.mem_iff.mp hzm, rfl⟩)).word
      have et := take_more hz
      refine ite2 (fun c => ?_) (fun c => ?_)
      · have hd : z.2.isDeed = true := wd.mp (by
          have := of_decide_eq_true c
          injection this)
        refine ⟨_, rfl, _, eD, small1000 ?_, ?_, fun b o e => ?_⟩
        · have h1 := List.length_filter_le (fun z : Addr × En => z.2.isDeed) (zs'.take i)
          have h2 := pm.length_eq
          have h3 := hB.len
          rw [List.length_map]
          rw [List.length_take] at h1
          omega
        · rw [upd_same, et, List.filter_append]
          simp [hd, refs]
        · have nb : b ≠ D := ne_of_none e nD
          rw [upd_ne nb]
          exact sm _ _ e
      · have hd : z.2.isDeed = false := by
          cases hh : z.2.isDeed with
          | false => rfl
          | true =>
            refine absurd (decide_eq_true ?_) c
            rw [wd.mpr hh]
        refine ⟨?_, sm⟩
        rw [eD, et, List.filter_append]
        simp [hd]
    · rintro H' ⟨eD, sm⟩
      have el : zs'.take (refs zs').length = zs' := List.take_of_length_le (by rw [List.length_map]; exact Nat.le_refl _)
      rw [el] at eD
      exact q D zs' H' (eN.trans (.of sm)) (T1.ext sm) (Fresh.of eN nD) eD pm so
end
end Deed

namespace Deed
open PySem PySem.Spec PyProof.Rows L2 LamX
theorem Tabs.kp {T : List (Addr × Str)} {H H' : Hp} {p : Addr} (t : Tabs T H) (k : Kp p H H') (P : PenAt H p) : Tabs T H' := fun q hq => by
  obtain ⟨ps, h1, h2, h3⟩ := t q hq
  refine ⟨ps, k _ _ (P.ne h1 fun _ z => by cases z) h1, h2, fun pos cv hc => ?_⟩
  obtain ⟨c, e1, e2⟩ := h3 pos cv hc
  exact ⟨c, e1, k _ _ (P.ne e2 fun _ z => by unfold CodeO at z; cases z) e2⟩
theorem ExtN.sqL {K : PySem.W.Frag} {H H' : Hp} {a : Addr} {xs : List V} (e : ExtN H H') (h : SqL K H a xs) : SqL K H' a xs := by
  rcases h with (z | ⟨o, z⟩) | z
  · exact .inl (.inl (e _ _ z fun ps z' => by cases z'))
  · exact .inl (.inr ⟨o, e _ _ z fun ps z' => by cases z'⟩)
  · exact .inr z
theorem ExtN.pen {H H' : Hp} {p : Addr} (e : ExtN H H') (h : PenAt H p) : PenAt H' p := by
  obtain ⟨x1, x2, x3, x4, z1, z2⟩ := h
  exact ⟨x1, x2, x3, x4, e _ _ z1 fun ps z => (by cases z), z2⟩
/-- with a pen that is new -/
theorem ExtN.kp {H H1 H2 : Hp} {p : Addr} (e : ExtN H H1) (n : H p = none) (k : Kp p H1 H2) : ExtN H H2 := fun b o z h => k b o (ne_of_none z n) (e b o z h)
theorem ExtN.put {H H' : Hp} {p : Addr} (e : ExtN H H') (f : Fresh H p) (o : HO) : ExtN H (upd H' p o) := fun b u z h => by
  rw [upd_ne (f.ne z h)]
  exact e b u z h
theorem rising_one : ∀ {l m : List Int}, l.Pairwise (· < ·) → m.Pairwise (· < ·) → (∀ x, x ∈ l ↔ x ∈ m) → l = m
  | [], [], _, _, _ => rfl
  | [], y :: m, _, _, h => absurd ((h y).mpr List.mem_cons_self) (by simp)
  | x :: l, [], _, _, h => absurd ((h x).mp List.mem_cons_self) (by simp)
  | x :: l, y :: m, h1, h2, h => by
    have a1 := List.pairwise_cons.mp h1
    have a2 := List.pairwise_cons.mp h2
    have exy : x = y := by
      have m1 := (h x).mp List.mem_cons_self
      have m2 := (h y).mpr List.mem_cons_self
      rcases List.mem_cons.mp m1 with e | e
      · exact e
      · rcases List.mem_cons.mp m2 with e' | e'
        · exact e'.symm
        · have := a1.1 y e'
          have := a2.1 x e
          omega
    subst exy
    congr 1
    refine rising_one a1.2 a2.2 fun z => ?_
    constructor
    · intro hz
      rcases List.mem_cons.mp ((h z).mp (List.mem_cons_of_mem _ hz)) with e | e
      · have := a1.1 z hz
        omega
      · exact e
    · intro hz
      rcases List.mem_cons.mp ((h z).mpr (List.mem_cons_of_mem _ hz)) with e | e
      · have := a2.1 z hz
        omega
      · exact e
/-- the picked numbers of an arrangement by numbers -/
def picked (φ : En → Bool) (zs : List (Addr × En)) : List Int := (zs.filter fun z => φ z.2).map fun z => z.2.num
theorem picked_up {φ : En → Bool} {zs : List (Addr × En)} (h : zs.Pairwise (fun a b => a.2.num < b.2.num)) : (picked φ zs).Pairwise (· < ·) := by
  unfold picked
  exact List.pairwise_map.mpr (h.filter _)
theorem mem_picked {φ : En → Bool} {zs : List (Addr × En)} {x : Int} : x ∈ picked φ zs ↔ ∃ z ∈ zs, φ z.2 = true ∧ z.2.num = x := by
  unfold picked
  simp only [List.mem_map, List.mem_filter]
  constructor
  · rintro ⟨z, ⟨h1, h2⟩, h3⟩
    exact ⟨z, h1, h2, h3⟩
  · rintro ⟨z, h1, h2, h3⟩
    exact ⟨z, ⟨h1, h2⟩, h3⟩
theorem picked_len (φ : En → Bool) (zs : List (Addr × En)) : (picked φ zs).length ≤ zs.length := by
  unfold picked
  rw [List.length_map]
  exact List.length_filter_le _ _
/-- two arrangements of the same entries -/
theorem picked_one {φ : En → Bool} {zs zs' : List (Addr × En)} (h : zs.Pairwise (fun a b => a.2.num < b.2.num)) (h' : zs'.Pairwise (fun a b => a.2.num < b.2.num)) (e : ∀ x, x ∈ ens zs ↔ x ∈ ens zs') : picked φ zs = picked φ zs' := by
  refine rising_one (picked_up h) (picked_up h') fun x => ?_
  rw [mem_picked, mem_picked]
  constructor
  · rintro ⟨z, h1, h2, h3⟩
    obtain ⟨z', h4, h5⟩ := List.mem_map.mp ((e z.2).mp (List.mem_map.mpr ⟨z, h1, rfl⟩))
    exact ⟨z', h4, by rw [h5]; exact h2, by rw [h5]; exact h3⟩
  · rintro ⟨z, h1, h2, h3⟩
    obtain ⟨z', h4, h5⟩ := List.mem_map.mp ((e z.2).mpr (List.mem_map.mpr ⟨z, h1, rfl⟩))
    exact ⟨z', h4, by rw [h5]; exact h2, by rw [h5]; exact h3⟩
theorem ens_perm {zs zs' : List (Addr × En)} (h : zs'.Perm zs) : ∀ x, x ∈ ens zs' ↔ x ∈ ens zs := fun x => (h.map _).mem_iff
end Deed

namespace Deed
open PySem PySem.Spec PyProof.Rows L2 LamX
/-! ### acts in force: the mathematics -/
def En.of (e : En) : Int := match e.kd with
  | .deed _ _ _ _ => -1
  | .act _ o => o
def isOpen (d k : Int) (e : En) : Bool := decide (e.day ≤ d) && decide (e.wri ≤ k)
/-- an entry of the word x that is of the number n -/
def isOn (x : Str) (n : Int) (e : En) : Bool := decide (e.word = x) && decide (e.of = n)
def frcF (es : List En) (d k : Int) : Nat → En → Bool
  | 0, _ => false
  | f + 1, e => isOpen d k e && es.all fun u => !(isOn "undone" e.num u && frcF es d k f u)
def frc (es : List En) (d k : Int) (e : En) : Bool := frcF es d k (31 - e.num).toNat e
theorem EnOk.of_lt {n : Nat} {ds as : List Int} {e : En} (h : EnOk n ds as e) (hd : e.isDeed = false) : e.of < e.num ∧ ((e.word = "undone" ∧ e.of ∈ as) ∨ ((e.word = "paid" ∨ e.word = "void") ∧ e.of ∈ ds)) := by
  unfold En.isDeed at hd
  unfold En.of En.word
  cases hk : e.kd with
  | deed g t rs ws =>
    rw [hk] at hd
    cases hd
  | act x o =>
    have h4 := h.2.2.2
    rw [hk] at h4
    exact ⟨h4.2, h4.1⟩
theorem isOn_act {n : Nat} {ds as : List Int} {e : En} {x : Str} {m : Int} (h : EnOk n ds as e) (hx : x ≠ "deed") (ho : isOn x m e = true) : e.isDeed = false ∧ e.word = x ∧ e.of = m := by
  unfold isOn at ho
  rw [Bool.and_eq_true] at ho
  have h1 := of_decide_eq_true ho.1
  have h2 := of_decide_eq_true ho.2
  refine ⟨?_, h1, h2⟩
  cases hd : e.isDeed with
  | false => rfl
  | true => exact absurd ((h.word.mpr hd).symm.trans h1) (fun z => hx z.symm)
theorem frcF_one {n : Nat} {es : List En} (hB : BkOk n es) (d k : Int) : ∀ (f g : Nat) (e : En), e ∈ es → (31 - e.num).toNat ≤ f → (31 - e.num).toNat ≤ g → frcF es d k f e = frcF es d k g e := by
  intro f
  induction f with
  | zero =>
    intro g e he hf _
    have := hB.rng e he
    omega
  | succ f ih =>
    intro g e he hf hg
    have re := hB.rng e he
    cases g with
    | zero => omega
    | succ g =>
      show (isOpen d k e && es.all fun u => !(isOn "undone" e.num u && frcF es d k f u)) = (isOpen d k e && es.all fun u => !(isOn "undone" e.num u && frcF es d k g u))
      congr 1
      have key : ∀ u ∈ es, (isOn "undone" e.num u && frcF es d k f u) = (isOn "undone" e.num u && frcF es d k g u) := fun u hu => by
        cases ho : isOn "undone" e.num u with
        | false => rfl
        | true =>
          obtain ⟨h1, h2, h3⟩ := isOn_act (hB.ok u hu) (by decide) ho
          have lt := ((hB.ok u hu).of_lt h1).1
          rw [ih g u hu (by omega) (by omega)]
      rw [Bool.eq_iff_iff, List.all_eq_true, List.all_eq_true]
      constructor
      · intro h u hu
        rw [← key u hu]
        exact h u hu
      · intro h u hu
        rw [key u hu]
        exact h u hu
theorem frcF_eq {n : Nat} {es : List En} (hB : BkOk n es) (d k : Int) {f : Nat} {e : En} (he : e ∈ es) (hf : (31 - e.num).toNat ≤ f) : frcF es d k f e = frc es d k e := frcF_one hB d k _ _ e he hf (Nat.le_refl _)
/-- in force: open, and no undone of it in force -/
theorem frc_eq {n : Nat} {es : List En} (hB : BkOk n es) (d k : Int) {e : En} (he : e ∈ es) : frc es d k e = (isOpen d k e && es.all fun u => !(isOn "undone" e.num u && frc es d k u)) := by
  have re := hB.rng e he
  rw [← frcF_eq hB d k (f := 31) he (by omega)]
  show (isOpen d k e && es.all fun u => !(isOn "undone" e.num u && frcF es d k 30 u)) = _
  congr 1
  have key : ∀ u ∈ es, (isOn "undone" e.num u && frcF es d k 30 u) = (isOn "undone" e.num u && frc es d k u) := fun u hu => by
    cases ho : isOn "undone" e.num u with
    | false => rfl
    | true =>
      obtain ⟨h1, h2, h3⟩ := isOn_act (hB.ok u hu) (by decide) ho
      have lt := ((hB.ok u hu).of_lt h1).1
      rw [frcF_eq hB d k hu (by omega)]
  rw [Bool.eq_iff_iff, List.all_eq_true, List.all_eq_true]
  constructor
  · intro h u hu
    rw [← key u hu]
    exact h u hu
  · intro h u hu
    rw [key u hu]
    exact h u hu
theorem frc_open {n : Nat} {es : List En} (hB : BkOk n es) {d k : Int} {e : En} (he : e ∈ es) (h : frc es d k e = true) : isOpen d k e = true := by
  rw [frc_eq hB d k he, Bool.and_eq_true] at h
  exact h.1
theorem num_inj {n : Nat} {es : List En} (hB : BkOk n es) {e e' : En} (he : e ∈ es) (he' : e' ∈ es) (h : e.num = e'.num) : e = e' := by
  obtain ⟨i1, hi1, ei1⟩ := List.mem_iff_getElem.mp he
  obtain ⟨i2, hi2, ei2⟩ := List.mem_iff_getElem.mp he'
  have h1 : (es.map (·.num))[i1]? = some e.num := by rw [List.getElem?_map, List.getElem?_eq_getElem hi1, ei1]; rfl
  have h2 : (es.map (·.num))[i2]? = some e.num := by rw [List.getElem?_map, List.getElem?_eq_getElem hi2, ei2, h]; rfl
  have h3 := nd_ix hB.nd h1 h2
  subst h3
  rw [← ei1, ← ei2]
end Deed

namespace Deed
open PySem PySem.Spec PyProof.Rows L2 LamX
/-! ### the law's own book of entries -/
abbrev dks (zs : List (Addr × En)) : List (Key × V) := zs.map fun z => (Sum.inl z.2.num, V.ref z.1)
structure EdAt (H : Hp) (ed : Addr) (n : Nat) (zs : List (Addr × En)) : Prop where
  at_ : H ed = some (.dK (dks zs))
  ent : ∀ z ∈ zs, EntAt H z.1 z.2
  ok : BkOk n (ens zs)
  len : zs.length ≤ 16
theorem EdAt.same {H H' : Hp} {ed : Addr} {n : Nat} {zs : List (Addr × En)} (h : EdAt H ed n zs) (s : Same H H') : EdAt H' ed n zs := ⟨s _ _ h.at_, fun z hz => (h.ent z hz).kp (Same.tup s), h.ok, h.len⟩
theorem valV_dks {zs : List (Addr × En)} (nd : ((ens zs).map (·.num)).Nodup) {z : Addr × En} (hz : z ∈ zs) : valV (dks zs) (.inl z.2.num) = some (.ref z.1) := by
  induction zs with
  | nil => cases hz
  | cons y r ih =>
    have nd' : (y.2.num :: (ens r).map (·.num)).Nodup := nd
    have h2 := List.nodup_cons.mp nd'
    show Option.map (·.2) (List.find? (fun kv => decide (kv.1 = (Sum.inl z.2.num : Key))) ((Sum.inl y.2.num, V.ref y.1) :: dks r)) = _
    rw [List.find?_cons]
    rcases List.mem_cons.mp hz with rfl | hz
    · simp
    · have hne : ¬ (Sum.inl y.2.num : Key) = Sum.inl z.2.num := fun q => by
        injection q with q
        exact h2.1 (List.mem_map.mpr ⟨z.2, List.mem_map.mpr ⟨z, hz, rfl⟩, q.symm⟩)
      rw [decide_eq_false hne]
      exact ih h2.2 hz
theorem EdAt.get {H : Hp} {ed : Addr} {n : Nat} {zs : List (Addr × En)} (h : EdAt H ed n zs) {z : Addr × En} (hz : z ∈ zs) : DGet H ed (.int z.2.num) (some (.ref z.1)) := by
  have := DGet.k (k := Sum.inl z.2.num) h.at_
  rw [valV_dks h.ok.nd hz] at this
  exact this
theorem mem_inS {x : Str} {ws : List Str} : inV (.str x) (ws.map V.str) = decide (x ∈ ws) := by
  induction ws with
  | nil => simp [inV]
  | cons m r ih =>
    have e : inV (.str x) ((m :: r).map V.str) = (eqV (.str m) (.str x) || inV (.str x) (r.map V.str)) := by simp [inV]
    have e2 : eqV (.str m) (.str x) = decide (m = x) := by
      first | rfl | simp [eqV] | (unfold eqV; simp)
    rw [e, ih, e2]
    by_cases h : m = x
    · subst h
      simp
    · have h' : ¬ x = m := fun z => h z.symm
      simp [h, h']
theorem flat_strs (ws : List Str) : (ws.map V.str).all flatV = true := by
  induction ws with
  | nil => rfl
  | cons n r ih =>
    rw [List.map_cons, List.all_cons, ih]
    rfl
theorem EntAt.five {H : Hp} {a : Addr} {e : En} (h : EntAt H a e) (hd : e.isDeed = false) : ∃ xs, H a = some (.tup xs) ∧ atI xs 5 = some (.int e.of) := by
  unfold EntAt at h
  unfold En.isDeed at hd
  unfold En.of
  cases hk : e.kd with
  | deed g t rs ws =>
    rw [hk] at hd
    cases hd
  | act x o =>
    rw [hk] at h
    exact ⟨_, h, atI_nat (j := 5) rfl⟩
theorem putK_new {kvs : List (Key × V)} {k : Key} {v : V} (h : k ∉ kvs.map (·.1)) : putK kvs k v = kvs ++ [(k, v)] := by
  unfold putK
  rw [if_neg]
  intro z
  obtain ⟨kv, h1, h2⟩ := List.any_eq_true.mp z
  exact h (List.mem_map.mpr ⟨kv, h1, of_decide_eq_true h2⟩)
theorem mergeK_new : ∀ (more kvs : List (Key × V)), ((kvs ++ more).map (·.1)).Nodup → mergeK kvs more = kvs ++ more
  | [], kvs, _ => (List.append_nil kvs).symm
  | (k, v) :: r, kvs, h => by
    show mergeK (putK kvs k v) r = kvs ++ (k, v) :: r
    have hk : k ∉ kvs.map (·.1) := fun z => by
      rw [List.map_append, List.nodup_append] at h
      exact h.2.2 k z k List.mem_cons_self rfl
    rw [putK_new hk, mergeK_new r (kvs ++ [(k, v)]) (by rw [List.append_assoc]; exact h), List.append_assoc]
    rfl
theorem dks_nodup {zs : List (Addr × En)} (h : ((ens zs).map (·.num)).Nodup) : ((dks zs).map (·.1)).Nodup := by
  have e : (dks zs).map (·.1) = ((ens zs).map (·.num)).map (Sum.inl : Int → Key) := by
    simp [dks, ens, List.map_map, Function.comp_def]
  rw [e]
  exact List.pairwise_map.mpr (h.imp fun hne e => hne (Sum.inl.inj e))
theorem paired_mono {α β : Type} {F G : α → β → Prop} {l : List α} {m : List β} (h : Paired F l m) (i : ∀ a b, F a b → G a b) : Paired G l m := by
  induction h with
  | nil => exact .nil
  | cons a _ ih => exact .cons (i _ _ a) ih
/-- a lesser number stands ahead -/
theorem mem_before {ys : List (Addr × En)} {i : Nat} {z v : Addr × En} (up : ys.Pairwise (fun a b => a.2.num < b.2.num)) (hz : ys[i]? = some z) (hv : v ∈ ys) (h : v.2.num < z.2.num) : v ∈ ys.take i := by
  obtain ⟨j, hj, ej⟩ := List.mem_iff_getElem.mp hv
  obtain ⟨hi, ei⟩ := List.getElem?_eq_some_iff.mp hz
  have hji : j < i := by
    rcases Nat.lt_or_ge j i with q1 | q1
    · exact q1
    · rcases Nat.eq_or_lt_of_le q1 with q2 | q2
      · subst q2
        rw [ei] at ej
        rw [ej] at h
        omega
      · have := List.pairwise_iff_getElem.mp up i j hi hj q2
        rw [ei, ej] at this
        omega
  exact List.mem_take_iff_getElem.mpr ⟨j, by omega, ej⟩
theorem not_before {ys : List (Addr × En)} {i : Nat} {z v : Addr × En} (up : ys.Pairwise (fun a b => a.2.num < b.2.num)) (hz : ys[i]? = some z) (hv : v ∈ ys.take i) : v.2.num < z.2.num := by
  obtain ⟨hi, ei⟩ := List.getElem?_eq_some_iff.mp hz
  obtain ⟨j, hj, ej⟩ := List.mem_take_iff_getElem.mp hv
  have := List.pairwise_iff_getElem.mp up j i (by omega) hi (by omega)
  rw [ei, ej] at this
  exact this
end Deed

namespace Deed
open PySem PySem.Spec PyProof.Rows L2 LamX
/-- all but the pen and the tables is as it was -/
def XP (p : Addr) (H H' : Hp) : Prop := ∀ b o, b ≠ p → H b = some o → (∀ ps, o ≠ .tbl ps) → H' b = some o
theorem XP.refl (p : Addr) (H : Hp) : XP p H H := fun _ _ _ h _ => h
theorem XP.trans {p : Addr} {H H1 H2 : Hp} (a : XP p H H1) (b : XP p H1 H2) : XP p H H2 := fun c o n h t => b c o n (a c o n h t) t
theorem XP.ofN {p : Addr} {H H' : Hp} (e : ExtN H H') : XP p H H' := fun b o _ h t => e b o h t
theorem XP.ofK {p : Addr} {H H' : Hp} (k : Kp p H H') : XP p H H' := fun b o n h _ => k b o n h
theorem XP.ofS {p : Addr} {H H' : Hp} (s : Same H H') : XP p H H' := fun b o _ h _ => s b o h
theorem XP.tup {p : Addr} {H H' : Hp} (x : XP p H H') (P : PenAt H p) : KpT H H' := fun b xs e => x _ _ (P.ne e fun _ z => by cases z) e fun ps z => by cases z
theorem XP.toN {p : Addr} {H0 H H' : Hp} (e : ExtN H0 H) (n : H0 p = none) (x : XP p H H') : ExtN H0 H' := fun b o h t => x b o (ne_of_none h n) (e b o h t) t
theorem EdAt.xp {p : Addr} {H H' : Hp} {ed : Addr} {n : Nat} {zs : List (Addr × En)} (h : EdAt H ed n zs) (x : XP p H H') (P : PenAt H p) : EdAt H' ed n zs :=
  ⟨x _ _ (P.ne h.at_ fun _ z => by cases z) h.at_ fun ps z => (by cases z), fun z hz => (h.ent z hz).kp (x.tup P), h.ok, h.len⟩
theorem EdAt.extN {H H' : Hp} {ed : Addr} {n : Nat} {zs : List (Addr × En)} (h : EdAt H ed n zs) (e : ExtN H H') : EdAt H' ed n zs :=
  ⟨e _ _ h.at_ fun ps z => (by cases z), fun z hz => (h.ent z hz).kp (ExtN.tup e), h.ok, h.len⟩
section
variable (K : PySem.W.Frag) (mg : Str → Option Value)
abbrev CellD := Df K mg "_law_cell_at" sCell ["_law_script", "_law_k"]
abbrev PenD := Df K mg "_law_pen" sPen ["_law_cell"]
abbrev BookD := Df K mg "_law_book" sBook ["_law_pen_here", "_law_most"]
end
/-- how many cells are looked at -/
theorem turns3 (m : Nat) : ∃ tn : Int, (if (if 3 < (m : Int) then 3 else (m : Int)) > 1 then (if 3 < (m : Int) then 3 else (m : Int)) else 1) = tn ∧ 0 ≤ tn ∧ tn ≤ 3 := ⟨_, rfl, by split <;> split <;> omega, by split <;> split <;> omega⟩
end Deed

namespace Deed
open PySem PySem.Spec PyProof.Rows L2 LamX
/-! folk as they are -/
abbrev Pn := Int × Option Int
def diedV : Option Int → V
  | none => .non
  | some i => .int i
def PnAt (H : Hp) (a : Addr) (z : Pn) : Prop := H a = some (.tup [.int z.1, diedV z.2])
structure FolkIs (H : Hp) (fk : Addr) (ps : List (Addr × Pn)) : Prop where
  at_ : H fk = some (.tup (ps.map fun z => V.ref z.1))
  one : ∀ z ∈ ps, PnAt H z.1 z.2
theorem FolkIs.kp {H H' : Hp} {fk : Addr} {ps : List (Addr × Pn)} (h : FolkIs H fk ps) (k : KpT H H') : FolkIs H' fk ps := ⟨k _ _ h.at_, fun z hz => k _ _ (h.one z hz)⟩
theorem folkIs_of {H : Hp} : ∀ xs : List V, (∀ x ∈ xs, PersonAt H x) → ∃ ps : List (Addr × Pn), xs = ps.map (fun z => V.ref z.1) ∧ ∀ z ∈ ps, PnAt H z.1 z.2
  | [], _ => ⟨[], rfl, fun _ h => nomatch h⟩
  | x :: r, h => by
    obtain ⟨ps, e, hp⟩ := folkIs_of r fun y hy => h y (List.mem_cons_of_mem _ hy)
    obtain ⟨a, b, d, rfl, ea, _, _, hd⟩ := h x List.mem_cons_self
    obtain ⟨d', rfl⟩ : ∃ d' : Option Int, d = diedV d' := by
      rcases hd with rfl | ⟨i, rfl, _⟩
      · exact ⟨none, rfl⟩
      · exact ⟨some i, rfl⟩
    refine ⟨(a, b, d') :: ps, by rw [e]; rfl, fun z hz => ?_⟩
    rcases List.mem_cons.mp hz with rfl | hz
    · exact ea
    · exact hp z hz
theorem FolkAt.is {H : Hp} {fk : Addr} {n : Nat} (h : FolkAt H fk n) : ∃ ps : List (Addr × Pn), FolkIs H fk ps ∧ ps.length = n := by
  obtain ⟨xs, h1, h2, h3⟩ := h
  obtain ⟨ps, e, hp⟩ := folkIs_of xs h3
  subst e
  exact ⟨ps, ⟨h1, hp⟩, by rw [← h2, List.length_map]⟩
theorem FolkIs.one_ {H : Hp} {fk : Addr} {ps qs : List (Addr × Pn)} (h : FolkIs H fk ps) (h' : FolkIs H fk qs) : ps.map (·.2) = qs.map (·.2) := by
  have e := h.at_.symm.trans h'.at_
  injection e with e
  injection e with e
  have h1 := h.one
  have h2 := h'.one
  clear h h'
  induction ps generalizing qs with
  | nil =>
    cases qs with
    | nil => rfl
    | cons q r => cases e
  | cons p r ih =>
    cases qs with
    | nil => cases e
    | cons q s =>
      rw [List.map_cons, List.map_cons] at e
      injection e with e1 e2
      injection e1 with e1
      have a1 := h1 p List.mem_cons_self
      have a2 := h2 q List.mem_cons_self
      unfold PnAt at a1 a2
      rw [e1, a2] at a1
      have hpq : p.2 = q.2 := by
        injection a1 with a1
        injection a1 with a1
        injection a1 with b1 b2
        injection b1 with b1
        injection b2 with b2 _
        obtain ⟨pa, pb, pd⟩ := p
        obtain ⟨qa, qb, qd⟩ := q
        simp only at b1 b2 ⊢
        subst b1
        cases pd <;> cases qd <;> simp_all [diedV]
      rw [List.map_cons, List.map_cons, hpq, ih e2 (fun z hz => h1 z (List.mem_cons_of_mem _ hz)) (fun z hz => h2 z (List.mem_cons_of_mem _ hz))]
/-- what is wrong with a person on a day; the empty text: nothing -/
def flt (z : Pn) (age day : Int) : Str :=
  if z.1 > day then "unborn" else if (match z.2 with | some i => decide (i ≤ day) | none => false) = true then "dead" else if day - z.1 < age then "young" else ""
def fltV (z : Pn) (age day : Int) : V := if flt z age day = "" then .non else .str (flt z age day)
section
variable {P : Program} {w : World} {K : PySem.W.Frag} {mg : Str → Option Value} {base : Heap} {T : List (Addr × Str)}
abbrev sFaultOf : Stmt := topS 17
abbrev nFaultOf : List Str := ["person", "age", "day", "born", "died"]
abbrev pFaultOf : List Str := ["person", "age", "day"]
theorem scFaultOf : FnScope nFaultOf pFaultOf (defScope sFaultOf) := ⟨rfl, rfl, rfl, by decide +kernel, rfl, by decide +kernel, by decide +kernel⟩
def spFaultOf : Sp := fun vs H Q _ => ∃ (a : Addr) (z : Pn) (age day : Int), vs = [.ref a, .int age, .int day] ∧ PnAt H a z ∧ Q (fltV z age day) H
theorem ok_FaultOf {f : Addr} {fd : FuncData} {k : Nat} (F : Fun K "fault_of" "fault_of" sFaultOf f fd) : FnOk P w K mg base CX0 (k + 1) f fd pFaultOf spFaultOf := by
  refine F.ok scFaultOf (fun vs H Q E h => ?_) (fun cdv A outer s H vs Q E hr h => ?_)
  · obtain ⟨a, z, age, day, rfl, _⟩ := h
    rfl
  · obtain ⟨a, z, age, day, rfl, hz, q⟩ := h
    have nd := scFaultOf.nd
    refine ⟨_, pss_cons (ps_asg (pv 0) (pg_tup (by rfl) (pgs_cons (pg_name (i := 3) nd rfl (.inl rfl)) (pgs_cons (pg_name (i := 4) nd rfl (.inl rfl)) pgs_nil))))
      (pss_cons (ps_if (pt_cmpR op_gt (pv 3) (pv 2) (nomark _)) (pss_one (ps_ret pe_str)) pss_nil)
      (pss_cons (ps_if (PW.pt (pw_and (pt_cmpR op_notN (pv 4) pe_non (nomark _)) (pw_and1 (pt_cmpR op_le (pv 4) (pv 2) (nomark _))))) (pss_one (ps_ret pe_str)) pss_nil)
      (pss_cons (ps_if (pt_cmpR op_lt (pe_op op_sub (pv 2) (pv 3)) (pv 1) (nomark _)) (pss_one (ps_ret pe_str)) pss_nil)
      (pss_one (ps_ret pe_non))))), ?_⟩
    obtain ⟨b, d⟩ := z
    refine ⟨_, rfl, a, _, rfl, SqT.of hz, rfl, _, _, rfl, _, _, rfl, rfl, ?_⟩
    refine ⟨_, rfl, _, rfl, _, _, rfl, rfl, _, rfl, ?_⟩
    unfold fltV flt at q
    dsimp only at q
    refine ite2 (fun c => ?_) (fun c => ?_)
    · have c' : b > day := of_decide_eq_true c
      rw [if_pos c', if_neg (by decide)] at q
      exact q
    have c' : ¬ b > day := fun h => c (decide_eq_true h)
    rw [if_neg c'] at q
    refine ⟨_, rfl, rfl, _, rfl, ?_⟩
    cases d with
    | none =>
      simp only [Bool.false_eq_true, if_false] at q
      refine iteF ?_
      refine ⟨_, rfl, _, rfl, _, _, rfl, rfl, _, rfl, _, _, rfl, rfl, _, rfl, ?_⟩
      refine ite2 (fun c2 => ?_) (fun c2 => ?_)
      · have c2' : day - b < age := of_decide_eq_true c2
        rw [if_pos c2', if_neg (by decide)] at q
        exact q
      · have c2' : ¬ day - b < age := fun h => c2 (decide_eq_true h)
        rw [if_neg c2', if_pos rfl] at q
        exact q
    | some i =>
      refine iteT ?_
      refine ⟨_, rfl, _, rfl, _, _, rfl, rfl, _, rfl, ?_⟩
      dsimp only at q
      refine ite2 (fun c1 => ?_) (fun c1 => ?_)
      · have c1' : decide (i ≤ day) = true := c1
        rw [if_pos c1', if_neg (by decide)] at q
        exact q
      have c1' : ¬ decide (i ≤ day) = true := c1
      rw [if_neg c1'] at q
      refine ⟨_, rfl, _, rfl, _, _, rfl, rfl, _, rfl, _, _, rfl, rfl, _, rfl, ?_⟩
      refine ite2 (fun c2 => ?_) (fun c2 => ?_)
      · have c2' : day - b < age := of_decide_eq_true c2
        rw [if_pos c2', if_neg (by decide)] at q
        exact q
      · have c2' : ¬ day - b < age := fun h => c2 (decide_eq_true h)
        rw [if_neg c2', if_pos rfl] at q
        exact q
end
end Deed

namespace Deed
open PySem PySem.Spec PyProof.Rows L2 LamX
def En.wits (e : En) : List Int := match e.kd with
  | .deed _ _ _ ws => ws
  | .act _ _ => []
theorem EntAt.eight {H : Hp} {a : Addr} {e : En} (h : EntAt H a e) (hd : e.isDeed = true) : ∃ xs r, H a = some (.tup xs) ∧ atI xs 8 = some (.ref r) ∧ H r = some (.tup (e.wits.map V.int)) := by
  unfold EntAt at h
  unfold En.isDeed at hd
  unfold En.wits
  cases hk : e.kd with
  | deed g t rs ws =>
    rw [hk] at h
    obtain ⟨r, w, h1, _, h2⟩ := h
    exact ⟨_, w, h1, atI_nat (j := 8) rfl, h2⟩
  | act x o =>
    rw [hk] at hd
    cases hd
theorem EnOk.wits {n : Nat} {ds as : List Int} {e : En} (h : EnOk n ds as e) : e.wits.length ≤ 3 ∧ e.wits.Pairwise (· < ·) ∧ ∀ x ∈ e.wits, 0 ≤ x ∧ x < n := by
  unfold En.wits
  cases hk : e.kd with
  | deed g t rs ws =>
    have h4 := h.2.2.2
    rw [hk] at h4
    exact ⟨h4.2.2.2.2.2.2.1, h4.2.2.2.2.2.2.2.1, fun x hx => ⟨(h4.2.2.2.2.2.2.2.2 x hx).1, (h4.2.2.2.2.2.2.2.2 x hx).2.1⟩⟩
  | act x o => exact ⟨Nat.zero_le _, List.Pairwise.nil, fun _ h => nomatch h⟩
abbrev Row3 := Int × Int × Str
def tup3 (r : Row3) : List V := [.int r.1, .int r.2.1, .str r.2.2]
def F3At (H : Hp) (p : Addr) (rs : List Row3) : Prop := ∃ zs : List (Addr × Row3), H p = some (.lst (zs.map fun z => V.ref z.1)) ∧ zs.map (·.2) = rs ∧ ∀ z ∈ zs, H z.1 = some (.tup (tup3 z.2))
theorem F3At.kpx {H H' : Hp} {p : Addr} {rs : List Row3} (h : F3At H p rs) (k : ∀ b o, H b = some o → (∀ ps, o ≠ .tbl ps) → H' b = some o) : F3At H' p rs := by
  obtain ⟨zs, h1, h2, h3⟩ := h
  exact ⟨zs, k _ _ h1 (fun _ z => by cases z), h2, fun z hz => k _ _ (h3 z hz) fun _ z => by cases z⟩
theorem F3At.snoc {H : Hp} {p t : Addr} {rs : List Row3} {r : Row3} (h : F3At H p rs) (et : H t = some (.tup (tup3 r))) : ∃ xs, H p = some (.lst xs) ∧ xs.length = rs.length ∧ F3At (upd H p (.lst (xs ++ [.ref t]))) p (rs ++ [r]) := by
  obtain ⟨zs, h1, rfl, h3⟩ := h
  refine ⟨_, h1, by simp, zs ++ [(t, r)], by rw [upd_same, List.map_append]; rfl, by rw [List.map_append]; rfl, fun z hz => ?_⟩
  have hz2 : H z.1 = some (.tup (tup3 z.2)) := by
    rcases List.mem_append.mp hz with hz | hz
    · exact h3 z hz
    · rw [List.mem_singleton.mp hz]
      exact et
  rw [upd_ne fun q => by rw [q, h1] at hz2; cases hz2]
  exact hz2
def pnOf (ps : List Pn) (x : Int) : Pn := (ps[x.toNat]?).getD (0, none)
def fl1 (ps : List Pn) (age : Int) (e : En) (x : Int) : List Row3 := if flt (pnOf ps x) age e.day = "" then [] else [(e.num, x, flt (pnOf ps x) age e.day)]
def faultsE (ps : List Pn) (age : Int) (e : En) : List Row3 := e.wits.flatMap (fl1 ps age e)
def faultsAll (ps : List Pn) (age : Int) (es : List En) : List Row3 := es.flatMap (faultsE ps age)
theorem fl1_len (ps : List Pn) (age : Int) (e : En) (x : Int) : (fl1 ps age e x).length ≤ 1 := by
  unfold fl1
  split <;> simp
theorem flatMap_take {α β : Type} {f : α → List β} {l : List α} {i : Nat} {x : α} (h : l[i]? = some x) : (l.take (i + 1)).flatMap f = (l.take i).flatMap f ++ f x := by
  rw [take_more h, List.flatMap_append]
  simp
section
variable {P : Program} {w : World} {K : PySem.W.Frag} {mg : Str → Option Value} {base : Heap} {T : List (Addr × Str)}
abbrev sFaultsOf : Stmt := topS 18
abbrev nFaultsOf : List Str := ["book", "folk", "age", "entries", "faults", "deed", "person", "word"]
abbrev pFaultsOf : List Str := ["book"]
theorem scFaultsOf : FnScope nFaultsOf pFaultsOf (defScope sFaultsOf) := ⟨rfl, rfl, rfl, by decide +kernel, rfl, by decide +kernel, by decide +kernel⟩
def spFaultsOf (T : List (Addr × Str)) : Sp := fun vs H Q _ => ∃ (b fk t : Addr) (n : Nat) (age : Int) (zs : List (Addr × En)) (ps : List (Addr × Pn)), vs = [.ref b] ∧ BookAt H b fk t n age zs ∧ FolkIs H fk ps ∧ ps.length = n ∧ Tabs T H ∧
  ∀ (p : Addr) (zs' : List (Addr × En)) (H' : Hp), ExtN H H' → Tabs T H' → Fresh H p → F3At H' p (faultsAll (ps.map (·.2)) age (ens (zs'.filter fun z => z.2.isDeed))) → zs'.Perm zs → zs'.Pairwise (fun a b => a.2.num < b.2.num) → Q (.ref p) H'
theorem ok_FaultsOf {f : Addr} {fd : FuncData} {k : Nat} (F : Fun K "faults_of" "faults_of" sFaultsOf f fd) (C_deed_entries : CallOk P w K mg base k "deed_entries" ["book"] (spPick (·.isDeed) T)) (C_fault_of : CallOk P w K mg base k "fault_of" pFaultOf spFaultOf) (iWITNESSES : MgInt mg "WITNESSES" 8) (iDAY : MgInt mg "DAY" 1) (iNUMBER : MgInt mg "NUMBER" 0) : FnOk P w K mg base CX0 (k + 1) f fd pFaultsOf (spFaultsOf T) := by
  refine F.ok scFaultsOf (fun vs H Q E h => ?_) (fun cdv A outer s H vs Q E hr h => ?_)
  · obtain ⟨b, fk, t, n, age, zs, ps, rfl, _⟩ := h
    rfl
  · obtain ⟨b, fk, t, n, age, zs, ps, rfl, hB, hF, hpl, hT, q⟩ := h
    have nd := scFaultsOf.nd
    have nls : ∀ xs : List V, ∀ ps, HO.lst xs ≠ .tbl ps := fun xs ps z => by cases z
    have ntp : ∀ xs : List V, ∀ ps, HO.tup xs ≠ .tbl ps := fun xs ps z => by cases z
    refine ⟨_, pss_cons (ps_asg (pv 0) (pg_tup (by rfl) (pgs_cons (pg_name (i := 1) nd rfl (.inl rfl)) (pgs_cons (pg_name (i := 2) nd rfl (.inl rfl)) (pgs_cons (pg_name (i := 3) nd rfl (.inl rfl)) pgs_nil)))))
      (pss_cons (ps_set (i := 4) nd rfl (.inl rfl) (pe_lst pa_nil))
      (pss_cons (ps_for PassesOwn.never rfl (pi_list (pe_call C_deed_entries.ok hr (by rfl) C_deed_entries.g C_deed_entries.kp C_deed_entries.b .nil pass0 (pa_cons (pv 0) pa_nil))) (pg_name (i := 5) nd rfl (.inl rfl))
        (pss_one (ps_for PassesOwn.never rfl (pi_tup (pe_ix ix_tup (pv 5) (pe_num (by rfl) iWITNESSES) (fun _ _ => rfl))) (pg_name (i := 6) nd rfl (.inl rfl))
        (pss_cons (ps_set (i := 7) nd rfl (.inl rfl) (pe_call C_fault_of.ok hr (by rfl) C_fault_of.g C_fault_of.kp C_fault_of.b .nil pass0 (pa_cons (pe_ix ix_tup (pv 1) (pv 6) (fun _ _ => rfl)) (pa_cons (pv 2) (pa_cons (pe_ix ix_tup (pv 5) (pe_num (by rfl) iDAY) (fun _ _ => rfl)) pa_nil)))))
      (pss_one (ps_if (pt_cmpR op_notN (pv 7) pe_non (nomark _)) (pss_one (ps_expr (pe_bm PySem.F.plainAttrs_list PySem.F.slot_list_append PySem.F.type_list_append mt_append (pv 4) (pa_cons (pe_tup (pa_cons (pe_ix ix_tup (pv 5) (pe_num (by rfl) iNUMBER) (fun _ _ => rfl)) (pa_cons (pv 6) (pa_cons (pv 7) pa_nil)))) pa_nil)))) pss_nil))))))
      (pss_one (ps_ret (pv 4))))), ?_⟩
    refine ⟨_, rfl, b, _, rfl, SqT.of hB.at_, rfl, _, _, rfl, _, _, rfl, _, _, rfl, rfl, ?_⟩
    refine ⟨Nat.zero_le _, fun l1 nl1 => ?_⟩
    have s1 := same_new nl1 (.lst [])
    have e1 : (upd H l1 (.lst [])) l1 = some (.lst []) := upd_same
    have fr1 : Fresh H l1 := fun o z => by rw [nl1] at z; cases z
    have T1 : Tabs T (upd H l1 (.lst [])) := Tabs.new hT nl1 _
    generalize (upd H l1 (.lst [])) = H1 at s1 e1 T1
    refine ⟨_, rfl, b, fk, t, n, age, zs, rfl, hB.kp (Same.tup s1), T1, fun L zs' H2 e2 T2 fr2 eL pm so => ?_⟩
    have el2 := e2 _ _ e1 (nls _)
    have nLl : L ≠ l1 := fun q0 => by
      have := fr2.ne e1 (nls _)
      exact this q0.symm
    have e02 := (ExtN.of s1).trans e2
    have hmem : ∀ z ∈ zs'.filter (fun z => z.2.isDeed), z ∈ zs ∧ z.2.isDeed = true := fun z hz => ⟨pm.mem_iff.mp (List.mem_filter.mp hz).1, (List.mem_filter.mp hz).2⟩
    have hlen : (zs'.filter fun z => z.2.isDeed).length ≤ 16 := by
      have h1 := List.length_filter_le (fun z : Addr × En => z.2.isDeed) zs'
      have h2 := pm.length_eq
      have h3 := hB.len
      omega
    have qq := fun H' a1 a2 a4 => q l1 zs' H' a1 a2 fr1 a4 pm so
    generalize (zs'.filter fun z => z.2.isDeed) = ds at eL hmem hlen qq
    refine ⟨L, rfl, ⟨_, SqL.of eL⟩, ?_⟩
    refine for_list (K := K) (a := L) (xs := refs ds) (fun i σ H' => ∃ y5 y6 y7, σ = [some (.ref b), some (.ref fk), some (.int age), some (.ref t), some (.ref l1), y5, y6, y7] ∧ (∀ b o, b ≠ l1 → H2 b = some o → H' b = some o) ∧ Tabs T H' ∧ F3At H' l1 (faultsAll (ps.map (·.2)) age (ens (ds.take i))) ∧ (faultsAll (ps.map (·.2)) age (ens (ds.take i))).length ≤ 3 * i) ⟨_, _, _, rfl, fun _ _ _ e => e, T2, ⟨[], el2, rfl, fun _ h => nomatch h⟩, Nat.zero_le _⟩ (fun i σ H' _ h => ?_) ?_ ?_
    · obtain ⟨_, _, _, _, hk, _⟩ := h
      exact SqL.of (hk _ _ nLl eL)
    · rintro i x σ H3 hx ⟨y5, y6, y7, rfl, k3, T3, h3, hl3⟩
      obtain ⟨z, hz, rfl⟩ := ref_at hx
      have hi : i < ds.length := (List.getElem?_eq_some_iff.mp hz).1
      obtain ⟨hzm, hzd⟩ := hmem z (List.mem_of_getElem? hz)
      have hez : z.2 ∈ ens zs := List.mem_map.mpr ⟨z, hzm, rfl⟩
      obtain ⟨hw3, _, hwn⟩ := (hB.ok.ok z.2 hez).wits
      have kT : ∀ {H' : Hp}, (∀ b o, b ≠ l1 → H2 b = some o → H' b = some o) → KpT H H' := fun kk b xs e => kk b _ (fun q0 => by rw [q0, nl1] at e; cases e) (e02 _ _ e (ntp _))
      obtain ⟨xs8, r8, ex8, g8, er8⟩ := ((hB.ent z hzm).kp (kT k3)).eight hzd
      refine ⟨_, rfl, z.1, xs8, 8, _, rfl, rfl, SqT.of ex8, g8, r8, rfl, ⟨_, SqT.of er8⟩, ?_⟩
      have hft : faultsAll (ps.map (·.2)) age (ens (ds.take (i + 1))) = faultsAll (ps.map (·.2)) age (ens (ds.take i)) ++ faultsE (ps.map (·.2)) age z.2 := by
        rw [take_more hz]
        unfold faultsAll
        rw [show ens (ds.take i ++ [z]) = ens (ds.take i) ++ [z.2] from List.map_append, List.flatMap_append]
        simp
      generalize faultsAll (ps.map (·.2)) age (ens (ds.take i)) = rs at h3 hl3 hft
      refine for_tup (K := K) (a := r8) (xs := z.2.wits.map V.int) (fun j σ H' => ∃ y6 y7, σ = [some (.ref b), some (.ref fk), some (.int age), some (.ref t), some (.ref l1), some (.ref z.1), y6, y7] ∧ (∀ b o, b ≠ l1 → H2 b = some o → H' b = some o) ∧ Tabs T H' ∧ F3At H' l1 (rs ++ (z.2.wits.take j).flatMap (fl1 (ps.map (·.2)) age z.2)) ∧ ((z.2.wits.take j).flatMap (fl1 (ps.map (·.2)) age z.2)).length ≤ j) ⟨_, _, rfl, k3, T3, by simpa using h3, Nat.zero_le _⟩ (fun j σ H' _ h => ?_) ?_ ?_
      · obtain ⟨_, _, _, hk, _⟩ := h
        obtain ⟨xs8', r8', ex8', g8', er8'⟩ := ((hB.ent z hzm).kp (kT hk)).eight hzd
        have hb8 := ((hB.ent z hzm).kp (ExtN.tup e02)).eight hzd
        obtain ⟨xa, ra, exa, ga, era⟩ := hb8
        have e1a := k3 _ _ (fun q0 => by rw [q0, el2] at exa; cases exa) exa
        rw [ex8] at e1a
        injection e1a with e1a
        injection e1a with e1a
        subst e1a
        rw [g8] at ga
        injection ga with ga
        injection ga with ga
        subst ga
        exact SqT.of (hk _ _ (fun q0 => by rw [q0, el2] at era; cases era) era)
      · rintro j x σ H4 hx ⟨y6, y7, rfl, k4, T4, h4, hl4⟩
        rw [List.getElem?_map] at hx
        cases hm : z.2.wits[j]? with
        | none => rw [hm] at hx; cases hx
        | some m =>
          rw [hm] at hx
          injection hx with hx
          subst hx
          have hj : j < z.2.wits.length := (List.getElem?_eq_some_iff.mp hm).1
          obtain ⟨m0, mn⟩ := hwn m (List.mem_of_getElem? hm)
          have hF4 := hF.kp (kT k4)
          have hmp : m.toNat < ps.length := by omega
          have hpz : ps[m.toNat]? = some ps[m.toNat] := List.getElem?_eq_getElem hmp
          have hpm : ps[m.toNat] ∈ ps := List.getElem_mem hmp
          generalize ps[m.toNat] = pz at hpz hpm
          have hpn : pnOf (ps.map (·.2)) m = pz.2 := by
            unfold pnOf
            rw [List.getElem?_map, hpz]
            rfl
          obtain ⟨xs1, ex1, g10, g11, _⟩ := ((hB.ent z hzm).kp (kT k4)).tup
          refine ⟨_, rfl, _, rfl, fk, _, m, .ref pz.1, rfl, rfl, SqT.of hF4.at_, at_of (j := m.toNat) (by omega) (by rw [List.getElem?_map, hpz]; rfl), _, rfl, _, rfl, z.1, xs1, 1, _, rfl, rfl, SqT.of ex1, g11, pz.1, pz.2, age, z.2.day, rfl, hF4.one pz hpm, ?_⟩
          have hfm := flatMap_take (f := fl1 (ps.map (·.2)) age z.2) hm
          have hfe : fl1 (ps.map (·.2)) age z.2 m = if flt pz.2 age z.2.day = "" then [] else [(z.2.num, m, flt pz.2 age z.2.day)] := by
            unfold fl1
            rw [hpn]
          unfold fltV
          by_cases c : flt pz.2 age z.2.day = ""
          · rw [if_pos c]
            refine ⟨_, rfl, rfl, _, rfl, iteF ?_⟩
            rw [if_pos c] at hfe
            refine ⟨_, _, rfl, k4, T4, ?_, ?_⟩
            · rw [hfm, hfe, List.append_nil]
              exact h4
            · rw [hfm, hfe, List.append_nil]
              omega
          · rw [if_neg c]
            refine ⟨_, rfl, rfl, _, rfl, iteT ?_⟩
            rw [if_neg c] at hfe
            obtain ⟨xl, exl, hxl, _⟩ := h4.snoc (t := l1) (r := (0, 0, "")) |> fun _ => (⟨_, h4.choose_spec.1, rfl, trivial⟩ : ∃ xl, H4 l1 = some (.lst xl) ∧ xl.length = xl.length ∧ True)
            refine ⟨_, rfl, .inl ⟨rfl, _, SqL.of exl⟩, _, rfl, z.1, xs1, 0, _, rfl, rfl, SqT.of ex1, g10, _, rfl, _, rfl, (by show 3 ≤ sizeLine; decide), fun t2 nt2 => ?_⟩
            have s5 := same_new nt2 (.tup [.int z.2.num, .int m, .str (flt pz.2 age z.2.day)])
            have e5 : (upd H4 t2 (.tup [.int z.2.num, .int m, .str (flt pz.2 age z.2.day)])) t2 = some (.tup (tup3 (z.2.num, m, flt pz.2 age z.2.day))) := upd_same
            generalize (upd H4 t2 (.tup [.int z.2.num, .int m, .str (flt pz.2 age z.2.day)])) = H5 at s5 e5
            obtain ⟨xs, exs, hxs, h6⟩ := (h4.kpx fun b o e _ => s5 b o e).snoc e5
            have hll : xs.length ≤ 100 := by
              rw [hxs, List.length_append]
              omega
            refine ⟨l1, _, _, rfl, rfl, exs, small1000 (by omega), ?_⟩
            refine ⟨_, _, rfl, fun b o nb e => ?_, Tabs.put (T4.ext s5) exs _, ?_, ?_⟩
            · rw [upd_ne nb]
              exact s5 _ _ (k4 b o nb e)
            · rw [hfm, hfe, ← List.append_assoc]
              exact h6
            · rw [hfm, hfe, List.length_append]
              show _ + 1 ≤ _
              omega
      · rintro σ H4 ⟨y6, y7, rfl, k4, T4, h4, hl4⟩
        rw [show (z.2.wits.map V.int).length = z.2.wits.length from List.length_map _, List.take_length] at h4 hl4
        refine ⟨_, _, _, rfl, k4, T4, ?_, ?_⟩
        · rw [hft]
          exact h4
        · rw [hft, List.length_append]
          have : (faultsE (ps.map (·.2)) age z.2).length ≤ z.2.wits.length := hl4
          omega
    · rintro σ H3 ⟨y5, y6, y7, rfl, k3, T3, h3, _⟩
      rw [show (refs ds).length = ds.length from List.length_map _, List.take_length] at h3
      exact ⟨_, rfl, qq H3 (fun b o e t => k3 b o (ne_of_none e nl1) (e02 _ _ e t)) T3 h3⟩
end
end Deed

namespace Deed
open PySem PySem.Spec PyProof.Rows L2 LamX
section
variable {P : Program} {w : World} {K : PySem.W.Frag} {mg : Str → Option Value} {base : Heap} {T : List (Addr × Str)}
abbrev sLFault : Stmt := topS 32
abbrev nLFault : List Str := ["_law_person", "_law_day_here", "_law_age", "_law_born", "_law_died"]
abbrev pLFault : List Str := ["_law_person", "_law_day_here", "_law_age"]
theorem scLFault : FnScope nLFault pLFault (defScope sLFault) := ⟨rfl, rfl, rfl, by decide +kernel, rfl, by decide +kernel, by decide +kernel⟩
def spLFault : Sp := fun vs H Q _ => ∃ (a : Addr) (z : Pn) (age day : Int), vs = [.ref a, .int day, .int age] ∧ PnAt H a z ∧ ∀ H', Same H H' → Q (.str (flt z age day)) H'
theorem ok_LFault {f : Addr} {fd : FuncData} {k : Nat} (F : Fun K "_law_fault" "_law_fault" sLFault f fd) (m_int : mg "int" = none) : FnOk P w K mg base CX0 (k + 1) f fd pLFault spLFault := by
  refine F.ok scLFault (fun vs H Q E h => ?_) (fun cdv A outer s H vs Q E hr h => ?_)
  · obtain ⟨a, z, age, day, rfl, _⟩ := h
    rfl
  · obtain ⟨a, z, age, day, rfl, hz, q⟩ := h
    have nd := scLFault.nd
    refine ⟨_, pss_cons (ps_asg (pv 0) (pg_tup (by rfl) (pgs_cons (pg_name (i := 3) nd rfl (.inl rfl)) (pgs_cons (pg_name (i := 4) nd rfl (.inl rfl)) pgs_nil))))
      (pss_cons (ps_if (pt_cmpR op_lt (pv 1) (pv 3) (nomark _)) (pss_one (ps_ret pe_str)) pss_nil)
      (pss_cons (ps_if (PW.pt (pw_and (pt_cmpR op_notN (pv 4) pe_non (nomark _)) (pw_and1 (pt_cmpR op_ge (pv 1) (pv 4) (nomark _))))) (pss_one (ps_ret pe_str)) pss_nil)
      (pss_one (ps_ret (pe_ix ix_list (pe_lst (pa_cons pe_str (pa_cons pe_str pa_nil))) (pe_callTy call_int1 (by rfl) m_int (by decide +kernel) (pa_cons (pe_cmpR op_lt (pv 1) (pe_op op_add (pv 3) (pv 2)) (nomark _)) pa_nil)) (fun _ _ => rfl)))))), ?_⟩
    obtain ⟨b, d⟩ := z
    refine ⟨_, rfl, a, _, rfl, SqT.of hz, rfl, _, _, rfl, _, _, rfl, rfl, ?_⟩
    refine ⟨_, rfl, _, rfl, _, _, rfl, rfl, _, rfl, ?_⟩
    unfold flt at q
    dsimp only at q
    refine ite2 (fun c => ?_) (fun c => ?_)
    · have c' : b > day := of_decide_eq_true c
      rw [if_pos c'] at q
      exact q H (same_refl _)
    have c' : ¬ b > day := fun h => c (decide_eq_true h)
    rw [if_neg c'] at q
    -- what is left once nobody is dead
    have fin : ∀ l1, H l1 = none → ∃ v, atI [V.str "", V.str "young"] (if decide (day < b + age) = true then 1 else 0) = some v ∧ v = .str (if day - b < age then ("young" : Str) else "") := fun l1 _ => by
      by_cases c2 : day < b + age
      · rw [decide_eq_true c2, if_pos (show day - b < age by omega)]
        exact ⟨_, atI_nat (j := 1) rfl, rfl⟩
      · rw [decide_eq_false c2, if_neg (show ¬ day - b < age by omega)]
        exact ⟨_, atI_nat (j := 0) rfl, rfl⟩
    refine ⟨_, rfl, rfl, _, rfl, ?_⟩
    cases d with
    | none =>
      simp only [Bool.false_eq_true, if_false] at q
      refine iteF ?_
      refine ⟨(by show 2 ≤ sizeLine; decide), fun l1 nl1 => ?_⟩
      obtain ⟨v, gv, rfl⟩ := fin l1 nl1
      refine ⟨_, rfl, _, rfl, _, rfl, _, _, rfl, rfl, _, _, rfl, rfl, .inr ⟨_, rfl, ?_⟩⟩
      exact ⟨l1, _, _, _, rfl, rfl, SqL.of upd_same, gv, q _ (same_new nl1 _)⟩
    | some i =>
      refine iteT ?_
      refine ⟨_, rfl, _, rfl, _, _, rfl, rfl, _, rfl, ?_⟩
      dsimp only at q
      refine ite2 (fun c1 => ?_) (fun c1 => ?_)
      · have c1' : i ≤ day := of_decide_eq_true c1
        rw [if_pos (decide_eq_true c1')] at q
        exact q H (same_refl _)
      have c1' : ¬ i ≤ day := fun h => c1 (decide_eq_true h)
      rw [if_neg (fun h => c1' (of_decide_eq_true h))] at q
      refine ⟨(by show 2 ≤ sizeLine; decide), fun l1 nl1 => ?_⟩
      obtain ⟨v, gv, rfl⟩ := fin l1 nl1
      refine ⟨_, rfl, _, rfl, _, rfl, _, _, rfl, rfl, _, _, rfl, rfl, .inr ⟨_, rfl, ?_⟩⟩
      exact ⟨l1, _, _, _, rfl, rfl, SqL.of upd_same, gv, q _ (same_new nl1 _)⟩
end
end Deed

namespace Deed
open PySem PySem.Spec PyProof.Rows L2 LamX
theorem PersonAt.kpT {H H' : Hp} {x : V} (h : PersonAt H x) (k : KpT H H') : PersonAt H' x := by
  obtain ⟨a, b, d, e, h1, r⟩ := h
  exact ⟨a, b, d, e, k _ _ h1, r⟩
section
variable {P : Program} {w : World} {K : PySem.W.Frag} {mg : Str → Option Value} {base : Heap} {T : List (Addr × Str)}
abbrev sLEdgy : Stmt := topS 31
abbrev nLEdgy : List Str := ["_law_pen_here", "_law_folk_here", "_law_age", "_law_entries", "_law_days", "_law_found", "_law_person", "_law_day_here", "_law_edges", "_law_one", "_law_entry"]
abbrev pLEdgy : List Str := ["_law_pen_here"]
theorem scLEdgy : FnScope nLEdgy pLEdgy (defScope sLEdgy) := ⟨rfl, rfl, rfl, by decide +kernel, rfl, by decide +kernel, by decide +kernel⟩
def spLEdgy : Sp := fun vs H Q _ => ∃ (p : Addr), vs = [.ref p] ∧ PenAt H p ∧ ∀ b fk t n age zs H', Kp p H H' → PenAt H' p → BookAt H' b fk t n age zs → zs.length ≤ 12 → Q (.ref b) H'
theorem ok_LEdgy {f : Addr} {fd : FuncData} {k : Nat} (F : Fun K "_law_edgy" "_law_edgy" sLEdgy f fd) (C__law_book : CallOk P w K mg base k "_law_book" pBook spBook) (C__law_draw : CDraw P w K mg base k) (m_len : mg "len" = none) (m_tuple : mg "tuple" = none) : FnOk P w K mg base CX0 (k + 1) f fd pLEdgy spLEdgy := by
  refine F.ok scLEdgy (fun vs H Q E h => ?_) (fun cdv A outer s H vs Q E hr h => ?_)
  · obtain ⟨p, rfl, _⟩ := h
    rfl
  · obtain ⟨p, rfl, hP, q⟩ := h
    have nd := scLEdgy.nd
    refine ⟨_, pss_cons (ps_asg (pe_call C__law_book.ok hr (by rfl) C__law_book.g C__law_book.kp C__law_book.b .nil pass0 (pa_cons (pv 0) (pa_cons pe_int pa_nil))) (pg_tup (by rfl) (pgs_cons (pg_name (i := 1) nd rfl (.inl rfl)) (pgs_cons (pg_name (i := 2) nd rfl (.inl rfl)) (pgs_cons (pg_name (i := 3) nd rfl (.inl rfl)) pgs_nil)))))
      (pss_cons (ps_set (i := 4) nd rfl (.inl rfl) (pe_op op_cat (pe_lc (own := [("_law_entry", 10)]) (g := gName 10) (by rfl) nd (pi_tup (pv 3)) (blkOk_by (own := [("_law_entry", 10)]) (N := nLEdgy) (sc := defScope sLEdgy) (by decide +kernel)) (fun _ _ _ _ _ => (pg_name (i := 10) nd rfl (.inl rfl))) (fun _ _ _ _ _ => (pts_one (pt_cmpR op_eq (pe_ix (ix_tupK (K := K) (by rfl)) (pv 10) pe_int (fun _ _ => rfl)) pe_str (nomark _))))
          (fun _ _ _ _ _ => (pe_ix (ix_tupK (K := K) (by rfl)) (pv 10) pe_int (fun _ _ => rfl)))) (pe_lst (pa_cons pe_int pa_nil))))
      (pss_cons (ps_set (i := 5) nd rfl (.inl rfl) (pe_lst pa_nil))
      (pss_cons (ps_for PassesOwn.never rfl (pi_tup (pv 1)) (pg_name (i := 6) nd rfl (.inl rfl))
        (pss_cons (ps_set (i := 7) nd rfl (.inl rfl) (pe_op op_sub (pe_op op_add (pe_ix ix_list (pv 4) (pe_call C__law_draw.ok hr (by rfl) C__law_draw.g C__law_draw.kp C__law_draw.b .nil pass0 (pa_cons (pv 0) (pa_cons (pe_callB call_len_seq (by rfl) m_len (by decide +kernel) (pa_cons (pv 4) pa_nil)) pa_nil))) (fun _ _ => rfl)) (pe_call C__law_draw.ok hr (by rfl) C__law_draw.g C__law_draw.kp C__law_draw.b .nil pass0 (pa_cons (pv 0) (pa_cons pe_int pa_nil)))) pe_int))
      (pss_cons (ps_set (i := 8) nd rfl (.inl rfl) (pe_lst (pa_cons (pv 6) (pa_cons (pe_tup (pa_cons (pv 7) (pa_cons pe_non pa_nil))) (pa_cons (pe_tup (pa_cons (pe_op op_sub (pv 7) (pv 2)) (pa_cons pe_non pa_nil))) (pa_cons (pe_tup (pa_cons (pe_op op_sub (pv 7) pe_int) (pa_cons (pv 7) pa_nil))) pa_nil))))))
      (pss_cons (ps_set (i := 9) nd rfl (.inl rfl) (pe_ix ix_list (pv 8) (pe_call C__law_draw.ok hr (by rfl) C__law_draw.g C__law_draw.kp C__law_draw.b .nil pass0 (pa_cons (pv 0) (pa_cons pe_int pa_nil))) (fun _ _ => rfl)))
      (C8.pss_cut (ps_if (PW.pt (pw_or (pt_cmpR op_lt (pe_ix ix_tup (pv 9) pe_int (fun _ _ => rfl)) (pe_un un_neg pe_int) (nomark _)) (pw_or (pt_cmpR op_gt (pe_ix ix_tup (pv 9) pe_int (fun _ _ => rfl)) pe_int (nomark _)) (pw_or1 (PW.pt (pw_and (pt_cmpR op_notN (pe_ix ix_tup (pv 9) pe_int (fun _ _ => rfl)) pe_non (nomark _)) (pw_and1 (pt_not (pt_chain op_lt op_lt (pe_ix ix_tup (pv 9) pe_int (fun _ _ => rfl)) (pe_ix ix_tup (pv 9) pe_int (fun _ _ => rfl)) pe_int))))))))) (pss_one (ps_set (i := 9) nd rfl (.inl rfl) (pv 6))) pss_nil)
      (pss_one (ps_expr (pe_bm PySem.F.plainAttrs_list PySem.F.slot_list_append PySem.F.type_list_append mt_append (pv 5) (pa_cons (pv 9) pa_nil)))))))))
      (pss_one (ps_ret (pe_tup (pa_cons (pe_callTy call_tuple_of (by rfl) m_tuple (by decide +kernel) (pa_cons (pv 5) pa_nil)) (pa_cons (pv 2) (pa_cons (pv 3) pa_nil))))))))), ?_⟩
    refine ⟨_, rfl, p, 12, rfl, hP, by decide, by decide, fun b fk t n age zs H1 k1 P1 hB hzl => ?_⟩
    have len := hB.len
    refine ⟨b, _, rfl, SqT.of hB.at_, rfl, _, _, rfl, _, _, rfl, _, _, rfl, rfl, ?_⟩
    refine ⟨_, rfl, t, rfl, ⟨_, SqT.of hB.ents⟩, fun M nM => ?_⟩
    refine lc_sameV (walk_tup (xs := refs zs)) zs (fun z => z.2.isDeed) (fun z => .int z.2.day) (by rw [List.length_map]) (by omega) nM (fun H s => SqT.of (s _ _ hB.ents)) ?_ ?_
    · rintro i z x H2' H2 hy s2 ⟨rfl, hx⟩ Q1 Q0 q1 q0
      rw [List.getElem?_map, hy] at hx
      injection hx with hx
      subst hx
      have hzm := List.mem_of_getElem? hy
      have hwd := (hB.ok.ok z.2 (List.mem_map.mpr ⟨z, hzm, rfl⟩)).word
      obtain ⟨xs, ex, _, g1, _, _, g4⟩ := ((hB.ent z hzm).kp (Same.tup s2)).tup
      refine ⟨rfl, ?_⟩
      refine ⟨_, rfl, z.1, xs, 4, _, rfl, rfl, SqT.of ex, g4, rfl, _, rfl, ?_⟩
      refine ite2 (fun c => ?_) (fun c => ?_)
      · have hd : z.2.isDeed = true := hwd.mp (by
          have := of_decide_eq_true c
          injection this)
        exact ⟨_, rfl, z.1, xs, 1, _, rfl, rfl, SqT.of ex, g1, q1 hd _ (same_refl _)⟩
      · exact q0 (Bool.eq_false_iff.mpr fun hd => c (decide_eq_true (congrArg V.str (hwd.mpr hd)))) _ (same_refl _)
    intro H2 s2 eM
    have eM' : H2 M = some (.lst (((zs.filter fun z => z.2.isDeed).map fun z => z.2.day).map V.int)) := by rw [eM, List.map_map]; rfl
    have hds : ∀ x ∈ (zs.filter fun z => z.2.isDeed).map (fun z => z.2.day), 0 ≤ x ∧ x ≤ 9999 := fun x hx => by
      obtain ⟨z, hz, rfl⟩ := List.mem_map.mp hx
      exact (hB.ok.ok z.2 (List.mem_map.mpr ⟨z, (List.mem_filter.mp hz).1, rfl⟩)).1
    have hdl : ((zs.filter fun z => z.2.isDeed).map fun z => z.2.day).length ≤ 16 := by
      rw [List.length_map]
      have := List.length_filter_le (fun z : Addr × En => z.2.isDeed) zs
      omega
    generalize ((zs.filter fun z => z.2.isDeed).map fun z => z.2.day) = ds at eM' hds hdl
    refine ⟨(by show 1 ≤ sizeLine; decide), fun l3 nl3 => ?_⟩
    have s3 := same_new nl3 (.lst [.int 5])
    have e3 : (upd H2 l3 (.lst [.int 5])) l3 = some (.lst (([5] : List Int).map V.int)) := upd_same
    generalize (upd H2 l3 (.lst [.int 5])) = H3 at s3 e3
    refine ⟨M, l3, _, _, rfl, rfl, s3 _ _ eM', e3, ?_, fun l4 nl4 => ?_⟩
    · rw [List.length_map, List.length_map]
      exact Nat.le_of_lt (small1000 (by show ds.length + 1 ≤ 1000; omega))
    rw [← List.map_append]
    have s4 := same_new nl4 (.lst ((ds ++ [5]).map V.int))
    have e4 : (upd H3 l4 (.lst ((ds ++ [5]).map V.int))) l4 = some (.lst ((ds ++ [5]).map V.int)) := upd_same
    generalize (upd H3 l4 (.lst ((ds ++ [5]).map V.int))) = H4 at s4 e4
    have hds' : ∀ x ∈ ds ++ [5], 0 ≤ x ∧ x ≤ 9999 := fun x hx => by
      rcases List.mem_append.mp hx with hx | hx
      · exact hds x hx
      · rw [List.mem_singleton.mp hx]
        decide
    have hdl' : (ds ++ [5]).length = ds.length + 1 := by simp
    generalize ds ++ [5] = es at e4 hds' hdl'
    have s14 := s2.trans (s3.trans s4)
    have P4 : PenAt H4 p := ExtN.pen (.of s14) P1
    refine ⟨Nat.zero_le _, fun l5 nl5 => ?_⟩
    have P5 := P4.new nl5 (.lst [])
    have n45 : l4 ≠ l5 := ne_of_none e4 nl5
    have np5 : l5 ≠ p := P4.free nl5
    have np4 : l4 ≠ p := fun z => by
      obtain ⟨x1, x2, x3, x4, hx, _⟩ := ExtN.pen (.of (s2.trans s3)) P1
      rw [z, hx] at nl4
      cases nl4
    have s5 := same_new nl5 (.lst [])
    have e5 : (upd H4 l5 (.lst [])) l5 = some (.lst []) := upd_same
    have e45 := s5 _ _ e4
    generalize (upd H4 l5 (.lst [])) = H5 at s5 e5 e45 P5
    have s15 := s14.trans s5
    have n15 : H1 l5 = none := s14.free nl5
    obtain ⟨ps, efk, hpl, hps⟩ := hB.folk
    refine ⟨_, rfl, fk, rfl, ⟨_, SqT.of (s15 _ _ efk)⟩, ?_⟩
    refine for_tup (K := K) (a := fk) (xs := ps) (fun i σ H' => ∃ xs : List V, ∃ y6 y7 y8 y9 y10, σ = [some (.ref p), some (.ref fk), some (.int age), some (.ref t), some (.ref l4), some (.ref l5), y6, y7, y8, y9, y10] ∧ Kp p H1 H' ∧ PenAt H' p ∧ H' l4 = some (.lst (es.map V.int)) ∧ H' l5 = some (.lst xs) ∧ xs.length = i ∧ ∀ x ∈ xs, PersonAt H' x) ⟨[], _, _, _, _, _, rfl, Kp.same s15, P5, e45, e5, rfl, fun _ h => nomatch h⟩ (fun i σ H' _ h => ?_) ?_ ?_
    · obtain ⟨_, _, _, _, _, _, _, kx, _⟩ := h
      exact SqT.of (kx.tup P1 _ _ efk)
    · rintro i x σ H6 hx ⟨xs, y6, y7, y8, y9, y10, rfl, k6, P6, el4, el5, hxl, hxs⟩
      have hxm := List.mem_of_getElem? hx
      have hi : i < ps.length := (List.getElem?_eq_some_iff.mp hx).1
      have hn6 := hB.n6
      have hpx := (hps x hxm).kpT (k6.tup P1)
      have hel : (es.map V.int).length = es.length := List.length_map _
      refine ⟨_, rfl, _, rfl, _, rfl, l4, _, rfl, .inl (SqL.of el4), p, _, rfl, P6, by omega, by omega, fun u H7 k7 P7 u0 u1 => ?_⟩
      rw [hel] at u1
      have hul : u.toNat < es.length := by omega
      refine ⟨l4, _, u, .int es[u.toNat], rfl, rfl, SqL.of (k7 _ _ np4 el4), at_of (j := u.toNat) (by omega) (by rw [List.getElem?_map, List.getElem?_eq_getElem hul] <;> rfl), ?_⟩
      have hv := hds' _ (List.getElem_mem hul)
      generalize es[u.toNat] = dv at hv
      refine ⟨_, rfl, p, 3, rfl, P7, by decide, by decide, fun u2 H8 k8 P8 a8 b8 => ⟨_, _, rfl, rfl, _, _, rfl, rfl, ?_⟩⟩
      dsimp only
      generalize (dv + u2 - 1) = dd
      have P8' := P8
      obtain ⟨xa, xb, xd, rfl, exa, hxb0, hxb1, hxd⟩ := id hpx
      obtain ⟨xd', rfl⟩ : ∃ d' : Option Int, xd = diedV d' := by
        rcases hxd with rfl | ⟨i, rfl, _⟩
        · exact ⟨none, rfl⟩
        · exact ⟨some i, rfl⟩
      have k68 : Kp p H6 H8 := k7.trans k8
      refine ⟨_, rfl, _, rfl, (by show 2 ≤ sizeLine; decide), fun t9 nt9 => ?_⟩
      have s9 := same_new nt9 (.tup [.int dd, .non])
      have e9 : (upd H8 t9 (.tup [.int dd, .non])) t9 = some (.tup [.int dd, diedV none]) := upd_same
      generalize (upd H8 t9 (.tup [.int dd, .non])) = H9 at s9 e9
      refine ⟨_, rfl, _, rfl, _, _, rfl, rfl, (by show 2 ≤ sizeLine; decide), fun t10 nt10 => ?_⟩
      have s10 := same_new nt10 (.tup [.int (dd - age), .non])
      have e10 : (upd H9 t10 (.tup [.int (dd - age), .non])) t10 = some (.tup [.int (dd - age), diedV none]) := upd_same
      generalize (upd H9 t10 (.tup [.int (dd - age), .non])) = H10 at s10 e10
      refine ⟨_, rfl, _, _, rfl, rfl, _, rfl, (by show 2 ≤ sizeLine; decide), fun t11 nt11 => ?_⟩
      have s11 := same_new nt11 (.tup [.int (dd - 60), .int dd])
      have e11 : (upd H10 t11 (.tup [.int (dd - 60), .int dd])) t11 = some (.tup [.int (dd - 60), diedV (some dd)]) := upd_same
      generalize (upd H10 t11 (.tup [.int (dd - 60), .int dd])) = H11 at s11 e11
      refine ⟨(by show 4 ≤ sizeLine; decide), fun l12 nl12 => ?_⟩
      have s811 := s9.trans (s10.trans s11)
      have P11 : PenAt H11 p := ExtN.pen (.of s811) P8
      have np12 : l12 ≠ p := P11.free nl12
      have s12 := same_new nl12 (.lst [.ref xa, .ref t9, .ref t10, .ref t11])
      have e12 : (upd H11 l12 (.lst [.ref xa, .ref t9, .ref t10, .ref t11])) l12 = some (.lst [.ref xa, .ref t9, .ref t10, .ref t11]) := upd_same
      have P12 : PenAt (upd H11 l12 (.lst [.ref xa, .ref t9, .ref t10, .ref t11])) p := P11.new nl12 _
      generalize (upd H11 l12 (.lst [.ref xa, .ref t9, .ref t10, .ref t11])) = H12 at s12 e12 P12
      refine ⟨_, rfl, _, rfl, p, 4, rfl, P12, by decide, by decide, fun u3 H13 k13 P13 a13 b13 => ?_⟩
      have k612 : Kp p H6 H12 := k68.trans ((Kp.same s811).trans (Kp.same s12))
      have k613 := k612.trans k13
      obtain ⟨v, gv, a0, b0, d0, rfl, ea12⟩ := pick (xs := [.ref xa, .ref t9, .ref t10, .ref t11]) (fun v => ∃ (a : Addr) (b0 : Int) (d0 : Option Int), v = .ref a ∧ H12 a = some (.tup [.int b0, diedV d0])) a13 b13 (am1 ⟨_, _, _, rfl, k612.tup P6 _ _ exa⟩ (am1 ⟨_, _, _, rfl, s12 _ _ (s11 _ _ (s10 _ _ e9))⟩ (am1 ⟨_, _, _, rfl, s12 _ _ (s11 _ _ e10)⟩ (am1 ⟨_, _, _, rfl, s12 _ _ e11⟩ am0))))
      refine ⟨l12, _, u3, _, rfl, rfl, SqL.of (k13 _ _ np12 e12), gv, ?_⟩
      have ea := k13.tup P12 _ _ ea12
      have hpx13 : PersonAt H13 (.ref xa) := hpx.kpT (k613.tup P6)
      refine ⟨fun σ' H' => ∃ c : V, σ' = [some (.ref p), some (.ref fk), some (.int age), some (.ref t), some (.ref l4), some (.ref l5), some (.ref xa), some (.int dd), some (.ref l12), some c, y10] ∧ H' = H13 ∧ PersonAt H13 c, ?_, ?_⟩
      · refine ⟨_, rfl, a0, _, 0, _, rfl, rfl, SqT.of ea, atI_nat (j := 0) rfl, _, rfl, _, _, rfl, rfl, _, rfl, ?_⟩
        refine ite2 (fun c => ?_) (fun c => ?_)
        · exact ⟨_, rfl, _, rfl, rfl, hpx13⟩
        have c1 : ¬ b0 < -9999 := fun h => c (decide_eq_true h)
        refine ⟨_, rfl, a0, _, 0, _, rfl, rfl, SqT.of ea, atI_nat (j := 0) rfl, _, _, rfl, rfl, _, rfl, ?_⟩
        refine ite2 (fun c => ?_) (fun c => ?_)
        · exact ⟨_, rfl, _, rfl, rfl, hpx13⟩
        have c2 : ¬ b0 > 9999 := fun h => c (decide_eq_true h)
        refine ⟨_, rfl, a0, _, 1, _, rfl, rfl, SqT.of ea, atI_nat (j := 1) rfl, rfl, _, rfl, ?_⟩
        cases d0 with
        | none =>
          refine iteF ?_
          exact ⟨_, rfl, rfl, a0, b0, _, rfl, ea, by omega, by omega, .inl rfl⟩
        | some j =>
          refine iteT ?_
          refine ⟨_, rfl, a0, _, 0, _, rfl, rfl, SqT.of ea, atI_nat (j := 0) rfl, _, rfl, a0, _, 1, _, rfl, rfl, SqT.of ea, atI_nat (j := 1) rfl, _, _, rfl, rfl, _, rfl, ?_⟩
          refine ite2 (fun c => ?_) (fun c => ?_)
          · have c3 : b0 < j := of_decide_eq_true c
            refine ⟨_, _, rfl, rfl, _, rfl, ?_⟩
            by_cases c4 : j < 10000
            · rw [decide_eq_true c4]
              refine iteF ?_
              exact ⟨_, rfl, rfl, a0, b0, _, rfl, ea, by omega, by omega, .inr ⟨j, rfl, c3, by omega⟩⟩
            · rw [decide_eq_false c4]
              refine iteT ?_
              exact ⟨_, rfl, _, rfl, rfl, hpx13⟩
          · refine ⟨_, rfl, ?_⟩
            refine iteT ?_
            exact ⟨_, rfl, _, rfl, rfl, hpx13⟩
      · rintro _ H14 ⟨c, rfl, rfl, hc⟩
        have k113 := k6.trans k613
        have el513 := k613 _ _ np5 el5
        refine ⟨_, rfl, .inl ⟨rfl, _, SqL.of el513⟩, _, rfl, l5, _, _, rfl, rfl, el513, small1000 (by omega), ?_⟩
        have kT : KpT H14 (upd H14 l5 (.lst (xs ++ [c]))) := fun b0 xs0 e0 => by
          rw [upd_ne (fun z => by rw [z, el513] at e0; cases e0)]
          exact e0
        refine ⟨xs ++ [c], _, _, _, _, _, rfl, k113.over n15 _, P13.put np5 _, ?_, upd_same, by rw [List.length_append, hxl]; rfl, fun y hy => ?_⟩
        · rw [upd_ne n45]
          exact k613 _ _ np4 el4
        · rcases List.mem_append.mp hy with hy | hy
          · exact ((hxs y hy).kpT (k613.tup P6)).kpT kT
          · rw [List.mem_singleton.mp hy]
            exact hc.kpT kT
    · rintro σ H6 ⟨xs, y6, y7, y8, y9, y10, rfl, k6, P6, el4, el5, hxl, hxs⟩
      refine ⟨_, rfl, l5, _, rfl, .inl ⟨SqL.of el5, fun t7 nt7 => ?_⟩⟩
      have s7 := same_new nt7 (.tup xs)
      have e7 : (upd H6 t7 (.tup xs)) t7 = some (.tup xs) := upd_same
      generalize (upd H6 t7 (.tup xs)) = H7 at s7 e7
      refine ⟨_, rfl, _, rfl, (by show 3 ≤ sizeLine; decide), fun b8 nb8 => ?_⟩
      have s8 := same_new nb8 (.tup [.ref t7, .int age, .ref t])
      have e8 : (upd H7 b8 (.tup [.ref t7, .int age, .ref t])) b8 = some (.tup [.ref t7, .int age, .ref t]) := upd_same
      generalize (upd H7 b8 (.tup [.ref t7, .int age, .ref t])) = H8 at s8 e8
      have s68 := s7.trans s8
      have k18 : Kp p H1 H8 := k6.trans (Kp.same s68)
      have hB8 := hB.kp (k18.tup P1)
      exact q b8 t7 t n age zs H8 (k1.trans k18) (ExtN.pen (.of s68) P6) ⟨e8, ⟨xs, s8 _ _ e7, by omega, fun x hx => (hxs x hx).kpT (Same.tup s68)⟩, hB.n2, hB.n6, hB.age0, hB.age1, hB8.ents, hB8.ent, hB.ok, hB.len⟩ (by omega)
end
end Deed

namespace Deed
open PySem PySem.Spec PyProof.Rows L2 LamX
section
variable {P : Program} {w : World} {K : PySem.W.Frag} {mg : Str → Option Value} {base : Heap} {T : List (Addr × Str)} {fW fI fY fA : Addr} {dW dI dY dA : FuncData}
/-! ### whole numbers, days: where they are such -/
abbrev sWhole : Stmt := topS 6
theorem scWhole : FnScope ["thing"] ["thing"] (defScope sWhole) := ⟨rfl, rfl, rfl, by decide +kernel, rfl, by decide +kernel, by decide +kernel⟩
def spWholeI : Sp := fun vs H Q _ => ∃ i : Int, vs = [.int i] ∧ Q (.bl true) H
theorem ok_wholeI {f : Addr} {fd : FuncData} {k : Nat} (F : Fun K "is_whole" "is_whole" sWhole f fd) (mi : mg "isinstance" = none) (mn : mg "int" = none) (mb : mg "bool" = none) : FnOk P w K mg base CX0 (k + 1) f fd ["thing"] spWholeI := by
  refine F.ok scWhole (fun vs H Q E h => ?_) (fun cdv A outer s H vs Q E hr h => ?_)
  · obtain ⟨i, rfl, _⟩ := h
    rfl
  · obtain ⟨i, rfl, q⟩ := h
    refine ⟨_, pss_one (ps_ret (pe_and (pe_callB call_isi (by rfl) mi (by decide +kernel) (pa_cons (pv 0) (pa_cons (pe_bltn (v := .ty "int") (by rfl) mn (by decide +kernel) rfl) pa_nil))) (pe_one (pe_not (pe_callB call_isi (by rfl) mi (by decide +kernel) (pa_cons (pv 0) (pa_cons (pe_bltn (v := .ty "bool") (by rfl) mb (by decide +kernel) rfl) pa_nil))))))), ?_⟩
    refine ⟨_, rfl, _, _, _, _, true, rfl, .ty "int", .base (.int i), kit_ty (by decide +kernel), _, rfl, ?_⟩
    refine iteT ?_
    exact ⟨_, rfl, _, _, _, _, false, rfl, .ty "bool", .base (.int i), kit_ty (by decide +kernel), _, rfl, q⟩
abbrev sWithin : Stmt := topS 7
theorem scWithin : FnScope ["thing", "low", "high"] ["thing", "low", "high"] (defScope sWithin) := ⟨rfl, rfl, rfl, by decide +kernel, rfl, by decide +kernel, by decide +kernel⟩
def spWithinI : Sp := fun vs H Q _ => ∃ i lo hi : Int, vs = [.int i, .int lo, .int hi] ∧ lo ≤ i ∧ i ≤ hi ∧ Q (.bl true) H
theorem ok_withinI {f : Addr} {fd : FuncData} {k : Nat} (F : Fun K "is_within" "is_within" sWithin f fd) (DW : Df K mg "is_whole" sWhole ["thing"] fW dW) (mi : mg "isinstance" = none) (mn : mg "int" = none) (mb : mg "bool" = none) : FnOk P w K mg base CX0 (k + 2) f fd ["thing", "low", "high"] spWithinI := by
  have GW : FnOk P w K mg base CX0 (k + 1) fW dW ["thing"] spWholeI := ok_wholeI DW.F mi mn mb
  refine F.ok scWithin (fun vs H Q E h => ?_) (fun cdv A outer s H vs Q E hr h => ?_)
  · obtain ⟨i, lo, hi, rfl, _⟩ := h
    rfl
  · obtain ⟨i, lo, hi, rfl, h1, h2, q⟩ := h
    refine ⟨_, pss_one (ps_ret (pe_and (pe_call GW hr (by rfl) DW.g DW.F.kp DW.b .nil pass0 (pa_cons (pv 0) pa_nil)) (pe_one (pe_chain op_le op_le (pv 1) (pv 0) (pv 2))))), ?_⟩
    refine ⟨_, rfl, i, rfl, true, rfl, ?_⟩
    refine iteT ?_
    refine ⟨_, rfl, _, rfl, _, _, rfl, rfl, _, rfl, ?_⟩
    rw [decide_eq_true h1]
    refine iteT ?_
    refine ⟨_, rfl, _, _, rfl, rfl, ?_⟩
    dsimp only
    rw [decide_eq_true h2]
    exact q
abbrev sIsDay : Stmt := topS 8
theorem scIsDay : FnScope ["thing"] ["thing"] (defScope sIsDay) := ⟨rfl, rfl, rfl, by decide +kernel, rfl, by decide +kernel, by decide +kernel⟩
def spDayI : Sp := fun vs H Q _ => ∃ i : Int, vs = [.int i] ∧ 0 ≤ i ∧ i ≤ 9999 ∧ Q (.bl true) H
theorem ok_dayI {f : Addr} {fd : FuncData} {k : Nat} (F : Fun K "is_day" "is_day" sIsDay f fd) (DI : Df K mg "is_within" sWithin ["thing", "low", "high"] fI dI) (DW : Df K mg "is_whole" sWhole ["thing"] fW dW) (mi : mg "isinstance" = none) (mn : mg "int" = none) (mb : mg "bool" = none) (mL : MgInt mg "LAST_DAY" 9999) : FnOk P w K mg base CX0 (k + 3) f fd ["thing"] spDayI := by
  have GI : FnOk P w K mg base CX0 (k + 2) fI dI ["thing", "low", "high"] spWithinI := ok_withinI DI.F DW mi mn mb
  refine F.ok scIsDay (fun vs H Q E h => ?_) (fun cdv A outer s H vs Q E hr h => ?_)
  · obtain ⟨i, rfl, _⟩ := h
    rfl
  · obtain ⟨i, rfl, h0, h1, q⟩ := h
    refine ⟨_, pss_one (ps_ret (pe_call GI hr (by rfl) DI.g DI.F.kp DI.b .nil pass0 (pa_cons (pv 0) (pa_cons pe_int (pa_cons (pe_num (by rfl) mL) pa_nil))))), ?_⟩
    exact ⟨_, rfl, i, 0, 9999, rfl, h0, h1, q⟩
abbrev sCheckDay : Stmt := topS 15
theorem scCheckDay : FnScope ["thing"] ["thing"] (defScope sCheckDay) := ⟨rfl, rfl, rfl, by decide +kernel, rfl, by decide +kernel, by decide +kernel⟩
def spCkDay : Sp := fun vs H Q _ => ∃ i : Int, vs = [.int i] ∧ 0 ≤ i ∧ i ≤ 9999 ∧ Q .non H
theorem ok_ckDay {f : Addr} {fd : FuncData} {k : Nat} (F : Fun K "check_day" "check_day" sCheckDay f fd) (DY : Df K mg "is_day" sIsDay ["thing"] fY dY) (DI : Df K mg "is_within" sWithin ["thing", "low", "high"] fI dI) (DW : Df K mg "is_whole" sWhole ["thing"] fW dW) (mi : mg "isinstance" = none) (mn : mg "int" = none) (mb : mg "bool" = none) (mL : MgInt mg "LAST_DAY" 9999) : FnOk P w K mg base CX0 (k + 4) f fd ["thing"] spCkDay := by
  have GY : FnOk P w K mg base CX0 (k + 3) fY dY ["thing"] spDayI := ok_dayI DY.F DI DW mi mn mb mL
  refine F.ok scCheckDay (fun vs H Q E h => ?_) (fun cdv A outer s H vs Q E hr h => ?_)
  · obtain ⟨i, rfl, _⟩ := h
    rfl
  · obtain ⟨i, rfl, h0, h1, q⟩ := h
    refine ⟨_, pss_one (ps_if (pt_not (pt_val (pe_call GY hr (by rfl) DY.g DY.F.kp DY.b .nil pass0 (pa_cons (pv 0) pa_nil)))) pss_never pss_nil), ?_⟩
    refine ⟨_, rfl, i, rfl, h0, h1, _, rfl, ?_⟩
    exact iteF q
end
end Deed

namespace Deed
open PySem PySem.Spec PyProof.Rows L2 LamX
/-- an own class of refusals over ValueError, made with a text -/
structure ExcCl (K : PySem.W.Frag) (mg : Str → Option Value) (x : Str) (C : Addr) : Prop where
  xP : PySem.W.excIn K C [.type "ValueError", .type "Exception", .type "BaseException", .type "object"] "ValueError.__new__" = true
  gP : mg x = some (.ref C)
  kP : PySem.W.keepIn K (.ref C) = true
  bP : PySem.W.subIn K (.ref C) (.type "BaseException") = some true
  tP : PySem.W.typeIn K (.ref C) = some (.type "type")
  eP : PySem.W.exmOne K (.ref C) (.ref C) = some true
/-- a thing of whatever kind: a number, or none -/
inductive Th (K : PySem.W.Frag) (H : Hp) : V → Option Int → Prop where
  | int (i : Int) : Th K H (.int i) (some i)
  | oth {v : V} {t : String} {b : Bool} : TyX K H v (.type t) → kitB t "int" = some b → kitB t "bool" = some b → Th K H v none
def withB (lo hi : Int) : Option Int → Bool
  | some i => decide (lo ≤ i) && decide (i ≤ hi)
  | none => false
section
variable {P : Program} {w : World} {K : PySem.W.Frag} {mg : Str → Option Value} {base : Heap} {T : List (Addr × Str)} {fW fI fY fA : Addr} {dW dI dY dA : FuncData}
def spWholeT (K : PySem.W.Frag) : Sp := fun vs H Q _ => ∃ (v : V) (o : Option Int), vs = [v] ∧ Th K H v o ∧ Q (.bl o.isSome) H
theorem ok_wholeT {f : Addr} {fd : FuncData} {k : Nat} (F : Fun K "is_whole" "is_whole" sWhole f fd) (mi : mg "isinstance" = none) (mn : mg "int" = none) (mb : mg "bool" = none) : FnOk P w K mg base CX0 (k + 1) f fd ["thing"] (spWholeT K) := by
  refine F.ok scWhole (fun vs H Q E h => ?_) (fun cdv A outer s H vs Q E hr h => ?_)
  · obtain ⟨v, o, rfl, _⟩ := h
    rfl
  · obtain ⟨v, o, rfl, hT, q⟩ := h
    refine ⟨_, pss_one (ps_ret (pe_and (pe_callB call_isi (by rfl) mi (by decide +kernel) (pa_cons (pv 0) (pa_cons (pe_bltn (v := .ty "int") (by rfl) mn (by decide +kernel) rfl) pa_nil))) (pe_one (pe_not (pe_callB call_isi (by rfl) mi (by decide +kernel) (pa_cons (pv 0) (pa_cons (pe_bltn (v := .ty "bool") (by rfl) mb (by decide +kernel) rfl) pa_nil))))))), ?_⟩
    cases hT with
    | int i =>
      refine ⟨_, rfl, _, _, _, _, true, rfl, .ty "int", .base (.int i), kit_ty (by decide +kernel), _, rfl, ?_⟩
      refine iteT ?_
      exact ⟨_, rfl, _, _, _, _, false, rfl, .ty "bool", .base (.int i), kit_ty (by decide +kernel), _, rfl, q⟩
    | oth ht h1 h2 =>
      refine ⟨_, rfl, _, _, _, _, _, rfl, .ty "int", ht, kit_ty h1, _, rfl, ?_⟩
      refine ite2 (fun c => ?_) (fun c => ?_)
      · refine ⟨_, rfl, _, _, _, _, _, rfl, .ty "bool", ht, kit_ty h2, _, rfl, ?_⟩
        rw [c]
        exact q
      · exact q
def spWithinT (K : PySem.W.Frag) : Sp := fun vs H Q _ => ∃ (v : V) (o : Option Int) (lo hi : Int), vs = [v, .int lo, .int hi] ∧ Th K H v o ∧ Q (.bl (withB lo hi o)) H
theorem ok_withinT {f : Addr} {fd : FuncData} {k : Nat} (F : Fun K "is_within" "is_within" sWithin f fd) (DW : Df K mg "is_whole" sWhole ["thing"] fW dW) (mi : mg "isinstance" = none) (mn : mg "int" = none) (mb : mg "bool" = none) : FnOk P w K mg base CX0 (k + 2) f fd ["thing", "low", "high"] (spWithinT K) := by
  have GW : FnOk P w K mg base CX0 (k + 1) fW dW ["thing"] (spWholeT K) := ok_wholeT DW.F mi mn mb
  refine F.ok scWithin (fun vs H Q E h => ?_) (fun cdv A outer s H vs Q E hr h => ?_)
  · obtain ⟨v, o, lo, hi, rfl, _⟩ := h
    rfl
  · obtain ⟨v, o, lo, hi, rfl, hT, q⟩ := h
    refine ⟨_, pss_one (ps_ret (pe_and (pe_call GW hr (by rfl) DW.g DW.F.kp DW.b .nil pass0 (pa_cons (pv 0) pa_nil)) (pe_one (pe_chain op_le op_le (pv 1) (pv 0) (pv 2))))), ?_⟩
    refine ⟨_, rfl, v, o, rfl, hT, _, rfl, ?_⟩
    cases hT with
    | int i =>
      refine iteT ?_
      refine ⟨_, rfl, _, rfl, _, _, rfl, rfl, _, rfl, ?_⟩
      have q : Q (.bl (decide (lo ≤ i) && decide (i ≤ hi))) H := q
      refine ite2 (fun c => ?_) (fun c => ?_)
      · have c' : decide (lo ≤ i) = true := c
        rw [c', Bool.true_and] at q
        exact ⟨_, rfl, _, _, rfl, rfl, q⟩
      · have c' : decide (lo ≤ i) = false := Bool.eq_false_iff.mpr c
        rw [c', Bool.false_and] at q
        exact q
    | oth ht h1 h2 => exact iteF q
def spDayT (K : PySem.W.Frag) : Sp := fun vs H Q _ => ∃ (v : V) (o : Option Int), vs = [v] ∧ Th K H v o ∧ Q (.bl (withB 0 9999 o)) H
theorem ok_dayT {f : Addr} {fd : FuncData} {k : Nat} (F : Fun K "is_day" "is_day" sIsDay f fd) (DI : Df K mg "is_within" sWithin ["thing", "low", "high"] fI dI) (DW : Df K mg "is_whole" sWhole ["thing"] fW dW) (mi : mg "isinstance" = none) (mn : mg "int" = none) (mb : mg "bool" = none) (mL : MgInt mg "LAST_DAY" 9999) : FnOk P w K mg base CX0 (k + 3) f fd ["thing"] (spDayT K) := by
  have GI : FnOk P w K mg base CX0 (k + 2) fI dI ["thing", "low", "high"] (spWithinT K) := ok_withinT DI.F DW mi mn mb
  refine F.ok scIsDay (fun vs H Q E h => ?_) (fun cdv A outer s H vs Q E hr h => ?_)
  · obtain ⟨v, o, rfl, _⟩ := h
    rfl
  · obtain ⟨v, o, rfl, hT, q⟩ := h
    refine ⟨_, pss_one (ps_ret (pe_call GI hr (by rfl) DI.g DI.F.kp DI.b .nil pass0 (pa_cons (pv 0) (pa_cons pe_int (pa_cons (pe_num (by rfl) mL) pa_nil))))), ?_⟩
    exact ⟨_, rfl, v, o, 0, 9999, rfl, hT, q⟩
def spCkDayT (K : PySem.W.Frag) (C : Addr) : Sp := fun vs H Q E => ∃ (v : V) (o : Option Int), vs = [v] ∧ Th K H v o ∧ (withB 0 9999 o = true → Q .non H) ∧ (withB 0 9999 o = false → E (.ref C) none H)
theorem ok_ckDayT {f C : Addr} {fd : FuncData} {k : Nat} (F : FunD K "check_day" "check_day" (defArgs sCheckDay) (defBody sCheckDay) (defScope sCheckDay) [] [] f fd) (N : ExcCl K mg "NoDay" C) (DY : Df K mg "is_day" sIsDay ["thing"] fY dY) (DI : Df K mg "is_within" sWithin ["thing", "low", "high"] fI dI) (DW : Df K mg "is_whole" sWhole ["thing"] fW dW) (mi : mg "isinstance" = none) (mn : mg "int" = none) (mb : mg "bool" = none) (mL : MgInt mg "LAST_DAY" 9999) : FnOk P w K mg base (L2.CX P w) (k + 4) f fd ["thing"] (spCkDayT K C) := by
  have GY : FnOk P w K mg base CX0 (k + 3) fY dY ["thing"] (spDayT K) := ok_dayT DY.F DI DW mi mn mb mL
  refine F.ok scCheckDay (fun vs H Q E h => ?_) (fun cdv A outer s H vs Q E hr h => ?_)
  · obtain ⟨v, o, rfl, _⟩ := h
    rfl
  · obtain ⟨v, o, rfl, hT, q1, q0⟩ := h
    refine ⟨_, pss_one (ps_if (pt_not (pt_val (pe_call GY hr (by rfl) DY.g DY.F.kp DY.b .nil pass0 (pa_cons (pv 0) pa_nil)))) (pss_one (ps_raise rfl (takes_of rfl rfl rfl rfl) (pmk_own PySem.F.excBase_ValueError N.xP N.gP N.kP (raises_own N.bP N.tP) rfl))) pss_nil), ?_⟩
    refine ⟨_, rfl, v, o, rfl, hT, _, rfl, ?_⟩
    cases hb : withB 0 9999 o with
    | true => exact iteF (q1 hb)
    | false =>
      refine iteT ?_
      exact q0 hb
end
end Deed

namespace Deed
open PySem PySem.Spec PyProof.Rows L2
/-! ### zip of lists and tuples in whatever mix: true is a list -/
def Sq2 (K : PySem.W.Frag) : Bool → Hp → Addr → List V → Prop
  | true, H, a, xs => SqL K H a xs
  | false, H, a, xs => SqT K H a xs
def IsB : Bool → Heap → Addr → Array Value → Prop
  | true, h, a, its => h.IsList a its
  | false, h, a, its => h.IsTuple a its
def IterB : Bool → Heap → Addr → Addr → Nat → Prop
  | true, h, it, a, i => h.IsListIter it a i
  | false, h, it, a, i => h.IsTupleIter it a i
theorem IterB.at {c : Bool} {h h' : Heap} {it a : Addr} {i : Nat} (x : IterB c h it a i) (k : ∀ o, h.get? it = some o → h'.get? it = some o) : IterB c h' it a i := by
  cases c with
  | true => exact Heap.IsListIter.at x k
  | false => exact Heap.IsTupleIter.at x k
theorem IterB.obj {c : Bool} {h : Heap} {it a : Addr} {i : Nat} (x : IterB c h it a i) : ∃ o, h.get? it = some o ∧ ∀ v, o.data ≠ .cell v := by
  cases c with
  | true =>
    obtain ⟨o, e, _, dt⟩ := x
    exact ⟨o, e, fun v q => by rw [dt] at q; cases q⟩
  | false =>
    obtain ⟨o, e, _, dt⟩ := x
    exact ⟨o, e, fun v q => by rw [dt] at q; cases q⟩
theorem drawsB {prog : Program} {w : World} {A : Around} (hh : A.handled = none) (c : Bool) (it l : Addr) (hne : l ≠ it) (items : Array Value) : Draws prog w A it [it, l] items.size (fun i v => items[i]? = some v) (fun i h => IterB c h it l i ∧ IsB c h l items) := by
  cases c with
  | true => exact Draws.list hh it l hne items
  | false => exact Draws.tuple hh it l hne items
section
variable {X : Cx} {pins : List (Addr × Obj)} {σ : L2.St} {H : Hp} {s : Shared}
theorem sq2_is {c : Bool} {a : Addr} {xs : List V} (I : Inv X pins σ H s) (q : Sq2 X.K c H a xs) : ∃ its, Vals xs its ∧ IsB c s.heap a its.toArray ∧ a < s.heap.objs.size := by
  cases c with
  | true =>
    obtain ⟨its, rv, pp, _⟩ := I.list q
    exact ⟨its, rv, pp.isList, pp.lt⟩
  | false =>
    obtain ⟨its, rv, pp, _⟩ := I.tuple q
    obtain ⟨oo, ho, _⟩ := id pp
    exact ⟨its, rv, pp, Heap.lt_size ho⟩
theorem sq2_inj {c : Bool} {a : Addr} {xs ys : List V} (I : Inv X pins σ H s) (q : Sq2 X.K c H a xs) (q' : Sq2 X.K c H a ys) : xs = ys := by
  cases c with
  | true => exact I.list_inj q q'
  | false => exact I.tuple_inj q q'
end
def ItzB (K : PySem.W.Frag) (c1 c2 : Bool) (a b : Addr) : It :=
  ⟨fun i H => ∃ (xs ys : List V) (x y : V), Sq2 K c1 H a xs ∧ Sq2 K c2 H b ys ∧ xs[i]? = some x ∧ ys[i]? = some y,
    fun i H v H' => ∃ T x y, v = .ref T ∧ H T = none ∧ H' = upd H T (.tup [x, y]) ∧ (∀ xs, Sq2 K c1 H a xs → xs[i]? = some x) ∧ ∀ ys, Sq2 K c2 H b ys → ys[i]? = some y,
    fun i H => ∃ xs ys : List V, Sq2 K c1 H a xs ∧ Sq2 K c2 H b ys ∧ i ≤ xs.length ∧ i ≤ ys.length ∧ (xs.length = i ∨ ys.length = i)⟩
theorem turn_zipB {P : Program} {w : World} {K : PySem.W.Frag} {elts : List Expr} {kk : Nat} {tpos : Pos} {c1 c2 : Bool} {a b z TI TO i1 i2 : Addr} (S : ZipSep2 z TI TO i1 i2 [i1, a] [i2, b]) (na : a ≠ i1) (nb : b ≠ i2) :
    Turn P w K (.Tuple elts kk tpos) (ItzB K c1 c2 a b) [z, TI, TO, i1, i2] z (fun i h => IsZip h z TI TO .none ∧ IsTupOf2 h TI (.ref i1) (.ref i2) ∧ (∃ x y, IsTupOf2 h TO x y) ∧ IterB c1 h i1 a i ∧ IterB c2 h i2 b i) where
  mem := List.mem_cons_self
  obj := fun i h st c hc => by
    obtain ⟨hz, hTI, ⟨x, y, hTO⟩, k1, k2⟩ := st
    rcases (show c = z ∨ c = TI ∨ c = TO ∨ c = i1 ∨ c = i2 by simpa using hc) with rfl | rfl | rfl | rfl | rfl
    · exact ⟨_, hz, fun v q => by cases q⟩
    · exact ⟨_, hTI, fun v q => by cases q⟩
    · exact ⟨_, hTO, fun v q => by cases q⟩
    · exact k1.obj
    · exact k2.obj
  keep := fun i h h' st k => by
    obtain ⟨hz, hTI, ⟨x, y, hTO⟩, k1, k2⟩ := st
    refine ⟨k z (by simp) _ hz, k TI (by simp) _ hTI, ⟨x, y, k TO (by simp) _ hTO⟩, ?_, ?_⟩
    · exact k1.at (k i1 (by simp))
    · exact k2.at (k i2 (by simp))
  item := by
    intro X eP ew eK cal i pins s σ H E I hf st hg
    subst eP ew eK
    obtain ⟨hz, hTI, ⟨x0, y0, hTO⟩, k1, k2⟩ := st
    obtain ⟨xs, ys, x, y, qa, qb, gx, gy⟩ := hg
    obtain ⟨va, ra, pa, _⟩ := sq2_is I qa
    obtain ⟨vb, rb, pb, _⟩ := sq2_is I qb
    obtain ⟨u, hu, ru⟩ := ra.get gx
    obtain ⟨t, ht, rt⟩ := rb.get gy
    have hh : X.A.in1.handled = none := I.ok.hd cal
    have zl : z < s.heap.objs.size := Heap.lt_size hz
    have li : i < va.toArray.size := by simpa using (List.getElem?_eq_some_iff.mp hu).1
    have lj : i < vb.toArray.size := by simpa using (List.getElem?_eq_some_iff.mp ht).1
    refine wpAny_pyNext_zipD2_item S (drawsB hh c1 i1 a na va.toArray) (drawsB hh c2 i2 b nb vb.toArray) hz hTI hTO ⟨k1, pa⟩ ⟨k2, pb⟩ li lj fun x1 x2 h1 tk p1 p2 z1 TO1 st1 st2 hT hsz hk => ?_
    obtain rfl : u = x1 := by simpa [hu] using p1
    obtain rfl : t = x2 := by simpa [ht] using p2
    refine ⟨_, rfl, wpAny_letOwnedTupleGo_zip (s := { s with heap := h1, toks := tk }) z1 fun h2 z2 sb => ?_⟩
    have hT2 : h2.get? s.heap.objs.size = some { cls := .type "tuple", data := .seq #[u, t] } := (sb.2 _ (Nat.ne_of_gt zl)).trans hT
    have ok : ObjOk X.prog X.w (upd H s.heap.objs.size (.tup [x, y])) h2 s.heap.objs.size (.tup [x, y]) := ⟨by show 2 ≤ sizeLine; decide, [u, t], .cons ru (.cons rt .nil), ⟨_, hT2, rfl, _, rfl⟩⟩
    have I2 : Inv X pins σ (upd H s.heap.objs.size (.tup [x, y])) { s with heap := h2, toks := tk } := by
      refine I.turnedNew (ch := [z, TI, TO, i1, i2]) (fun c o hc q => ?_) hf (Nat.le_refl _) ok
      simp only [List.mem_cons, List.not_mem_nil, or_false, not_or] at hc
      exact (sb.2 c hc.1).trans (hk c o hc.1 hc.2.2.1 hc.2.2.2.1 hc.2.2.2.2 q)
    refine ⟨.ref s.heap.objs.size, _, I2, rfl, ⟨_, x, y, rfl, I.hok.fresh (Nat.le_refl _), rfl, fun l hl => ?_, fun l hl => ?_⟩, ⟨z2, ?_, ⟨u, t, ?_⟩, ?_, ?_⟩, fun c hc => ?_⟩
    · rw [sq2_inj I hl qa]
      exact gx
    · rw [sq2_inj I hl qb]
      exact gy
    · exact (sb.2 _ S.TIz).trans (hk _ _ S.TIz S.TITO S.TIi1 S.TIi2 hTI)
    · exact (sb.2 _ S.TOz).trans TO1
    · exact st1.1.at fun o q => (sb.2 _ S.zi1.symm).trans q
    · exact st2.1.at fun o q => (sb.2 _ S.zi2.symm).trans q
    · have hlt : c < s.heap.objs.size := by
        obtain ⟨o1, e1, _⟩ := k1.obj
        obtain ⟨o2, e2, _⟩ := k2.obj
        rcases (show c = z ∨ c = TI ∨ c = TO ∨ c = i1 ∨ c = i2 by simpa using hc) with rfl | rfl | rfl | rfl | rfl
        · exact zl
        · exact Heap.lt_size hTI
        · exact Heap.lt_size hTO
        · exact Heap.lt_size e1
        · exact Heap.lt_size e2
      rw [upd_ne (Nat.ne_of_lt hlt)]
      exact (hf c hc).1
  done := by
    intro X eP ew eK cal i pins s σ H E I hf st hg
    subst eP ew eK
    obtain ⟨hz, hTI, ⟨x0, y0, hTO⟩, k1, k2⟩ := st
    obtain ⟨xs, ys, qa, qb, l1, l2, hend⟩ := hg
    obtain ⟨va, ra, pa, _⟩ := sq2_is I qa
    obtain ⟨vb, rb, pb, _⟩ := sq2_is I qb
    have hh : X.A.in1.handled = none := I.ok.hd cal
    have la := ra.length
    have lb := rb.length
    refine wpAny_pyNext_zipD2_end S (drawsB hh c1 i1 a na va.toArray) (drawsB hh c2 i2 b nb vb.toArray) hz hTI hTO ⟨k1, pa⟩ ⟨k2, pb⟩ (by simp; omega) (by simp; omega) (by simp; omega) fun h1 tk hk => ⟨rfl, ?_⟩
    refine I.turnedL (ch := [z, TI, TO, i1, i2]) (fun c o hc q => ?_) hf
    simp only [List.mem_cons, List.not_mem_nil, or_false, not_or] at hc
    exact hk c o hc.1 hc.2.2.1 hc.2.2.2.1 hc.2.2.2.2 q
  self := fun A i s Q E st q => wpAny_pyIter_zip st.1 q
theorem begB (c : Bool) (l : Addr) (its : Array Value) : ∃ o, Begins (.ref l) o (fun h => IsB c h l its) ∧ ∀ h it, h.get? it = some o → IterB c h it l 0 := by
  cases c with
  | true => exact ⟨_, begins_list l its, fun h it e => ⟨_, e, rfl, rfl⟩⟩
  | false => exact ⟨_, begins_tuple l its, fun h it e => ⟨_, e, rfl, rfl⟩⟩
theorem sep_new {m a b : Nat} (la : a < m) (lb : b < m) : ZipSep2 (m + 4) (m + 2) (m + 3) m (m + 1) [m, a] [m + 1, b] := by
  constructor <;> simp <;> (try constructor) <;> (try (first | (refine Nat.ne_of_gt ?_; omega) | (refine Nat.ne_of_lt ?_; omega)))
def iZipB (K : PySem.W.Frag) (c1 c2 : Bool) (ta : TA) : TI := fun σ H R => ta σ H fun vs H1 => ∃ a b xs ys, vs = [.ref a, .ref b] ∧ Sq2 K c1 H1 a xs ∧ Sq2 K c2 H1 b ys ∧ R (ItzB K c1 c2 a b) H1
theorem pi_zipB (c1 c2 : Bool) {X : Cx} {e e2 : Expr} {ta : TA} {p pos tpos : Pos} {elts : List Expr} {kk : Nat} (hg : Gl X "zip") (hm : X.mg "zip" = none) (ha : PA X [e, e2] ta)
    (hs : starEach [e, e2] X.env = (false, eval e X.env) :: starEach [e2] X.env := by rfl) (hp : (backTo pos (starEach [e2] X.env)).any (·.1) = false := by rfl) : PI X (.Tuple elts kk tpos) (.Call (.Name "zip" p) [e, e2] [] pos) (iZipB X.K c1 c2 ta) := by
  refine ⟨fun pins s σ H R I h => Call_ (ld_blt I hg hm PyProof.Rows.boot_zip (PyProof.Rows.callWith_type1 (thn (ha.run pos pins s σ H _ I h) fun us s1 ⟨vs, H1, I1, r1, q1⟩ => ?_) hs hp))⟩
  obtain ⟨a, b, xs, ys, ex, qa, qb, q⟩ := q1
  subst ex
  obtain ⟨va, ra, pa, la⟩ := sq2_is I1 qa
  obtain ⟨vb, rb, pb, lb⟩ := sq2_is I1 qb
  obtain ⟨o1, B1, it1⟩ := begB c1 a va.toArray
  obtain ⟨o2, B2, it2⟩ := begB c2 b vb.toArray
  cases r1 with
  | cons r rr =>
    cases rr with
    | cons r' rr =>
      cases rr
      cases r
      cases r'
      refine zip_begins2 B1 B2 pa pb fun h1 hz hTI hTO g1 g2 hsz hk => wpAny_pyIter_zip hz ?_
      have I2 : Inv X pins σ H1 { s1 with heap := h1 } := I1.kept (t' := s1.toks) hk
      have S := sep_new la lb
      refine ⟨s1.heap.objs.size + 4, [s1.heap.objs.size + 4, s1.heap.objs.size + 2, s1.heap.objs.size + 3, s1.heap.objs.size, s1.heap.objs.size + 1], _, _, H1, rfl, I2, turn_zipB S (Nat.ne_of_lt la) (Nat.ne_of_lt (Nat.lt_succ_of_lt lb)), ⟨hz, hTI, ⟨_, _, hTO⟩, it1 _ _ g1, it2 _ _ g2⟩, fun c hc => ?_, q⟩
      have hle : s1.heap.objs.size ≤ c := by
        simp only [List.mem_cons, List.not_mem_nil, or_false] at hc
        rcases hc with rfl | rfl | rfl | rfl | rfl
        · exact Nat.le_add_right _ 4
        · exact Nat.le_add_right _ 2
        · exact Nat.le_add_right _ 3
        · exact Nat.le_refl _
        · exact Nat.le_add_right _ 1
      exact I1.fpOk hle (I1.hok.fresh hle)
theorem walk_zipB {K : PySem.W.Frag} {c1 c2 : Bool} {a b : Addr} {xs ys : List V} {n : Nat} (hx : xs.length = n) (hy : ys.length = n) : Walk (ItzB K c1 c2 a b) n (fun H => Sq2 K c1 H a xs ∧ Sq2 K c2 H b ys) (YPair (fun i => xs[i]?) (fun i => ys[i]?)) := by
  refine ⟨fun i H hi q => ⟨xs, ys, xs[i], ys[i], q.1, q.2, ?_, ?_⟩, fun H q => ⟨xs, ys, q.1, q.2, by omega, by omega, .inl hx⟩, fun i H v H' _ q y => ?_⟩
  · exact List.getElem?_eq_getElem (by omega)
  · exact List.getElem?_eq_getElem (by omega)
  · obtain ⟨T, x, z, t1, t2, t3, t4, t5⟩ := y
    exact ⟨T, x, z, t1, t2, t3, t4 xs q.1, t5 ys q.2⟩
end Deed

namespace Deed
open PySem PySem.Spec PyProof.Rows L2
/-! ### enumerate of a list or a tuple: true is a list -/
set_option maxHeartbeats 1000000 in
theorem enumNew1 {v : Value} {o : Obj} {G : Heap → Prop} (B : Begins v o G) :
    Meets (Builtin.«enumerate.__new__» ⟨[.type "enumerate", v], []⟩) (fun _ R t => G t.heap ∧ R (.ok (.ret (.ref (t.heap.push o).objs.size))) { t with heap := (t.heap.push o).push { cls := .type "enumerate", data := .fields #[.none, .bool false, .ref t.heap.objs.size, rawInt 0, .none, .none] } }) := by
  refine .of_wp fun prog w A R t h => ?_
  obtain ⟨hp, gs, dd, tk, os⟩ := t
  obtain ⟨hG, hR⟩ := h
  have sb := sub_enumerate
  have it1 : ∀ {A' : Around} {E : Value → Shared → Prop} {Q : Value → Shared → Prop}, Q (.ref hp.objs.size) ⟨hp.push o, gs, dd, tk, os⟩ → wpAny (model prog w) A' (pyIter v) Q E ⟨hp, gs, dd, tk, os⟩ := fun q => B.iter prog w _ _ ⟨hp, gs, dd, tk, os⟩ _ hG q
  wp_walk using it1
  refine wpAny_stack_any fun k => wpAny_pure ?_
  split
  · next c _ _ _ _ _ =>
    cases (c == Value.type "enumerate") <;> (wp_walk using it1; exact ⟨_, rfl, hR⟩)
  · wp_walk using it1
    exact ⟨_, rfl, hR⟩
section
variable {prog : Program} {w : World} {A : Around} {E : Value → Shared → Prop} {s : Shared}
theorem callEnum1 {v : Value} {o : Obj} {G : Heap → Prop} {Q : Value → Shared → Prop} (B : Begins v o G) (hG : G s.heap)
    (q : ∀ h1, IsEnum h1 (s.heap.objs.size + 1) s.heap.objs.size 0 .none → h1.get? s.heap.objs.size = some o → (∀ c x, s.heap.get? c = some x → h1.get? c = some x) → Q (.ref (s.heap.objs.size + 1)) { s with heap := h1 }) : wpAny (model prog w) A (call (.type "enumerate") [v]) Q E s := by
  refine callType_new F.called_enumerate (by decide) (F.typeCall_enumerate_1 v) (F.newCall_enumerate_1 v) (fun ob => F.args_object_init_2 ob v) F.entry_enumerate_new (enumNew1 B) ⟨hG, ?_⟩
  have sz : (s.heap.push o).objs.size = s.heap.objs.size + 1 := Heap.size_push ..
  show _ ∧ _
  rw [sz]
  have en := Heap.get?_push_size (s.heap.push o) (o := { cls := .type "enumerate", data := .fields #[.none, .bool false, .ref s.heap.objs.size, rawInt 0, .none, .none] }) rfl
  rw [sz] at en
  exact ⟨⟨_, en, rfl⟩, q _ en (Heap.get?_push_of_some _ (Heap.get?_push_size _ B.free)) fun c x z => Heap.get?_push_of_some _ (Heap.get?_push_of_some _ z)⟩
end
def ItEB (K : PySem.W.Frag) (c : Bool) (a : Addr) : It :=
  ⟨fun i H => ∃ (xs : List V) (x : V), Sq2 K c H a xs ∧ xs[i]? = some x,
    fun i H v H' => ∃ T x, v = .ref T ∧ H T = none ∧ H' = upd H T (.tup [.int (i : Nat), x]) ∧ ∀ xs, Sq2 K c H a xs → xs[i]? = some x,
    fun i H => ∃ xs : List V, Sq2 K c H a xs ∧ xs.length = i⟩
theorem turn_enumB {P : Program} {w : World} {K : PySem.W.Frag} {elts : List Expr} {kk : Nat} {tpos : Pos} {c : Bool} {a e it : Addr} (ne : e ≠ it) (na : a ≠ it) (nae : a ≠ e) :
    Turn P w K (.Tuple elts kk tpos) (ItEB K c a) [e, it] e (fun i h => (∃ old, IsEnum h e it ((i : Nat) : Int) old) ∧ IterB c h it a i) where
  mem := List.mem_cons_self
  obj := fun i h st b hb => by
    obtain ⟨⟨old, he⟩, k1⟩ := st
    rcases (show b = e ∨ b = it by simpa using hb) with rfl | rfl
    · exact ⟨_, he, fun v q => by cases q⟩
    · exact k1.obj
  keep := fun i h h' st k => by
    obtain ⟨⟨old, he⟩, k1⟩ := st
    exact ⟨⟨old, k e (by simp) _ he⟩, k1.at (k it (by simp))⟩
  item := by
    intro X eP ew eK cal i pins s σ H E I hf st hg
    subst eP ew eK
    obtain ⟨⟨old, he⟩, k1⟩ := st
    obtain ⟨xs, x, qa, gx⟩ := hg
    obtain ⟨va, ra, pa, _⟩ := sq2_is I qa
    obtain ⟨u, hu, ru⟩ := ra.get gx
    have hh : X.A.in1.handled = none := I.ok.hd cal
    have el : e < s.heap.objs.size := Heap.lt_size he
    have li : i < va.toArray.size := by simpa using (List.getElem?_eq_some_iff.mp hu).1
    refine wpAny_pyNext_enum_itemD (drawsB hh c it a na va.toArray) he ⟨k1, pa⟩ li ne (by simp [ne, nae.symm]) fun x1 h1 tk p1 ho st1 hT hsz hk => ?_
    obtain rfl : u = x1 := by simpa [hu] using p1
    refine ⟨_, rfl, wpAny_letOwnedTupleGo_enum (s := { s with heap := h1, toks := tk + 1 }) ho fun h2 e2 sb => ?_⟩
    have hT2 : h2.get? s.heap.objs.size = some { cls := .type "tuple", data := .seq #[.int i tk, u] } := (sb.2 _ (Nat.ne_of_gt el)).trans hT
    have ok : ObjOk X.prog X.w (upd H s.heap.objs.size (.tup [.int (i : Nat), x])) h2 s.heap.objs.size (.tup [.int (i : Nat), x]) := ⟨by show 2 ≤ sizeLine; decide, [.int i tk, u], .cons ⟨_, rfl⟩ (.cons ru .nil), ⟨_, hT2, rfl, _, rfl⟩⟩
    have I2 : Inv X pins σ (upd H s.heap.objs.size (.tup [.int (i : Nat), x])) { s with heap := h2, toks := tk + 1 } := by
      refine I.turnedNew (ch := [e, it]) (fun b o hb q => ?_) hf (Nat.le_refl _) ok
      simp only [List.mem_cons, List.not_mem_nil, or_false, not_or] at hb
      exact (sb.2 b hb.1).trans (hk b o hb.1 hb.2 q)
    refine ⟨.ref s.heap.objs.size, _, I2, rfl, ⟨_, x, rfl, I.hok.fresh (Nat.le_refl _), rfl, fun l hl => ?_⟩, ⟨⟨u, ?_⟩, ?_⟩, fun b hb => ?_⟩
    · rw [sq2_inj I hl qa]
      exact gx
    · rw [show ((i + 1 : Nat) : Int) = (i : Int) + 1 from rfl]
      exact e2
    · exact st1.1.at fun o q => (sb.2 _ ne.symm).trans q
    · have hlt : b < s.heap.objs.size := by
        obtain ⟨o1, e1, _⟩ := k1.obj
        rcases (show b = e ∨ b = it by simpa using hb) with rfl | rfl
        · exact el
        · exact Heap.lt_size e1
      rw [upd_ne (Nat.ne_of_lt hlt)]
      exact (hf b hb).1
  done := by
    intro X eP ew eK cal i pins s σ H E I hf st hg
    subst eP ew eK
    obtain ⟨⟨old, he⟩, k1⟩ := st
    obtain ⟨xs, qa, rfl⟩ := hg
    obtain ⟨va, ra, pa, _⟩ := sq2_is I qa
    have hh : X.A.in1.handled = none := I.ok.hd cal
    have la : va.toArray.size = xs.length := by simpa using ra.length.symm
    refine wpAny_pyNext_enum_endD (drawsB hh c it a na va.toArray) he ⟨by rw [la]; exact k1, pa⟩ fun h1 ex => ⟨rfl, ?_⟩
    refine I.turnedL (t' := s.toks) (ch := [e, it]) (fun b o hb q => ?_) hf
    simp only [List.mem_cons, List.not_mem_nil, or_false, not_or] at hb
    exact ex b o hb.2 q
  self := fun A i s Q E st q => by
    obtain ⟨⟨old, he⟩, _⟩ := st
    exact wpAny_pyIter_enum he q
def iEnumB (K : PySem.W.Frag) (c : Bool) (ta : TA) : TI := fun σ H R => ta σ H fun vs H1 => ∃ a xs, vs = [.ref a] ∧ Sq2 K c H1 a xs ∧ R (ItEB K c a) H1
theorem pi_enumB (c : Bool) {X : Cx} {x : Expr} {ta : TA} {p pos tpos : Pos} {elts : List Expr} {kk : Nat} (hg : Gl X "enumerate") (hm : X.mg "enumerate" = none) (ha : PA X [x] ta) (hs : starEach [x] X.env = [(false, eval x X.env)] := by rfl) : PI X (.Tuple elts kk tpos) (.Call (.Name "enumerate" p) [x] [] pos) (iEnumB X.K c ta) := by
  refine ⟨fun pins s σ H R I h => Call_ (ld_blt I hg hm boot_enumerate (PyProof.Rows.callWith_type1 (thn (ha.run pos pins s σ H _ I h) fun us s1 ⟨vs, H1, I1, r1, q1⟩ => ?_) hs rfl))⟩
  obtain ⟨a, xs, ex, qa, q⟩ := q1
  subst ex
  obtain ⟨va, ra, pa, la⟩ := sq2_is I1 qa
  obtain ⟨o1, B1, it1⟩ := begB c a va.toArray
  cases r1 with
  | cons r rr =>
    cases rr
    cases r
    refine callEnum1 B1 pa fun h1 he g1 hk => wpAny_pyIter_enum he ?_
    have I2 : Inv X pins σ H1 { s1 with heap := h1 } := I1.kept (t' := s1.toks) hk
    refine ⟨s1.heap.objs.size + 1, [s1.heap.objs.size + 1, s1.heap.objs.size], _, _, H1, rfl, I2, turn_enumB (Nat.succ_ne_self _) (Nat.ne_of_lt la) (Nat.ne_of_lt (Nat.lt_succ_of_lt la)), ⟨⟨.none, he⟩, it1 _ _ g1⟩, fun b hb => ?_, q⟩
    have hle : s1.heap.objs.size ≤ b := by
      rcases (show b = s1.heap.objs.size + 1 ∨ b = s1.heap.objs.size by simpa using hb) with rfl | rfl
      · exact Nat.le_add_right _ 1
      · exact Nat.le_refl _
    exact I1.fpOk hle (I1.hok.fresh hle)
theorem walk_enumB {K : PySem.W.Frag} {c : Bool} {a : Addr} {xs : List V} : Walk (ItEB K c a) xs.length (fun H => Sq2 K c H a xs) (YPair (fun i => some (.int (i : Nat))) (fun i => xs[i]?)) := by
  refine ⟨fun i H hi q => ⟨xs, xs[i], q, List.getElem?_eq_getElem hi⟩, fun H q => ⟨xs, q, rfl⟩, fun i H v H' _ q y => ?_⟩
  obtain ⟨T, x, t1, t2, t3, t4⟩ := y
  exact ⟨T, .int (i : Nat), x, t1, t2, t3, rfl, t4 xs q⟩
end Deed

namespace Deed
open PySem PySem.Spec PyProof.Rows L2 LamX
/-- who could witness on a day -/
def couldL (ps : List Pn) (age day : Int) : List Nat := (List.range ps.length).filter fun j => decide (flt (pnOf ps (j : Int)) age day = "")
section
variable {P : Program} {w : World} {K : PySem.W.Frag} {mg : Str → Option Value} {base : Heap} {T : List (Addr × Str)}
abbrev sCouldW : Stmt := topS 19
abbrev nCouldW : List Str := ["book", "d", "folk", "age", "entries", "number", "person"]
abbrev pCouldW : List Str := ["book", "d"]
theorem scCouldW : FnScope nCouldW pCouldW (defScope sCouldW) := ⟨rfl, rfl, rfl, by decide +kernel, rfl, by decide +kernel, by decide +kernel⟩
def spCouldW (K : PySem.W.Frag) (C : Addr) : Sp := fun vs H Q E => ∃ (b fk t : Addr) (age : Int) (ps : List (Addr × Pn)) (v : V) (o : Option Int), vs = [.ref b, v] ∧ H b = some (.tup [.ref fk, .int age, .ref t]) ∧ FolkIs H fk ps ∧ ps.length ≤ 1000 ∧ Th K H v o ∧ (withB 0 9999 o = false → E (.ref C) none H) ∧
  (∀ i, o = some i → withB 0 9999 o = true → ∀ p H', Same H H' → H p = none → H' p = some (.lst ((couldL (ps.map (·.2)) age i).map fun j => V.int (j : Nat))) → Q (.ref p) H')
theorem ok_CouldW {f C fC : Addr} {fd dC : FuncData} {k : Nat} (F : FunD K "could_witness" "could_witness" (defArgs sCouldW) (defBody sCouldW) (defScope sCouldW) [] [] f fd) (G : FnOk P w K mg base (L2.CX P w) k fC dC ["thing"] (spCkDayT K C)) (gC : mg "check_day" = some (.ref fC)) (kC : PySem.W.keepIn K (.ref fC) = true) (bC : Binds K dC ["thing"] []) (C_fault_of : CallOk P w K mg base k "fault_of" pFaultOf spFaultOf) (m_enumerate : mg "enumerate" = none) : FnOk P w K mg base (L2.CX P w) (k + 1) f fd pCouldW (spCouldW K C) := by
  refine F.ok scCouldW (fun vs H Q E h => ?_) (fun cdv A outer s H vs Q E hr h => ?_)
  · obtain ⟨b, fk, t, age, ps, v, o, rfl, _⟩ := h
    rfl
  · obtain ⟨b, fk, t, age, ps, v, o, rfl, hb, hF, hl, hT, q0, q1⟩ := h
    have nd := scCouldW.nd
    refine ⟨_, pss_cons (ps_expr (pe_callS G hr rfl gC kC bC (fun σ => passAt (takes_of rfl rfl rfl rfl) σ) (pa_cons (pv 1) pa_nil)))
      (PSs.nox (pss_cons (ps_asg (pv 0) (pg_tup (by rfl) (pgs_cons (pg_name (i := 2) nd rfl (.inl rfl)) (pgs_cons (pg_name (i := 3) nd rfl (.inr rfl)) (pgs_cons (pg_name (i := 4) nd rfl (.inl rfl)) pgs_nil)))))
      (pss_one (ps_ret (pe_lc (own := [("number", 5), ("person", 6)]) (g := gTup K 2 (gCons (gName 5) (gCons (gName 6) gNil))) (by rfl) nd (pi_enumB false (by rfl) m_enumerate (pa_cons (pv 2) pa_nil)) (blkOk_by (own := [("number", 5), ("person", 6)]) (N := nCouldW) (sc := defScope sCouldW) (by decide +kernel)) (fun _ _ _ _ _ => (pg_tup (by rfl) (pgs_cons (pg_name (i := 5) nd rfl (.inl rfl)) (pgs_cons (pg_name (i := 6) nd rfl (.inl rfl)) pgs_nil)))) (fun _ _ _ _ _ => (pts_one (pt_cmpR op_isN (pe_call C_fault_of.ok hr (by rfl) C_fault_of.g C_fault_of.kp C_fault_of.b .nil pass0 (pa_cons (pv 6) (pa_cons (pv 3) (pa_cons (pv 1) pa_nil)))) pe_non (nomark _))))
          (fun _ _ _ _ _ => (pv 5))))))), ?_⟩
    refine ⟨_, rfl, v, o, rfl, hT, fun good => ?_, fun bad => q0 bad⟩
    cases hT with
    | oth ht h1 h2 => cases good
    | int i =>
      refine ⟨_, rfl, b, _, rfl, SqT.of hb, rfl, _, _, rfl, _, _, rfl, _, _, rfl, rfl, ?_⟩
      have hm : (ps.map fun z => V.ref z.1).length = ps.length := List.length_map _
      refine ⟨_, rfl, fk, _, rfl, SqT.of hF.at_, fun M nM => ?_⟩
      refine lc_sameV (walk_enumB (c := false) (xs := ps.map fun z => V.ref z.1)) (List.range ps.length) (fun j => decide (flt (pnOf (ps.map (·.2)) (j : Int)) age i = "")) (fun j => .int (j : Nat)) (by rw [List.length_range, hm]) (by rw [List.length_range]; exact hl) nM (fun H s => SqT.of (s _ _ hF.at_)) ?_ ?_
      · rintro j y x H2 H2' hy s2 ⟨T0, xx, yy, rfl, nT, rfl, hxx, hyy⟩ Q1 Q0 q1' q0'
        obtain rfl : j = y := by
          have h9 := (List.getElem?_eq_some_iff.mp hy).2
          rw [List.getElem_range] at h9
          exact h9
        injection hxx with hxx
        subst hxx
        dsimp only at hyy
        rw [List.getElem?_map] at hyy
        cases hz : ps[j]? with
        | none => rw [hz] at hyy; cases hyy
        | some z =>
          rw [hz] at hyy
          injection hyy with hyy
          subst hyy
          have hpn : pnOf (ps.map (·.2)) (j : Int) = z.2 := by
            unfold pnOf
            rw [Int.toNat_natCast, List.getElem?_map, hz]
            rfl
          have s3 := same_new nT (.tup [.int (j : Nat), .ref z.1])
          have eT : (upd H2 T0 (.tup [.int (j : Nat), .ref z.1])) T0 = some (.tup [.int (j : Nat), .ref z.1]) := upd_same
          generalize (upd H2 T0 (.tup [.int (j : Nat), .ref z.1])) = H3 at s3 eT
          have hz3 : PnAt H3 z.1 z.2 := s3 _ _ (s2 _ _ (hF.one z (List.mem_of_getElem? hz)))
          refine ⟨T0, _, rfl, SqT.of eT, rfl, _, _, rfl, _, _, rfl, rfl, rfl, ?_⟩
          refine ⟨_, rfl, _, rfl, _, rfl, z.1, z.2, age, i, rfl, hz3, rfl, _, rfl, ?_⟩
          unfold fltV
          by_cases c : flt z.2 age i = ""
          · rw [if_pos c]
            refine iteT ?_
            exact ⟨_, rfl, q1' (by rw [hpn]; exact decide_eq_true c) _ s3⟩
          · rw [if_neg c]
            refine iteF ?_
            exact q0' (by rw [hpn]; exact decide_eq_false c) _ s3
      intro H2 s2 eM
      refine q1 i rfl good M H2 s2 nM ?_
      rw [eM]
      unfold couldL
      rw [List.length_map]
end
end Deed

namespace Deed
open PySem PySem.Spec PyProof.Rows L2 LamX
section
variable {P : Program} {w : World} {K : PySem.W.Frag} {mg : Str → Option Value} {base : Heap} {T : List (Addr × Str)}
abbrev sLRef : Stmt := topS 34
abbrev pLRef : List Str := ["_law_book_here", "_law_thing_here"]
theorem scLRef : FnScope pLRef pLRef (defScope sLRef) := ⟨rfl, rfl, rfl, by decide +kernel, rfl, by decide +kernel, by decide +kernel⟩
def spLRef (K : PySem.W.Frag) : Sp := fun vs H Q _ => ∃ (b fk t : Addr) (age : Int) (ps : List (Addr × Pn)) (v : V) (o : Option Int), vs = [.ref b, v] ∧ H b = some (.tup [.ref fk, .int age, .ref t]) ∧ FolkIs H fk ps ∧ ps.length ≤ 1000 ∧ Th K H v o ∧ ∀ H', Same H H' → Q (.bl (!withB 0 9999 o)) H'
theorem ok_LRef {f fP C : Addr} {fd dP : FuncData} {k : Nat} (F : Fun K "_law_is_refused" "_law_is_refused" sLRef f fd) (N : ExcCl K mg "NoDay" C) (G : FnOk P w K mg base (L2.CX P w) k fP dP pCouldW (spCouldW K C)) (gA : mg "could_witness" = some (.ref fP)) (kA : PySem.W.keepIn K (.ref fP) = true) (bA : Binds K dP pCouldW []) : FnOk P w K mg base CX0 (k + 1) f fd pLRef (spLRef K) := by
  refine F.ok scLRef (fun vs H Q E h => ?_) (fun cdv A outer s H vs Q E hr h => ?_)
  · obtain ⟨b, fk, t, age, ps, v, o, rfl, _⟩ := h
    rfl
  · obtain ⟨b, fk, t, age, ps, v, o, rfl, hb, hF, hl, hT, q⟩ := h
    refine ⟨_, pss_cons (ps_try_only rfl rfl ⟨rfl, by decide, .inl N.gP⟩ L2.takes0 (fun W pn xe tk _ => pss_one (ps_expr (pe_callS G hr rfl gA kA bA (fun σ => passAt tk σ) (pa_cons (pv 0) (pa_cons (pv 1) pa_nil))))) (fun a oe cls d pn _ _ => pss_one (ps_ret pe_bl)))
      (pss_one (ps_ret pe_bl)), ?_⟩
    refine ⟨_, rfl, _, rfl, b, fk, t, age, ps, v, o, rfl, hb, hF, hl, hT, fun bad => ⟨true, N.eP, fun _ a ha => ?_, fun z => nomatch z⟩, fun i hi good p H' s' np ep => ?_⟩
    · rw [bad] at q
      exact q _ (same_refl _)
    · rw [good] at q
      exact q _ s'
end
end Deed

namespace Deed
open PySem PySem.Spec PyProof.Rows L2 LamX
section
variable {P : Program} {w : World} {K : PySem.W.Frag} {mg : Str → Option Value} {base : Heap} {T : List (Addr × Str)}
theorem th_non {K : PySem.W.Frag} {H : Hp} : ∃ o, Th K H .non o := ⟨none, .oth (b := false) (.base .non) (by decide +kernel) (by decide +kernel)⟩
theorem th_bl {K : PySem.W.Frag} {H : Hp} (b : Bool) : ∃ o, Th K H (.bl b) o := ⟨none, .oth (b := true) (.base (.bl b)) (by decide +kernel) (by decide +kernel)⟩
theorem th_str {K : PySem.W.Frag} {H : Hp} (x : Str) : ∃ o, Th K H (.str x) o := ⟨none, .oth (b := false) (.base (.str x)) (by decide +kernel) (by decide +kernel)⟩
theorem th_tup {K : PySem.W.Frag} {H : Hp} {a : Addr} {xs : List V} (e : H a = some (.tup xs)) : ∃ o, Th K H (.ref a) o := ⟨none, .oth (b := false) (.base (.tup e)) (by decide +kernel) (by decide +kernel)⟩
theorem th_lst {K : PySem.W.Frag} {H : Hp} {a : Addr} {xs : List V} (e : H a = some (.lst xs)) : ∃ o, Th K H (.ref a) o := ⟨none, .oth (b := false) (.base (.lst e)) (by decide +kernel) (by decide +kernel)⟩
theorem th_dct {K : PySem.W.Frag} {H : Hp} {a : Addr} {kvs : List (Key × V)} (e : H a = some (.dK kvs)) : ∃ o, Th K H (.ref a) o := ⟨none, .oth (b := false) (.base (.dK e)) (by decide +kernel) (by decide +kernel)⟩
theorem th_int {K : PySem.W.Frag} {H : Hp} (i : Int) : ∃ o, Th K H (.int i) o := ⟨some i, .int i⟩
abbrev sLThing : Stmt := topS 33
abbrev nLThing : List Str := ["_law_pen_here", "_law_deep", "_law_way", "_law_parts", "_law_k"]
abbrev pLThing : List Str := ["_law_pen_here", "_law_deep"]
theorem scLThing : FnScope nLThing pLThing (defScope sLThing) := ⟨rfl, rfl, rfl, by decide +kernel, rfl, by decide +kernel, by decide +kernel⟩
def spLThing (K : PySem.W.Frag) (n : Nat) : Sp := fun vs H Q _ => ∃ (p : Addr) (deep : Int), vs = [.ref p, .int deep] ∧ PenAt H p ∧ 0 ≤ deep ∧ deep < n ∧ ∀ v H', Kp p H H' → PenAt H' p → (∃ o, Th K H' v o) → Q v H'
theorem ok_LThing {f : Addr} {fd : FuncData} {k : Nat} (D : Df K mg "_law_thing" sLThing pLThing f fd) (cDr : ∀ n, CDraw P w K mg base (k + n)) (m_range : mg "range" = none) (m_tuple : mg "tuple" = none) : ∀ n : Nat, FnOk P w K mg base CX0 (k + n + 1) f fd pLThing (spLThing K n)
  | 0 => by
    refine D.F.ok scLThing (fun vs H Q E h => ?_) (fun cdv A outer s H vs Q E hr h => ?_)
    · obtain ⟨p, deep, rfl, _⟩ := h
      rfl
    · obtain ⟨p, deep, rfl, _, h0, h1, _⟩ := h
      omega
  | n + 1 => by
    have C__law_thing : CallOk P w K mg base (k + (n + 1)) "_law_thing" pLThing (spLThing K n) := D.call (ok_LThing D cDr m_range m_tuple n)
    have C__law_draw := cDr (n + 1)
    refine D.F.ok scLThing (fun vs H Q E h => ?_) (fun cdv A outer s H vs Q E hr h => ?_)
    · obtain ⟨p, deep, rfl, _⟩ := h
      rfl
    · obtain ⟨p, deep, rfl, hP, h0, h1, q⟩ := h
      have nd := scLThing.nd
      refine ⟨_, pss_cons (ps_set (i := 2) nd rfl (.inl rfl) (pe_call C__law_draw.ok hr (by rfl) C__law_draw.g C__law_draw.kp C__law_draw.b .nil pass0 (pa_cons (pv 0) (pa_cons pe_int pa_nil))))
      (pss_cons (ps_if (PW.pt (pw_or (pt_cmpR op_lt (pv 2) pe_int (nomark _)) (pw_or1 (pt_cmpR op_eq (pv 1) pe_int (nomark _))))) (pss_one (ps_ret (pe_ix ix_list (pe_lst (pa_cons pe_non (pa_cons pe_bl (pa_cons pe_bl (pa_cons pe_int (pa_cons pe_int (pa_cons (pe_un un_neg pe_int) (pa_cons pe_int (pa_cons (pe_op op_pow pe_int pe_int) (pa_cons pe_str (pa_cons pe_str (pa_cons (pe_tup pa_nil) (pa_cons (pe_lst pa_nil) pa_nil))))))))))))) (pe_call C__law_draw.ok hr (by rfl) C__law_draw.g C__law_draw.kp C__law_draw.b .nil pass0 (pa_cons (pv 0) (pa_cons pe_int pa_nil))) (fun _ _ => rfl)))) pss_nil)
      (pss_cons (ps_setLc (i := 3) (own := [("_law_k", 4)]) (g := gName 4) (by rfl) nd rfl rfl (sw_true rfl rfl rfl (by decide +kernel)) (pi_range1 rfl m_range (pa_cons (pe_call C__law_draw.ok hr (by rfl) C__law_draw.g C__law_draw.kp C__law_draw.b .nil pass0 (pa_cons (pv 0) (pa_cons pe_int pa_nil))) pa_nil)) (blkOk_by (own := [("_law_k", 4)]) (N := nLThing) (sc := defScope sLThing) (by decide +kernel)) (fun _ _ _ _ _ => (pg_name (i := 4) nd rfl (.inl rfl))) (fun _ _ _ _ _ => pts_nil)
          (fun _ _ _ _ _ => (pe_call C__law_thing.ok hr (by rfl) C__law_thing.g C__law_thing.kp C__law_thing.b .nil pass0 (pa_cons (pv 0) (pa_cons (pe_op op_sub (pv 1) pe_int) pa_nil)))))
      (pss_cons (ps_if (pt_cmpR op_eq (pv 2) pe_int (nomark _)) (pss_one (ps_ret (pv 3))) pss_nil)
      (pss_cons (ps_if (pt_cmpR op_eq (pv 2) pe_int (nomark _)) (pss_one (ps_ret (pe_disp (pps_cons pe_str (pv 3) pps_nil) rfl rfl (by simp) (by decide)))) pss_nil)
      (pss_one (ps_ret (pe_callTy call_tuple_of (by rfl) m_tuple (by decide +kernel) (pa_cons (pv 3) pa_nil)))))))), ?_⟩
      refine ⟨_, rfl, p, 12, rfl, hP, by decide, by decide, fun way H1 k1 P1 a1 b1 => ?_⟩
      refine ⟨_, rfl, _, _, rfl, rfl, _, rfl, ?_⟩
      refine ite2 (fun c => ?_) (fun c => ⟨_, rfl, rfl, _, rfl, ite2 (fun c2 => ?_) (fun c2 => ?_)⟩)
      rotate_right 1
      · have hd : deep ≠ 0 := fun h => c2 (decide_eq_true (congrArg V.int h))
        refine ⟨_, rfl, p, 4, rfl, P1, by decide, by decide, fun m H2 k2 P2 a2 b2 => ?_⟩
        refine ⟨_, rfl, by omega, by omega, fun M nM => ?_⟩
        have nMp : M ≠ p := P2.free nM
        refine lc_range (lo := 0) (n := m.toNat) (fun i H' => ∃ xs : List V, H' M = some (.lst xs) ∧ Kp p H2 H' ∧ PenAt H' p ∧ xs.length = i) ⟨[], upd_same, Kp.new nM _, P2.new nM _, rfl⟩ ?_ ?_
        · rintro i H3 hi ⟨xs, eM, k3, P3, hl⟩
          refine ⟨rfl, ?_⟩
          unfold tYes
          dsimp only
          rw [if_pos rfl]
          refine ⟨_, rfl, _, rfl, _, _, rfl, rfl, p, deep - 1, rfl, P3, by omega, by omega, fun v H4 k4 P4 hv => ?_⟩
          exact ⟨_, k4 _ _ nMp eM, small1000 (by omega), xs ++ [v], upd_same, (k3.trans k4).over nM _, P4.put nMp _, by rw [List.length_append, hl]; rfl⟩
        rintro H3 ⟨xs, eM, k3, P3, hl⟩
        have k03 := k1.trans (k2.trans k3)
        refine ⟨_, rfl, rfl, _, rfl, ite2 (fun c => ⟨_, rfl, q _ H3 k03 P3 (th_lst eM)⟩) (fun c => ⟨_, rfl, rfl, _, rfl, ite2 (fun c => ?_) (fun c => ?_)⟩)⟩
        · intro d nd'
          have ndp : d ≠ p := P3.free nd'
          exact ⟨_, rfl, upd_same, [(Sum.inr "a", .ref M)], rfl, (by show 1 ≤ 15; omega), q _ _ ((k03.trans (Kp.new nd' _)).over (k03.none ndp nd') _) ((P3.new nd' _).put ndp _) (th_dct upd_same)⟩
        · exact ⟨_, rfl, M, _, rfl, .inl ⟨SqL.of eM, fun t nt => q _ _ (k03.trans (Kp.new nt _)) (P3.new nt _) (th_tup upd_same)⟩⟩
      all_goals
        refine ⟨_, rfl, _, _, rfl, rfl, ⟨by decide, by decide, by decide⟩, Nat.zero_le _, fun t1 nt1 => ?_⟩
        have P2 := P1.new nt1 (.tup [])
        have k2 : Kp p H1 (upd H1 t1 (.tup [])) := Kp.new nt1 _
        have e2 : (upd H1 t1 (.tup [])) t1 = some (.tup []) := upd_same
        generalize (upd H1 t1 (.tup [])) = H2 at P2 k2 e2
        refine ⟨Nat.zero_le _, fun l2 nl2 => ?_⟩
        have P3 := P2.new nl2 (.lst [])
        have k3 : Kp p H2 (upd H2 l2 (.lst [])) := Kp.new nl2 _
        have s3 := same_new nl2 (.lst [])
        have e3 : (upd H2 l2 (.lst [])) l2 = some (.lst []) := upd_same
        have np2 : l2 ≠ p := P2.free nl2
        generalize (upd H2 l2 (.lst [])) = H3 at P3 k3 s3 e3
        refine ⟨(by show 12 ≤ sizeLine; decide), fun l3 nl3 => ?_⟩
        have np3 : l3 ≠ p := P3.free nl3
        have s4 := same_new nl3 (.lst [.non, .bl true, .bl false, .int 0, .int 1, .int (-1), .int 9, .int (10 ^ (39 : Int).toNat), .str "", .str "a", .ref t1, .ref l2])
        refine ⟨_, rfl, p, 12, rfl, P3.new nl3 _, by decide, by decide, fun u H5 k5 P5 a5 b5 => ?_⟩
        obtain ⟨v, gv, hv⟩ := pick (xs := [.non, .bl true, .bl false, .int 0, .int 1, .int (-1), .int 9, .int (10 ^ (39 : Int).toNat), .str "", .str "a", .ref t1, .ref l2]) (fun v => ∃ o, Th K H5 v o) a5 b5 (am1 th_non (am1 (th_bl _) (am1 (th_bl _) (am1 (th_int _) (am1 (th_int _) (am1 (th_int _) (am1 (th_int _) (am1 (th_int _) (am1 (th_str _) (am1 (th_str _) (am1 (th_tup (k5.tup (P3.new nl3 _) _ _ (s4 _ _ (s3 _ _ e2)))) (am1 (th_lst (k5 _ _ np2 (s4 _ _ e3))) am0))))))))))))
        exact ⟨l3, _, u, v, rfl, rfl, SqL.of (k5 _ _ np3 upd_same), gv, q v H5 (k1.trans (k2.trans (k3.trans ((Kp.new nl3 _).trans k5)))) P5 hv⟩
end
end Deed

namespace Deed
open PySem PySem.Spec PySem.W PyProof.Rows L2 LamX
/-! ### sorted(xs) of tuples of one kind -/
def rSortedDp {β : Type} (K : PySem.W.Frag) (enc : β → PyData) : List V → Hp → VK → Prop := fun vs H Q => ∃ (a : Addr) (zs : List (V × β)), vs = [V.ref a] ∧ SqL K H a (zs.map (·.1)) ∧ (∀ z ∈ zs, Dp K H z.1 (enc z.2)) ∧ (∀ b b', alike (enc b) (enc b') = true) ∧ (∀ b, ∃ x r, enc b = .tuple (x :: r)) ∧ (∀ b, (enc b).depth ≤ 8) ∧
  ∀ (ys : List (V × β)) (p : Addr), ys.Perm zs → ys.Pairwise (fun u v => dataLt (enc v.2) (enc u.2) = false) → H p = none → Q (.ref p) (upd H p (.lst (ys.map (·.1))))
theorem each_zip {β : Type} : ∀ {zs : List (V × β)} {us : List Value}, Vals (zs.map (·.1)) us → EachIs (fun u (z : V × β) => RelV z.1 u) us zs
  | [], _, h => by
    cases h
    exact .nil
  | z :: r, _, h => by
    cases h with
    | cons h1 h2 => exact .cons h1 (each_zip h2)
theorem zip_each {β : Type} : ∀ {zs : List (V × β)} {us : List Value}, EachIs (fun u (z : V × β) => RelV z.1 u) us zs → Vals (zs.map (·.1)) us
  | _, _, .nil => .nil
  | _, _, .cons h t => .cons h (zip_each t)
theorem each_and {α β : Type} {R S : α → β → Prop} {as : List α} {bs : List β} (h : EachIs R as bs) (hS : ∀ b ∈ bs, ∀ a, R a b → S a b) : EachIs S as bs := by
  induction h with
  | nil => exact .nil
  | cons h1 _ ih => exact .cons (hS _ List.mem_cons_self _ h1) (ih fun b hb a => hS b (List.mem_cons_of_mem _ hb) a)
theorem cr_sortedDp {β : Type} (enc : β → PyData) {X : Cx} (hu : X.A.units + 64 < cLine) : CallR X (.builtin "sorted") (rSortedDp X.K enc) := by
  intro pins s σ H vs us Q I r h
  obtain ⟨a, zs, rfl, hs, hD, hal, hsr, hdp, q⟩ := h
  obtain ⟨its, rv, hl, hz⟩ := I.list hs
  rw [Vals.ref1 r]
  have e := each_zip rv
  have hz' : zs.length ≤ sizeLine := by rw [List.length_map] at hz; exact hz
  refine sorted_data (bs := zs) (R := fun u (z : V × β) => RelV z.1 u) (enc := fun z => enc z.2) hl.isList e (each_and e fun z hzz u hR => Dp.reads I _ _ _ (hD z hzz) hR) (AllAlike.of fun z z' => hal _ _) (Sortable.tuples fun z => hsr _) hz' (fun z _ => ?_) fun out ho eo => ?_
  · have := hdp z.2
    show X.A.units + 2 + _ < _
    omega
  · have hp : (zs.mergeSort (dataLe false fun z => enc z.2)).Perm zs := List.mergeSort_perm _ _
    have hpw : (zs.mergeSort (dataLe false fun z => enc z.2)).Pairwise (fun a b => dataLe false (fun z : V × β => enc z.2) a b = true) := sort_pairwise (sortLe_total _ _ _) zs
    obtain ⟨ep, he'⟩ := PyProof.Rows.sortedAll_at s.heap its out.toArray
    have hlen : ((zs.mergeSort (dataLe false fun z => enc z.2)).map (·.1)).length ≤ sizeLine := by
      rw [List.length_map, hp.length_eq]
      exact hz'
    refine ⟨.ref _, upd H (s.heap.objs.size + 1) (.lst ((zs.mergeSort (dataLe false fun z => enc z.2)).map (·.1))), I.laid (t' := s.toks) (fun _ _ => PyProof.Rows.sortedAll_old) (Nat.le_succ _) ⟨hlen, out, ep, zip_each eo, he'⟩, rfl, q _ _ hp (hpw.imp fun h => ?_) (I.hok.fresh (Nat.le_succ _))⟩
    rw [dataLe_eq] at h
    simpa using h
theorem sort_one {α : Type} {le lt : α → α → Prop} (h : ∀ a b, lt a b → ¬ le b a) : ∀ {l m : List α}, l.Perm m → l.Pairwise le → m.Pairwise lt → l = m
  | [], m, p, _, _ => (List.Perm.eq_nil p.symm).symm
  | x :: l, [], p, _, _ => absurd p.length_eq (by simp)
  | y :: l, x :: m, p, h1, h2 => by
    have a1 := List.pairwise_cons.mp h1
    have a2 := List.pairwise_cons.mp h2
    have e : y = x := by
      rcases List.mem_cons.mp (p.mem_iff.mp List.mem_cons_self) with e | hy
      · exact e
      · rcases List.mem_cons.mp (p.mem_iff.mpr List.mem_cons_self) with e | hx
        · exact e.symm
        · exact absurd (a1.1 x hx) (h x y (a2.1 y hy))
    subst e
    rw [sort_one h p.cons_inv a1.2 a2.2]
theorem dp_all {K : PySem.W.Frag} {H : Hp} {β : Type} {enc : β → PyData} : ∀ (ys : List (V × β)), (∀ y ∈ ys, Dp K H y.1 (enc y.2)) → DpAll K H (ys.map (·.1)) ((ys.map (·.2)).map enc)
  | [], _ => .nil
  | y :: r, h => .cons (h y List.mem_cons_self) (dp_all r fun x hx => h x (List.mem_cons_of_mem _ hx))
end Deed

namespace Deed
open PySem PySem.Spec PyProof.Rows L2 LamX
/-! tuples put together and cut, whatever they are: what follows is shown once -/
theorem catA_same {K : PySem.W.Frag} {H : Hp} {a b : Addr} {xs ys : List V} {Q : VK} (ha : H a = some (.tup xs)) (hb : H b = some (.tup ys)) (hl : xs.length + ys.length ≤ 1000) (q : ∀ t H', Same H H' → H' t = some (.tup (xs ++ ys)) → Q (.ref t) H') : rCatA K (.ref a) (.ref b) H Q := by
  refine ⟨a, b, xs, ys, rfl, rfl, SqT.of ha, SqT.of hb, Nat.le_of_lt (small1000 hl), fun e => ?_, fun _ e => ?_, fun _ _ p np => q p _ (same_new np _) upd_same⟩
  · subst e
    exact q b H (same_refl _) hb
  · subst e
    exact q a H (same_refl _) (by rw [List.append_nil]; exact ha)
theorem slA_same {K : PySem.W.Frag} {H : Hp} {a : Addr} {xs : List V} {lo hi : Option Int} {Q : VK} (ha : H a = some (.tup xs)) (q : ∀ t H', Same H H' → H' t = some (.tup (cutV xs lo hi)) → Q (.ref t) H') : rSlA K (.ref a) lo hi H Q := by
  refine ⟨a, xs, rfl, SqT.of ha, fun e => ?_, fun _ p np => q p _ (same_new np _) upd_same⟩
  refine q a H (same_refl _) ?_
  rw [ha]
  unfold cutV
  rw [e.1, e.2, List.drop_zero, Nat.sub_zero, List.take_length]
end Deed

namespace Deed
open PySem PySem.Spec PySem.W PyProof.Rows L2 LamX
/-! rows of faults as data; the order of them -/
def row3D (r : Row3) : PyData := .tuple [.int r.1, .int r.2.1, .str r.2.2]
abbrev rowD_IIS : Row3 → PyData := row3D
def rows3D (rs : List Row3) : PyData := .list (rs.map row3D)
theorem dp_row3 {K : PySem.W.Frag} {H : Hp} {a : Addr} {r : Row3} (h : H a = some (.tup (tup3 r))) : Dp K H (.ref a) (row3D r) := .tup (SqT.of h) (.cons (.int _) (.cons (.int _) (.cons (.str _) .nil)))
theorem dp_rows3 {K : PySem.W.Frag} {H : Hp} : ∀ (zs : List (Addr × Row3)), (∀ z ∈ zs, H z.1 = some (.tup (tup3 z.2))) → DpAll K H (zs.map fun z => V.ref z.1) ((zs.map (·.2)).map row3D)
  | [], _ => .nil
  | z :: r, h => .cons (dp_row3 (h z List.mem_cons_self)) (dp_rows3 r fun x hx => h x (List.mem_cons_of_mem _ hx))
theorem F3At.dp {K : PySem.W.Frag} {H : Hp} {p : Addr} {rs : List Row3} (h : F3At H p rs) : Dp K H (.ref p) (rows3D rs) := by
  obtain ⟨zs, h1, rfl, h3⟩ := h
  exact .lst (SqL.of h1) (dp_rows3 zs h3)
theorem lay_rows3 : ∀ l : List Row3, (∀ q ∈ l, PyData.strOk q.2.2 = true) → PyData.canLayAll0 (l.map row3D) = true
  | [], _ => by simp [PyData.canLayAll0]
  | q :: r, h => by
    have h1 := h q List.mem_cons_self
    simp [PyData.canLayAll0, row3D, PyData.canLay0, h1, lay_rows3 r fun x hx => h x (List.mem_cons_of_mem _ hx)]
theorem depth_rows3 : ∀ l : List Row3, PyData.depthAll (l.map row3D) ≤ 3
  | [] => by simp [PyData.depthAll]
  | q :: r => by
    have h := depth_rows3 r
    simp only [List.map_cons, PyData.depthAll, PyData.depth, row3D]
    omega
theorem shaped_rows3 (l : List Row3) (hok : ∀ q ∈ l, PyData.strOk q.2.2 = true) : SeqAt.shaped (rows3D l) = true := by
  have h1 := depth_rows3 l
  have h2 : PyData.depth (rows3D l) ≤ 64 := by
    unfold rows3D
    simp only [PyData.depth]
    omega
  show (PyData.canLay0 (rows3D l) && decide (PyData.depth (rows3D l) ≤ 64)) = true
  rw [Bool.and_eq_true]
  exact ⟨by unfold rows3D; simp only [PyData.canLay0]; exact lay_rows3 l hok, decide_eq_true h2⟩
theorem eqvAll_rows3 : ∀ l : List Row3, PyData.eqvAll (l.map row3D) (l.map row3D) = true
  | [] => by simp [PyData.eqvAll]
  | q :: r => by simp [PyData.eqvAll, row3D, PyData.eqv, eqvAll_rows3 r]
theorem eqv_rows3 (l : List Row3) : PyData.eqv (rows3D l) (rows3D l) = true := by
  unfold rows3D
  simp only [PyData.eqv]
  exact eqvAll_rows3 l
def lt3 (a b : Row3) : Prop := a.1 < b.1 ∨ (a.1 = b.1 ∧ a.2.1 < b.2.1)
theorem dataLt_row3 {a b : Row3} (h : lt3 a b) : dataLt (row3D a) (row3D b) = true := by
  unfold row3D
  rw [dataLt_tuple, dataLt_cons (by simp [alike])]
  rcases h with h | ⟨h1, h2⟩
  · rw [if_neg (by simp [PyData.eqv]; omega), dataLt_int]
    exact decide_eq_true h
  · rw [if_pos (by simp [PyData.eqv, h1]), dataLt_cons (by simp [alike]), if_neg (by simp [PyData.eqv]; omega), dataLt_int]
    exact decide_eq_true h2
theorem alike_row3 (a b : Row3) : alike (row3D a) (row3D b) = true := by simp [row3D, alike, alikeAll]
theorem tup_row3 (a : Row3) : ∃ x r, row3D a = .tuple (x :: r) := ⟨_, _, rfl⟩
theorem depth_row3 (a : Row3) : (row3D a).depth ≤ 8 := by
  simp only [row3D, PyData.depth, PyData.depthAll]
  omega
theorem flt_ok (z : Pn) (age day : Int) : PyData.strOk (flt z age day) = true := by
  unfold flt
  repeat' split
  all_goals decide +kernel
theorem mem_fl1 {ps : List Pn} {age : Int} {e : En} {x : Int} {r : Row3} (h : r ∈ fl1 ps age e x) : r.1 = e.num ∧ r.2.1 = x ∧ PyData.strOk r.2.2 = true := by
  unfold fl1 at h
  split at h
  · cases h
  · rw [List.mem_singleton.mp h]
    exact ⟨rfl, rfl, flt_ok _ _ _⟩
theorem faultsE_up {ps : List Pn} {age : Int} {e : En} (h : e.wits.Pairwise (· < ·)) : (faultsE ps age e).Pairwise lt3 := by
  unfold faultsE
  rw [List.pairwise_flatMap]
  refine ⟨fun x _ => ?_, h.imp fun {a b} hab x hx y hy => ?_⟩
  · have := fl1_len ps age e x
    match hl : fl1 ps age e x with
    | [] => exact List.Pairwise.nil
    | [r] => simp
    | r :: s :: t =>
      rw [hl] at this
      simp at this
  · obtain ⟨x1, x2, _⟩ := mem_fl1 hx
    obtain ⟨y1, y2, _⟩ := mem_fl1 hy
    exact .inr ⟨by rw [x1, y1], by rw [x2, y2]; exact hab⟩
theorem mem_faultsE {ps : List Pn} {age : Int} {e : En} {r : Row3} (h : r ∈ faultsE ps age e) : r.1 = e.num ∧ PyData.strOk r.2.2 = true := by
  obtain ⟨x, _, hx⟩ := List.mem_flatMap.mp h
  exact ⟨(mem_fl1 hx).1, (mem_fl1 hx).2.2⟩
theorem faultsAll_ok {ps : List Pn} {age : Int} {es : List En} : ∀ q ∈ faultsAll ps age es, PyData.strOk q.2.2 = true := fun q h => by
  obtain ⟨x, _, hx⟩ := List.mem_flatMap.mp h
  exact (mem_faultsE hx).2
theorem faultsAll_up {ps : List Pn} {age : Int} {es : List En} (h1 : es.Pairwise (fun a b => a.num < b.num)) (h2 : ∀ e ∈ es, e.wits.Pairwise (· < ·)) : (faultsAll ps age es).Pairwise lt3 := by
  unfold faultsAll
  rw [List.pairwise_flatMap]
  refine ⟨fun e he => faultsE_up (h2 e he), h1.imp fun {a b} hab x hx y hy => .inl ?_⟩
  rw [(mem_faultsE hx).1, (mem_faultsE hy).1]
  exact hab
theorem faultsE_eq (ps : List Pn) (age : Int) (e : En) : faultsE ps age e = (e.wits.filter fun x => !decide (flt (pnOf ps x) age e.day = "")).map fun x => (e.num, x, flt (pnOf ps x) age e.day) := by
  unfold faultsE
  induction e.wits with
  | nil => rfl
  | cons x r ih =>
    rw [List.flatMap_cons, ih]
    unfold fl1
    by_cases c : flt (pnOf ps x) age e.day = "" <;> simp [c]
theorem faults_len {ps : List Pn} {age : Int} {n : Nat} {ds as : List Int} : ∀ {es : List En}, (∀ e ∈ es, EnOk n ds as e) → (faultsAll ps age es).length ≤ 3 * es.length
  | [], _ => Nat.zero_le _
  | e :: r, h => by
    have ih := faults_len (ps := ps) (age := age) (es := r) fun x hx => h x (List.mem_cons_of_mem _ hx)
    have hw := (h e List.mem_cons_self).wits.1
    have h1 : (faultsE ps age e).length ≤ e.wits.length := by
      rw [faultsE_eq, List.length_map]
      exact List.length_filter_le _ _
    unfold faultsAll at ih ⊢
    rw [List.flatMap_cons, List.length_append, List.length_cons]
    omega
/-- sorted, the rows of one arrangement are those of the rising one -/
theorem faults_sorted {ps : List Pn} {age : Int} {n : Nat} {zs zs' : List (Addr × En)} {ys : List Row3} (hB : BkOk n (ens zs)) (pm : zs'.Perm zs) (so : zs'.Pairwise (fun a b => a.2.num < b.2.num)) (hp : ys.Perm (faultsAll ps age (ens (zs.filter fun z => z.2.isDeed)))) (hs : ys.Pairwise fun u v => dataLt (row3D v) (row3D u) = false) : ys = faultsAll ps age (ens (zs'.filter fun z => z.2.isDeed)) := by
  refine sort_one (lt := lt3) (fun a b h => by rw [dataLt_row3 h]; decide) (hp.trans ?_) hs (faultsAll_up ?_ fun e he => ?_)
  · exact List.Perm.flatMap_right _ ((pm.symm.filter _).map _)
  · exact List.pairwise_map.mpr (so.filter _)
  · obtain ⟨z, hz, rfl⟩ := List.mem_map.mp he
    exact (hB.ok z.2 (List.mem_map.mpr ⟨z, pm.mem_iff.mp (List.mem_filter.mp hz).1, rfl⟩)).wits.2.1
theorem TyX.same {K : PySem.W.Frag} {H H' : Hp} {v : V} {t : Value} (h : TyX K H v t) (s : Same H H') : TyX K H' v t := by
  cases h with
  | base h =>
    refine .base ?_
    cases h with
    | non => exact .non
    | bl x => exact .bl x
    | int i => exact .int i
    | str x => exact .str x
    | flt x => exact .flt x
    | lst e => exact .lst (s _ _ e)
    | frz e => exact .frz (s _ _ e)
    | tup e => exact .tup (s _ _ e)
    | dK e => exact .dK (s _ _ e)
    | dT e => exact .dT (s _ _ e)
    | ins e a b c d f => exact .ins (s _ _ e) a b c d f
  | byt b => exact .byt b
  | set e => exact .set (s _ _ e)
  | kList e c => exact .kList e c
  | kTuple e c => exact .kTuple e c
  | kDict e c => exact .kDict e c
  | fTuple e => exact .fTuple (s _ _ e)
  | fDict e => exact .fDict (s _ _ e)
theorem Th.same {K : PySem.W.Frag} {H H' : Hp} {v : V} {o : Option Int} (h : Th K H v o) (s : Same H H') : Th K H' v o := by
  cases h with
  | int i => exact .int i
  | oth a b c => exact .oth (TyX.same a s) b c
end Deed

namespace Deed
open PySem PySem.Spec PyProof.Rows L2 LamX
section
variable {P : Program} {w : World} {K : PySem.W.Frag} {mg : Str → Option Value} {base : Heap} {T : List (Addr × Str)}
/-- on a day -/
def spCouldW0 : Sp := fun vs H Q _ => ∃ (b fk t : Addr) (age : Int) (ps : List (Addr × Pn)) (i : Int), vs = [.ref b, .int i] ∧ H b = some (.tup [.ref fk, .int age, .ref t]) ∧ FolkIs H fk ps ∧ ps.length ≤ 1000 ∧ 0 ≤ i ∧ i ≤ 9999 ∧
  ∀ p H', Same H H' → H p = none → H' p = some (.lst ((couldL (ps.map (·.2)) age i).map fun j => V.int (j : Nat))) → Q (.ref p) H'
theorem ok_CouldW0 {f : Addr} {fd : FuncData} {k : Nat} (F : Fun K "could_witness" "could_witness" sCouldW f fd) (C_check_day : CallOk P w K mg base k "check_day" ["thing"] spCkDay) (C_fault_of : CallOk P w K mg base k "fault_of" pFaultOf spFaultOf) (m_enumerate : mg "enumerate" = none) : FnOk P w K mg base CX0 (k + 1) f fd pCouldW spCouldW0 := by
  refine F.ok scCouldW (fun vs H Q E h => ?_) (fun cdv A outer s H vs Q E hr h => ?_)
  · obtain ⟨b, fk, t, age, ps, i, rfl, _⟩ := h
    rfl
  · obtain ⟨b, fk, t, age, ps, i, rfl, hb, hF, hl, hi0, hi1, q1⟩ := h
    have nd := scCouldW.nd
    refine ⟨_, pss_cons (ps_expr (pe_call C_check_day.ok hr (by rfl) C_check_day.g C_check_day.kp C_check_day.b .nil pass0 (pa_cons (pv 1) pa_nil)))
      (pss_cons (ps_asg (pv 0) (pg_tup (by rfl) (pgs_cons (pg_name (i := 2) nd rfl (.inl rfl)) (pgs_cons (pg_name (i := 3) nd rfl (.inr rfl)) (pgs_cons (pg_name (i := 4) nd rfl (.inl rfl)) pgs_nil)))))
      (pss_one (ps_ret (pe_lc (own := [("number", 5), ("person", 6)]) (g := gTup K 2 (gCons (gName 5) (gCons (gName 6) gNil))) (by rfl) nd (pi_enumB false (by rfl) m_enumerate (pa_cons (pv 2) pa_nil)) (blkOk_by (own := [("number", 5), ("person", 6)]) (N := nCouldW) (sc := defScope sCouldW) (by decide +kernel)) (fun _ _ _ _ _ => (pg_tup (by rfl) (pgs_cons (pg_name (i := 5) nd rfl (.inl rfl)) (pgs_cons (pg_name (i := 6) nd rfl (.inl rfl)) pgs_nil)))) (fun _ _ _ _ _ => (pts_one (pt_cmpR op_isN (pe_call C_fault_of.ok hr (by rfl) C_fault_of.g C_fault_of.kp C_fault_of.b .nil pass0 (pa_cons (pv 6) (pa_cons (pv 3) (pa_cons (pv 1) pa_nil)))) pe_non (nomark _))))
          (fun _ _ _ _ _ => (pv 5)))))), ?_⟩
    refine ⟨_, rfl, i, rfl, hi0, hi1, ?_⟩
    refine ⟨_, rfl, b, _, rfl, SqT.of hb, rfl, _, _, rfl, _, _, rfl, _, _, rfl, rfl, ?_⟩
    have hm : (ps.map fun z => V.ref z.1).length = ps.length := List.length_map _
    refine ⟨_, rfl, fk, _, rfl, SqT.of hF.at_, fun M nM => ?_⟩
    refine lc_sameV (walk_enumB (c := false) (xs := ps.map fun z => V.ref z.1)) (List.range ps.length) (fun j => decide (flt (pnOf (ps.map (·.2)) (j : Int)) age i = "")) (fun j => .int (j : Nat)) (by rw [List.length_range, hm]) (by rw [List.length_range]; exact hl) nM (fun H s => SqT.of (s _ _ hF.at_)) ?_ ?_
    · rintro j y x H2 H2' hy s2 ⟨T0, xx, yy, rfl, nT, rfl, hxx, hyy⟩ Q1 Q0 q1' q0'
      obtain rfl : j = y := by
        have h9 := (List.getElem?_eq_some_iff.mp hy).2
        rw [List.getElem_range] at h9
        exact h9
      injection hxx with hxx
      subst hxx
      dsimp only at hyy
      rw [List.getElem?_map] at hyy
      cases hz : ps[j]? with
      | none => rw [hz] at hyy; cases hyy
      | some z =>
        rw [hz] at hyy
        injection hyy with hyy
        subst hyy
        have hpn : pnOf (ps.map (·.2)) (j : Int) = z.2 := by
          unfold pnOf
          rw [Int.toNat_natCast, List.getElem?_map, hz]
          rfl
        have s3 := same_new nT (.tup [.int (j : Nat), .ref z.1])
        have eT : (upd H2 T0 (.tup [.int (j : Nat), .ref z.1])) T0 = some (.tup [.int (j : Nat), .ref z.1]) := upd_same
        generalize (upd H2 T0 (.tup [.int (j : Nat), .ref z.1])) = H3 at s3 eT
        have hz3 : PnAt H3 z.1 z.2 := s3 _ _ (s2 _ _ (hF.one z (List.mem_of_getElem? hz)))
        refine ⟨T0, _, rfl, SqT.of eT, rfl, _, _, rfl, _, _, rfl, rfl, rfl, ?_⟩
        refine ⟨_, rfl, _, rfl, _, rfl, z.1, z.2, age, i, rfl, hz3, rfl, _, rfl, ?_⟩
        unfold fltV
        by_cases c : flt z.2 age i = ""
        · rw [if_pos c]
          refine iteT ?_
          exact ⟨_, rfl, q1' (by rw [hpn]; exact decide_eq_true c) _ s3⟩
        · rw [if_neg c]
          refine iteF ?_
          exact q0' (by rw [hpn]; exact decide_eq_false c) _ s3
    intro H2 s2 eM
    refine q1 M H2 s2 nM ?_
    rw [eM]
    unfold couldL
    rw [List.length_map]
end
end Deed

namespace Deed
open PySem PySem.Spec PyProof.Rows L2 LamX
theorem F3At.len {H : Hp} {p : Addr} {rs : List Row3} (h : F3At H p rs) : ∃ xs, H p = some (.lst xs) ∧ xs.length = rs.length := by
  obtain ⟨zs, h1, rfl, _⟩ := h
  exact ⟨_, h1, by simp⟩
section
variable {P : Program} {w : World} {K : PySem.W.Frag} {mg : Str → Option Value} {base : Heap} {T : List (Addr × Str)}
abbrev sLaw : Stmt := topS 35
abbrev nLaw : List Str := ["_law_script", "_law_k", "_law_pen_here", "_law_book_here", "_law_folk_here", "_law_age", "_law_entries", "_law_due", "_law_entry", "_law_rows", "_law_turn", "_law_row", "_law_day_here", "_law_some", "_law_thing_here", "_law_good", "_law_person"]
abbrev pLaw : List Str := ["_law_script"]
theorem scLaw : FnScope nLaw pLaw (defScope sLaw) := ⟨rfl, rfl, rfl, by decide +kernel, rfl, by decide +kernel, by decide +kernel⟩
def spLaw (K : PySem.W.Frag) (T : List (Addr × Str)) : Sp := fun vs H Q _ => ∃ (a : Addr) (ns : List Int), vs = [.ref a] ∧ SqL K H a (ns.map V.int) ∧ ns.length ≤ 63 ∧ Tabs T H ∧ ∀ H', Q (.bl true) H'
theorem ok_law {f : Addr} {fd : FuncData} {k : Nat} (F : Fun K "law" "law" sLaw f fd) (C__law_cell_at : CallOk P w K mg base k "_law_cell_at" ["_law_script", "_law_k"] (spCell K)) (C__law_pen : CallOk P w K mg base k "_law_pen" ["_law_cell"] spPen) (C__law_edgy : CallOk P w K mg base k "_law_edgy" pLEdgy spLEdgy) (C__law_fault : CallOk P w K mg base k "_law_fault" pLFault spLFault) (C_faults_of : CallOk P w K mg base k "faults_of" pFaultsOf (spFaultsOf T)) (C__law_day : CallOk P w K mg base k "_law_day" pDay spDay) (C_could_witness : CallOk P w K mg base k "could_witness" pCouldW spCouldW0) (C__law_thing : CallOk P w K mg base k "_law_thing" pLThing (spLThing K 3)) (C__law_is_refused : CallOk P w K mg base k "_law_is_refused" pLRef (spLRef K))
    (m_len : mg "len" = none) (m_min : mg "min" = none) (m_max : mg "max" = none) (m_range : mg "range" = none) (m_sorted : mg "sorted" = none) (m_enumerate : mg "enumerate" = none) (m_isinstance : mg "isinstance" = none) (m_int : mg "int" = none) (m_bool : mg "bool" = none) : FnOk P w K mg base CX0 (k + 1) f fd pLaw (spLaw K T) := by
  refine F.ok scLaw (fun vs H Q E h => ?_) (fun cdv A outer s H vs Q E hr h => ?_)
  · obtain ⟨a, ns, rfl, _⟩ := h
    rfl
  · obtain ⟨a, ns, rfl, hS, h63, hT, q⟩ := h
    have nd := scLaw.nd
    refine ⟨_, pss_cons (ps_for PassesOwn.never rfl (pi_range1 rfl m_range (pa_cons (pe_callB (call_max2 rfl) (by rfl) m_max (by decide +kernel) (pa_cons pe_int (pa_cons (pe_callB (call_min2 rfl) (by rfl) m_min (by decide +kernel) (pa_cons (pe_callB call_len_seq (by rfl) m_len (by decide +kernel) (pa_cons (pv 0) pa_nil)) (pa_cons pe_int pa_nil))) pa_nil))) pa_nil)) (pg_name (i := 1) nd rfl (.inl rfl))
        (pss_cons (ps_set (i := 2) nd rfl (.inl rfl) (pe_call C__law_pen.ok hr (by rfl) C__law_pen.g C__law_pen.kp C__law_pen.b .nil pass0 (pa_cons (pe_call C__law_cell_at.ok hr (by rfl) C__law_cell_at.g C__law_cell_at.kp C__law_cell_at.b .nil pass0 (pa_cons (pv 0) (pa_cons (pv 1) pa_nil))) pa_nil)))
      (pss_cons (ps_set (i := 3) nd rfl (.inl rfl) (pe_call C__law_edgy.ok hr (by rfl) C__law_edgy.g C__law_edgy.kp C__law_edgy.b .nil pass0 (pa_cons (pv 2) pa_nil)))
      (pss_cons (ps_asg (pv 3) (pg_tup (by rfl) (pgs_cons (pg_name (i := 4) nd rfl (.inr rfl)) (pgs_cons (pg_name (i := 5) nd rfl (.inr rfl)) (pgs_cons (pg_name (i := 6) nd rfl (.inl rfl)) pgs_nil)))))
      (pss_cons (ps_set (i := 7) nd rfl (.inl rfl) (pe_lst pa_nil))
      (pss_cons (ps_for PassesOwn.never rfl (pi_tup (pv 6)) (pg_name (i := 8) nd rfl (.inr rfl))
        (pss_one (ps_if (pt_cmpR op_eq (pe_ix ix_tup (pv 8) pe_int (fun _ _ => rfl)) pe_str (nomark _)) (pss_cons (ps_setLc (i := 9) (own := [("_law_person", 16)]) (g := gName 16) (by rfl) nd rfl rfl (sw_true rfl rfl rfl (by decide +kernel)) (pi_tup (pe_ix ix_tup (pv 8) pe_int (fun _ _ => rfl))) (blkOk_by (own := [("_law_person", 16)]) (N := nLaw) (sc := defScope sLaw) (by decide +kernel)) (fun _ _ _ _ _ => (pg_name (i := 16) nd rfl (.inl rfl))) (fun _ _ _ _ _ => pts_nil)
          (fun _ _ _ _ _ => (pe_tup (pa_cons (pe_ix (ix_tupK (K := K) (by rfl)) (pv 8) pe_int (fun _ _ => rfl)) (pa_cons (pv 16) (pa_cons (pe_call C__law_fault.ok hr (by rfl) C__law_fault.g C__law_fault.kp C__law_fault.b .nil pass0 (pa_cons (pe_ix (ix_tupK (K := K) (by rfl)) (pv 4) (pv 16) (fun _ _ => rfl)) (pa_cons (pe_ix (ix_tupK (K := K) (by rfl)) (pv 8) pe_int (fun _ _ => rfl)) (pa_cons (pv 5) pa_nil)))) pa_nil))))))
      (pss_one (ps_set (i := 7) nd rfl (.inl rfl) (pe_op op_cat (pv 7) (pe_lc (own := [("_law_row", 11)]) (g := gName 11) (by rfl) nd (pi_list (pv 9)) (blkOk_by (own := [("_law_row", 11)]) (N := nLaw) (sc := defScope sLaw) (by decide +kernel)) (fun _ _ _ _ _ => (pg_name (i := 11) nd rfl (.inl rfl))) (fun _ _ _ _ _ => (pts_one (pt_cmpR op_ne (pe_ix (ix_tupK (K := K) (by rfl)) (pv 11) pe_int (fun _ _ => rfl)) pe_str (nomark _))))
          (fun _ _ _ _ _ => (pv 11))))))) pss_nil)))
      (pss_cons (ps_for PassesOwn.never rfl (pi_range1 rfl m_range (pa_cons pe_int pa_nil)) (pg_name (i := 10) nd rfl (.inl rfl))
        (pss_cons (ps_set (i := 11) nd rfl (.inl rfl) (pe_call C_faults_of.ok hr (by rfl) C_faults_of.g C_faults_of.kp C_faults_of.b .nil pass0 (pa_cons (pv 3) pa_nil)))
      (pss_cons (ps_if (pt_cmpR (op_neD hr.units) (pv 11) (pe_callB (cr_sortedDp rowD_IIS hr.units) (by rfl) m_sorted (by decide +kernel) (pa_cons (pv 7) pa_nil)) (nomark _)) (pss_one (ps_ret pe_bl)) pss_nil)
      (pss_one (ps_expr (pe_bm PySem.F.plainAttrs_list PySem.F.slot_list_append PySem.F.type_list_append mt_append (pv 11) (pa_cons (pe_tup pa_nil) pa_nil)))))))
      (pss_cons (ps_for PassesOwn.never rfl (pi_list (pe_op op_cat (pe_lc (own := [("_law_entry", 8)]) (g := gName 8) (by rfl) nd (pi_tup (pe_slice sl_tupA (pv 6) po_none (po_some pe_int))) (blkOk_by (own := [("_law_entry", 8)]) (N := nLaw) (sc := defScope sLaw) (by decide +kernel)) (fun _ _ _ _ _ => (pg_name (i := 8) nd rfl (.inl rfl))) (fun _ _ _ _ _ => pts_nil)
          (fun _ _ _ _ _ => (pe_ix (ix_tupK (K := K) (by rfl)) (pv 8) pe_int (fun _ _ => rfl)))) (pe_lst (pa_cons pe_int (pa_cons pe_int (pa_cons (pe_call C__law_day.ok hr (by rfl) C__law_day.g C__law_day.kp C__law_day.b .nil pass0 (pa_cons (pv 2) pa_nil)) (pa_cons (pe_call C__law_day.ok hr (by rfl) C__law_day.g C__law_day.kp C__law_day.b .nil pass0 (pa_cons (pv 2) pa_nil)) pa_nil))))))) (pg_name (i := 12) nd rfl (.inr rfl))
        (pss_cons (ps_setLc (i := 13) (own := [("_law_person", 16), ("_law_row", 11)]) (g := gTup K 2 (gCons (gName 16) (gCons (gName 11) gNil))) (by rfl) nd rfl rfl (sw_true rfl rfl rfl (by decide +kernel)) (pi_enumB false (by rfl) m_enumerate (pa_cons (pv 4) pa_nil)) (blkOk_by (own := [("_law_person", 16), ("_law_row", 11)]) (N := nLaw) (sc := defScope sLaw) (by decide +kernel)) (fun _ _ _ _ _ => (pg_tup (by rfl) (pgs_cons (pg_name (i := 16) nd rfl (.inl rfl)) (pgs_cons (pg_name (i := 11) nd rfl (.inl rfl)) pgs_nil)))) (fun _ _ _ _ _ => (pts_one (pt_cmpR op_eq (pe_call C__law_fault.ok hr (by rfl) C__law_fault.g C__law_fault.kp C__law_fault.b .nil pass0 (pa_cons (pv 11) (pa_cons (pv 12) (pa_cons (pv 5) pa_nil)))) pe_str (nomark _))))
          (fun _ _ _ _ _ => (pv 16)))
      (pss_one (ps_if (pt_cmpR (op_neD hr.units) (pe_call C_could_witness.ok hr (by rfl) C_could_witness.g C_could_witness.kp C_could_witness.b .nil pass0 (pa_cons (pv 3) (pa_cons (pv 12) pa_nil))) (pv 13) (nomark _)) (pss_one (ps_ret pe_bl)) pss_nil))))
      (pss_one (ps_for PassesOwn.never rfl (pi_tup (pe_tup (pa_cons pe_int (pa_cons (pe_un un_neg pe_int) (pa_cons pe_bl (pa_cons pe_non (pa_cons pe_str (pa_cons (pe_tup (pa_cons pe_int pa_nil)) (pa_cons (pe_op op_pow pe_int pe_int) (pa_cons (pe_call C__law_thing.ok hr (by rfl) C__law_thing.g C__law_thing.kp C__law_thing.b .nil pass0 (pa_cons (pv 2) (pa_cons pe_int pa_nil))) pa_nil)))))))))) (pg_name (i := 14) nd rfl (.inl rfl))
        (pss_cons (ps_set (i := 15) nd rfl (.inl rfl) (pe_and (pe_callB call_isi (by rfl) m_isinstance (by decide +kernel) (pa_cons (pv 14) (pa_cons (pe_bltn (v := .ty "int") (by rfl) m_int (by decide +kernel) rfl) pa_nil))) (pe_and (pe_not (pe_callB call_isi (by rfl) m_isinstance (by decide +kernel) (pa_cons (pv 14) (pa_cons (pe_bltn (v := .ty "bool") (by rfl) m_bool (by decide +kernel) rfl) pa_nil)))) (pe_one (pe_chain op_le op_lt pe_int (pv 14) pe_int)))))
      (pss_one (ps_if (pt_cmpR op_eq (pe_call C__law_is_refused.ok hr (by rfl) C__law_is_refused.g C__law_is_refused.kp C__law_is_refused.b .nil pass0 (pa_cons (pv 3) (pa_cons (pv 14) pa_nil))) (pv 15) (nomark _)) (pss_one (ps_ret pe_bl)) pss_nil)))))))))))))
      (pss_one (ps_ret pe_bl)), ?_⟩
    have hl : (ns.map V.int).length = ns.length := List.length_map _
    refine ⟨_, rfl, a, _, rfl, .inl hS, _, _, rfl, _, _, rfl, ?_⟩
    rw [hl]
    obtain ⟨tn, etn, ht0, ht3⟩ := turns3 ns.length
    rw [etn]
    refine ⟨_, rfl, by omega, by omega, ?_⟩
    refine for_range (lo := 0) (n := tn.toNat) (fun i σ H' => ∃ y1 y2 y3 y4 y5 y6 y7 y8 y9 y10 y11 y12 y13 y14 y15 y16, σ = [some (.ref a), y1, y2, y3, y4, y5, y6, y7, y8, y9, y10, y11, y12, y13, y14, y15, y16] ∧ ExtN H H' ∧ Tabs T H') ⟨_, _, _, _, _, _, _, _, _, _, _, _, _, _, _, _, rfl, ExtN.refl H, hT⟩ ?_ (fun σ H' _ => q H')
    rintro i σ H' hi ⟨y1, y2, y3, y4, y5, y6, y7, y8, y9, y10, y11, y12, y13, y14, y15, y16, rfl, eN, T'⟩
    refine ⟨_, rfl, _, rfl, a, ns, _, rfl, ExtN.sqL eN hS, by omega, fun cv => ?_⟩
    refine ⟨cv, rfl, fun p H1 s1 np P1 => ?_⟩
    have T1 : Tabs T H1 := T'.ext s1
    refine ⟨_, rfl, p, rfl, P1, fun b fk t n age zs H2 k2 P2 hB2 hz12 => ?_⟩
    have T2 : Tabs T H2 := Tabs.kp T1 k2 P1
    have e2 : ExtN H' H2 := ExtN.kp (ExtN.of s1) np k2
    have len := hB2.len
    obtain ⟨ps, hF2, hpl⟩ := hB2.folk.is
    have hn6 := hB2.n6
    refine ⟨_, rfl, b, _, rfl, SqT.of hB2.at_, rfl, _, _, rfl, _, _, rfl, _, _, rfl, rfl, ?_⟩
    refine ⟨Nat.zero_le _, fun l1 nl1 => ?_⟩
    have s3 := same_new nl1 (.lst [])
    have e3 : (upd H2 l1 (.lst [])) l1 = some (.lst []) := upd_same
    generalize (upd H2 l1 (.lst [])) = H3 at s3 e3
    have fok : ∀ zz : List (Addr × En), (∀ z ∈ zz, z ∈ zs) → (faultsAll (ps.map (·.2)) age (ens (zz.filter fun z => z.2.isDeed))).length ≤ 3 * zz.length := fun zz hzz => by
      have h1 := faults_len (ps := ps.map (·.2)) (age := age) (n := n) (es := ens (zz.filter fun z => z.2.isDeed)) fun e he => by
        obtain ⟨z, hz, rfl⟩ := List.mem_map.mp he
        exact hB2.ok.ok z.2 (List.mem_map.mpr ⟨z, hzz z (List.mem_filter.mp hz).1, rfl⟩)
      have h2 : (ens (zz.filter fun z => z.2.isDeed)).length ≤ zz.length := by
        unfold ens
        rw [List.length_map]
        exact List.length_filter_le _ _
      omega
    refine ⟨_, rfl, t, rfl, ⟨_, SqT.of (s3 _ _ hB2.ents)⟩, ?_⟩
    refine for_tup (K := K) (a := t) (xs := refs zs) (fun j σ H' => ∃ (L : Addr), ∃ y8 y9 y10 y11 y12 y13 y14 y15 y16, σ = [some (.ref a), some (.int (0 + (i : Int))), some (.ref p), some (.ref b), some (.ref fk), some (.int age), some (.ref t), some (.ref L), y8, y9, y10, y11, y12, y13, y14, y15, y16] ∧ Same H2 H' ∧ F3At H' L (faultsAll (ps.map (·.2)) age (ens ((zs.take j).filter fun z => z.2.isDeed)))) ⟨l1, _, _, _, _, _, _, _, _, _, rfl, s3, ⟨[], e3, rfl, fun _ h => nomatch h⟩⟩ (fun j σ H' _ h => ?_) ?_ ?_
    · obtain ⟨_, _, _, _, _, _, _, _, _, _, _, s4, _⟩ := h
      exact SqT.of (s4 _ _ hB2.ents)
    · rintro j x σ H4 hx ⟨L, y8, y9, y10, y11, y12, y13, y14, y15, y16, rfl, s4, h4⟩
      obtain ⟨z, hz, rfl⟩ := ref_at hx
      have hzm := List.mem_of_getElem? hz
      have hez : z.2 ∈ ens zs := List.mem_map.mpr ⟨z, hzm, rfl⟩
      have hok := hB2.ok.ok z.2 hez
      have hwd := hok.word
      obtain ⟨xs4, ex4, g40, g41, _, _, g44⟩ := ((hB2.ent z hzm).kp (Same.tup s4)).tup
      have htl : (zs.take j).length ≤ 16 := by rw [List.length_take]; omega
      have hfl := fok (zs.take j) fun z hz => List.mem_of_mem_take hz
      refine ⟨_, rfl, z.1, xs4, 4, _, rfl, rfl, SqT.of ex4, g44, rfl, _, rfl, ?_⟩
      refine ite2 (fun c => ?_) (fun c => ?_)
      · have hd : z.2.isDeed = true := hwd.mp (by
          have := of_decide_eq_true c
          injection this)
        have hft : faultsAll (ps.map (·.2)) age (ens ((zs.take (j + 1)).filter fun z => z.2.isDeed)) = faultsAll (ps.map (·.2)) age (ens ((zs.take j).filter fun z => z.2.isDeed)) ++ faultsE (ps.map (·.2)) age z.2 := by
          rw [take_filter hz, hd, if_pos rfl]
          unfold faultsAll
          rw [show ens ((zs.take j).filter (fun z => z.2.isDeed) ++ [z]) = ens ((zs.take j).filter fun z => z.2.isDeed) ++ [z.2] from List.map_append, List.flatMap_append]
          simp
        obtain ⟨xs8, r8, ex8, g8, er8⟩ := ((hB2.ent z hzm).kp (Same.tup s4)).eight hd
        refine ⟨_, rfl, z.1, xs8, 8, _, rfl, rfl, SqT.of ex8, g8, r8, rfl, ⟨_, SqT.of er8⟩, fun M nM => ?_⟩
        obtain ⟨hw3, _, hwn⟩ := hok.wits
        refine lc_sameT (walk_tup (xs := z.2.wits.map V.int)) z.2.wits (fun _ => true) (fun m => tup3 (z.2.num, m, flt (pnOf (ps.map (·.2)) m) age z.2.day)) (by rw [List.length_map]) (by omega) nM (fun H s => SqT.of (s _ _ er8)) ?_ ?_
        · rintro jj m x H5' H5 hy s5 ⟨rfl, hx5⟩ Q1 Q0 q1 q0
          rw [List.getElem?_map, hy] at hx5
          injection hx5 with hx5
          subst hx5
          refine ⟨rfl, ?_⟩
          unfold tYes
          dsimp only
          rw [if_pos rfl]
          obtain ⟨m0, mn⟩ := hwn m (List.mem_of_getElem? hy)
          have hmp : m.toNat < ps.length := by omega
          have hpz : ps[m.toNat]? = some ps[m.toNat] := List.getElem?_eq_getElem hmp
          have hpm : ps[m.toNat] ∈ ps := List.getElem_mem hmp
          generalize ps[m.toNat] = pz at hpz hpm
          have hpn : pnOf (ps.map (·.2)) m = pz.2 := by
            unfold pnOf
            rw [List.getElem?_map, hpz]
            rfl
          have hF5 := hF2.kp (Same.tup (s4.trans s5))
          have ex5 := s5 _ _ ex4
          refine ⟨_, rfl, z.1, _, 0, _, rfl, rfl, SqT.of ex5, g40, _, rfl, _, rfl, _, rfl, fk, _, m, .ref pz.1, rfl, rfl, SqT.of hF5.at_, at_of (j := m.toNat) (by omega) (by rw [List.getElem?_map, hpz]; rfl), _, rfl, z.1, _, 1, _, rfl, rfl, SqT.of ex5, g41, _, rfl, pz.1, pz.2, age, z.2.day, rfl, hF5.one pz hpm, fun H6 s6 => ?_⟩
          refine ⟨(by show 3 ≤ sizeLine; decide), fun t7 nt7 => ?_⟩
          rw [← hpn]
          exact q1 rfl t7 _ (s6.trans (same_new nt7 _)) upd_same
        intro H5 ws s5 eM ews hws
        rw [List.filter_eq_self.mpr fun _ _ => rfl] at ews
        have hwl : ws.length ≤ 3 := by
          have := congrArg List.length ews
          rw [List.length_map] at this
          omega
        refine ⟨_, rfl, _, rfl, M, rfl, ⟨_, SqL.of eM⟩, fun M2 nM2 => ?_⟩
        refine lc_sameV (walk_list (xs := ws.map fun z => V.ref z.1)) ws (fun y => !decide (flt (pnOf (ps.map (·.2)) y.2) age z.2.day = "")) (fun y => .ref y.1) (by rw [List.length_map]) (by omega) nM2 (fun H s => SqL.of (s _ _ eM)) ?_ ?_
        · rintro jj y x H6' H6 hy s6 ⟨rfl, hx6⟩ Q1 Q0 q1 q0
          rw [List.getElem?_map, hy] at hx6
          injection hx6 with hx6
          subst hx6
          refine ⟨rfl, ?_⟩
          have ey := s6 _ _ (hws y (List.mem_of_getElem? hy))
          refine ⟨_, rfl, y.1, _, 2, _, rfl, rfl, SqT.of ey, (atI_nat (j := 2) rfl), rfl, _, rfl, ?_⟩
          refine ite2 (fun c => ?_) (fun c => ?_)
          · exact ⟨_, rfl, q1 (by simpa using c) _ (same_refl _)⟩
          · exact q0 (by simpa using c) _ (same_refl _)
        intro H6 s6 eM2
        obtain ⟨zr, eL, ezr, hzr⟩ := h4
        have hzl : zr.length ≤ 48 := by
          have := congrArg List.length ezr
          rw [List.length_map] at this
          omega
        have eL6 := s6 _ _ (s5 _ _ eL)
        refine ⟨L, M2, _, _, rfl, rfl, eL6, eM2, ?_, fun L2 nL2 => ?_⟩
        · rw [List.length_map, List.length_map]
          have := List.length_filter_le (fun y : Addr × Int => !decide (flt (pnOf (ps.map (·.2)) y.2) age z.2.day = "")) ws
          exact Nat.le_of_lt (small1000 (by omega))
        have s7 := s6.trans (same_new nL2 (.lst ((zr.map fun z => V.ref z.1) ++ (ws.filter fun y => !decide (flt (pnOf (ps.map (·.2)) y.2) age z.2.day = "")).map fun y => V.ref y.1)))
        refine ⟨L2, _, _, _, _, _, _, _, _, _, rfl, s4.trans (s5.trans s7), zr ++ (ws.filter fun y => !decide (flt (pnOf (ps.map (·.2)) y.2) age z.2.day = "")).map fun y => (y.1, (z.2.num, y.2, flt (pnOf (ps.map (·.2)) y.2) age z.2.day)), ?_, ?_, fun y hy => ?_⟩
        · rw [upd_same, List.map_append, List.map_map]
          rfl
        · rw [hft, faultsE_eq, ← ews, List.filter_map, List.map_append, ezr, List.map_map, List.map_map]
          rfl
        · rcases List.mem_append.mp hy with hy | hy
          · exact s7 _ _ (s5 _ _ (hzr y hy))
          · obtain ⟨u, hu, rfl⟩ := List.mem_map.mp hy
            exact s7 _ _ (hws u (List.mem_filter.mp hu).1)
      · have hd : z.2.isDeed = false := Bool.eq_false_iff.mpr fun hd => c (decide_eq_true (congrArg V.str (hwd.mpr hd)))
        refine ⟨L, _, _, _, _, _, _, _, _, _, rfl, s4, ?_⟩
        rw [take_filter hz, hd]
        simpa using h4
    rintro σ H4 ⟨L, y8, y9, y10, y11, y12, y13, y14, y15, y16, rfl, s4, h4⟩
    rw [show (refs zs).length = zs.length from List.length_map _, List.take_length] at h4
    have T4 := T2.ext s4
    refine ⟨_, rfl, by omega, by omega, ?_⟩
    refine for_range (lo := 0) (n := 2) (fun j σ H' => ∃ y8 y9 y10 y11 y12 y13 y14 y15 y16, σ = [some (.ref a), some (.int (0 + (i : Int))), some (.ref p), some (.ref b), some (.ref fk), some (.int age), some (.ref t), some (.ref L), y8, y9, y10, y11, y12, y13, y14, y15, y16] ∧ ExtN H4 H' ∧ Tabs T H') ⟨_, _, _, _, _, _, _, _, _, rfl, ExtN.refl _, T4⟩ ?_ ?_
    · rintro j σ H5 hj ⟨y8, y9, y10, y11, y12, y13, y14, y15, y16, rfl, e5, T5⟩
      have e25 : ExtN H2 H5 := (ExtN.of s4).trans e5
      have h5 := h4.kpx e5
      refine ⟨_, rfl, b, fk, t, n, age, zs, ps, rfl, hB2.kp (ExtN.tup e25), hF2.kp (ExtN.tup e25), hpl, T5, fun r zs' H6 e6 T6 fr6 h36 pm so => ?_⟩
      obtain ⟨zr, eL, ezr, hzr⟩ := h5.kpx e6
      refine ⟨_, rfl, _, rfl, L, zr.map (fun z => (V.ref z.1, z.2)), rfl, ?_, ?_, alike_row3, tup_row3, depth_row3, fun ys q7 hpq hsq nq7 => ?_⟩
      · rw [List.map_map]
        exact SqL.of eL
      · intro z hz
        obtain ⟨u, hu, rfl⟩ := List.mem_map.mp hz
        exact dp_row3 (hzr u hu)
      have s7 := same_new nq7 (.lst (ys.map (·.1)))
      have e7 : (upd H6 q7 (.lst (ys.map (·.1)))) q7 = some (.lst (ys.map (·.1))) := upd_same
      generalize (upd H6 q7 (.lst (ys.map (·.1)))) = H7 at s7 e7
      have hys : ys.map (·.2) = faultsAll (ps.map (·.2)) age (ens (zs'.filter fun z => z.2.isDeed)) := faults_sorted hB2.ok pm so (by
        have := hpq.map (·.2)
        rw [List.map_map] at this
        rw [← ezr]
        exact this) (List.pairwise_map.mpr hsq)
      have hdy : Dp K H7 (.ref q7) (rows3D (ys.map (·.2))) := .lst (SqL.of e7) (dp_all ys fun y hy => by
        obtain ⟨u, hu, rfl⟩ := List.mem_map.mp (hpq.mem_iff.mp hy)
        exact dp_row3 (s7 _ _ (hzr u hu)))
      rw [hys] at hdy
      have h37 := h36.kpx fun b o e _ => s7 b o e
      refine ⟨rows3D _, rows3D _, h37.dp, hdy, shaped_rows3 _ faultsAll_ok, shaped_rows3 _ faultsAll_ok, _, rfl, ?_⟩
      rw [eqv_rows3]
      refine iteF ?_
      obtain ⟨xs, er, hxl⟩ := h37.len
      have hrl := fok zs' fun z hz => pm.mem_iff.mp hz
      have hzl := pm.length_eq
      have T7 := T6.ext s7
      refine ⟨_, rfl, .inl ⟨rfl, _, SqL.of er⟩, Nat.zero_le _, fun t2 nt2 => ?_⟩
      have s10 := same_new nt2 (.tup [])
      have T10 : Tabs T (upd H7 t2 (.tup [])) := T7.ext s10
      have er10 := s10 _ _ er
      generalize (upd H7 t2 (.tup [])) = H10 at s10 T10 er10
      refine ⟨r, _, _, rfl, rfl, er10, small1000 (by omega), ?_⟩
      have e511 : ExtN H5 (upd H10 r (.lst (xs ++ [.ref t2]))) := ExtN.put (e6.trans (.of (s7.trans s10))) fr6 _
      have T11 : Tabs T (upd H10 r (.lst (xs ++ [.ref t2]))) := Tabs.put T10 er10 _
      exact ⟨_, _, _, _, _, _, _, _, _, rfl, e5.trans e511, T11⟩
    rintro σ H5 ⟨y8, y9, y10, y11, y12, y13, y14, y15, y16, rfl, e5, T5⟩
    have e25 : ExtN H2 H5 := (ExtN.of s4).trans e5
    have hB5 := hB2.kp (ExtN.tup e25)
    have hF5 := hF2.kp (ExtN.tup e25)
    have P5 := ExtN.pen e25 P2
    refine ⟨_, rfl, _, rfl, slA_same hB5.ents fun t6 H6 s6 e6 => ?_⟩
    have e6' : H6 t6 = some (.tup ((zs.take 6).map fun z => V.ref z.1)) := by
      rw [e6]
      exact congrArg (fun l => some (HO.tup l)) (cutTake (fun z : Addr × En => V.ref z.1) zs (v := 6) (by decide))
    have P6 := ExtN.pen (.of s6) P5
    refine ⟨t6, rfl, ⟨_, SqT.of e6'⟩, fun M7 nM7 => ?_⟩
    refine lc_sameM (walk_tup (xs := (zs.take 6).map fun z => V.ref z.1)) (zs.take 6) (fun z => .int z.2.day) (by rw [List.length_map]) (by rw [List.length_take]; omega) nM7 (fun H s => SqT.of (s _ _ e6')) ?_ ?_
    · rintro jj z x H7' H7 hy s7 ⟨rfl, hx7⟩ Q1 q1
      rw [List.getElem?_map, hy] at hx7
      injection hx7 with hx7
      subst hx7
      have hzm := List.mem_of_mem_take (List.mem_of_getElem? hy)
      obtain ⟨xs, ex, _, g1, _⟩ := ((hB5.ent z hzm).kp (Same.tup (s6.trans s7))).tup
      exact ⟨rfl, _, rfl, z.1, xs, 1, _, rfl, rfl, SqT.of ex, g1, q1 _ (same_refl _)⟩
    intro H7 s7 eM7
    have eM7' : H7 M7 = some (.lst (((zs.take 6).map fun z => z.2.day).map V.int)) := by rw [eM7, List.map_map]; rfl
    have hds : ∀ x ∈ (zs.take 6).map (fun z => z.2.day), 0 ≤ x ∧ x ≤ 9999 := fun x hx => by
      obtain ⟨z, hz, rfl⟩ := List.mem_map.mp hx
      exact (hB2.ok.ok z.2 (List.mem_map.mpr ⟨z, List.mem_of_mem_take hz, rfl⟩)).1
    have hdl : ((zs.take 6).map fun z => z.2.day).length ≤ 16 := by
      rw [List.length_map, List.length_take]
      omega
    generalize ((zs.take 6).map fun z => z.2.day) = ds at eM7' hds hdl
    have P7 := ExtN.pen (.of s7) P6
    have nM7p : M7 ≠ p := P6.free nM7
    refine ⟨_, rfl, p, rfl, P7, fun v1 H8 k8 P8 a1 b1 => ⟨_, rfl, p, rfl, P8, fun v2 H9 k9 P9 a2 b2 => ⟨(by show 4 ≤ sizeLine; decide), fun l10 nl10 => ?_⟩⟩⟩
    have s10 := same_new nl10 (.lst [.int 0, .int 9999, .int v1, .int v2])
    have e10 : (upd H9 l10 (.lst [.int 0, .int 9999, .int v1, .int v2])) l10 = some (.lst (([0, 9999, v1, v2] : List Int).map V.int)) := upd_same
    generalize (upd H9 l10 (.lst [.int 0, .int 9999, .int v1, .int v2])) = H10 at s10 e10
    refine ⟨M7, l10, _, _, rfl, rfl, s10 _ _ (k9 _ _ nM7p (k8 _ _ nM7p eM7')), e10, ?_, fun l11 nl11 => ?_⟩
    · rw [List.length_map, List.length_map]
      exact Nat.le_of_lt (small1000 (by show ds.length + 4 ≤ 1000; omega))
    rw [← List.map_append]
    have hds' : ∀ x ∈ ds ++ [0, 9999, v1, v2], 0 ≤ x ∧ x ≤ 9999 := fun x hx => by
      rcases List.mem_append.mp hx with hx | hx
      · exact hds x hx
      · simp only [List.mem_cons, List.not_mem_nil, or_false] at hx
        rcases hx with rfl | rfl | rfl | rfl <;> omega
    generalize ds ++ [0, 9999, v1, v2] = es at hds'
    have s11 := same_new nl11 (.lst (es.map V.int))
    have e11 : (upd H10 l11 (.lst (es.map V.int))) l11 = some (.lst (es.map V.int)) := upd_same
    generalize (upd H10 l11 (.lst (es.map V.int))) = H11 at s11 e11
    have x511 : XP p H5 H11 := ((XP.ofS (s6.trans s7)).trans (XP.ofK (k8.trans k9))).trans (XP.ofS (s10.trans s11))
    have P11 : PenAt H11 p := ExtN.pen (.of (s10.trans s11)) P9
    have T11 : Tabs T H11 := (Tabs.kp (T5.ext (s6.trans s7)) (k8.trans k9) P7).ext (s10.trans s11)
    have hB11 := hB5.kp (x511.tup P5)
    have hF11 := hF5.kp (x511.tup P5)
    refine ⟨l11, rfl, ⟨_, SqL.of e11⟩, ?_⟩
    refine for_list (K := K) (a := l11) (xs := es.map V.int) (fun j σ H' => ∃ y8 y9 y10 y11 y12 y13 y14 y15 y16, σ = [some (.ref a), some (.int (0 + (i : Int))), some (.ref p), some (.ref b), some (.ref fk), some (.int age), some (.ref t), some (.ref L), y8, y9, y10, y11, y12, y13, y14, y15, y16] ∧ Same H11 H') ⟨_, _, _, _, _, _, _, _, _, rfl, same_refl _⟩ (fun j σ H' _ h => ?_) ?_ ?_
    · obtain ⟨_, _, _, _, _, _, _, _, _, _, s12⟩ := h
      exact SqL.of (s12 _ _ e11)
    · rintro j x σ H12 hx ⟨y8, y9, y10, y11, y12, y13, y14, y15, y16, rfl, s12⟩
      rw [List.getElem?_map] at hx
      cases hd : es[j]? with
      | none => rw [hd] at hx; cases hx
      | some d =>
        rw [hd] at hx
        injection hx with hx
        subst hx
        obtain ⟨d0, d1⟩ := hds' d (List.mem_of_getElem? hd)
        have hF12 := hF11.kp (Same.tup s12)
        have hm : (ps.map fun z => V.ref z.1).length = ps.length := List.length_map _
        refine ⟨_, rfl, fk, _, rfl, SqT.of hF12.at_, fun M nM => ?_⟩
        refine lc_sameV (walk_enumB (c := false) (xs := ps.map fun z => V.ref z.1)) (List.range ps.length) (fun j => decide (flt (pnOf (ps.map (·.2)) (j : Int)) age d = "")) (fun j => .int (j : Nat)) (by rw [List.length_range, hm]) (by rw [List.length_range]; omega) nM (fun H s => SqT.of (s _ _ hF12.at_)) ?_ ?_
        · rintro j y x H13 H13' hy s13 ⟨T0, xx, yy, rfl, nT, rfl, hxx, hyy⟩ Q1 Q0 q1' q0'
          obtain rfl : j = y := by
            have h9 := (List.getElem?_eq_some_iff.mp hy).2
            rw [List.getElem_range] at h9
            exact h9
          injection hxx with hxx
          subst hxx
          dsimp only at hyy
          rw [List.getElem?_map] at hyy
          cases hz : ps[j]? with
          | none => rw [hz] at hyy; cases hyy
          | some z =>
            rw [hz] at hyy
            injection hyy with hyy
            subst hyy
            have hpn : pnOf (ps.map (·.2)) (j : Int) = z.2 := by
              unfold pnOf
              rw [Int.toNat_natCast, List.getElem?_map, hz]
              rfl
            have s14 := same_new nT (.tup [.int (j : Nat), .ref z.1])
            have eT : (upd H13 T0 (.tup [.int (j : Nat), .ref z.1])) T0 = some (.tup [.int (j : Nat), .ref z.1]) := upd_same
            generalize (upd H13 T0 (.tup [.int (j : Nat), .ref z.1])) = H14 at s14 eT
            have hz3 : PnAt H14 z.1 z.2 := s14 _ _ (s13 _ _ (hF12.one z (List.mem_of_getElem? hz)))
            refine ⟨T0, _, rfl, SqT.of eT, rfl, _, _, rfl, _, _, rfl, rfl, rfl, ?_⟩
            refine ⟨_, rfl, _, rfl, _, rfl, z.1, z.2, age, d, rfl, hz3, fun H15 s15 => ?_⟩
            refine ⟨rfl, _, rfl, ?_⟩
            refine ite2 (fun c => ?_) (fun c => ?_)
            · exact ⟨_, rfl, q1' (by rw [hpn]; simpa using c) _ (s14.trans s15)⟩
            · exact q0' (by rw [hpn]; simpa using c) _ (s14.trans s15)
        intro H13 s13 eM
        have eM' : H13 M = some (.lst (((couldL (ps.map (·.2)) age d).map Int.ofNat).map V.int)) := by
          rw [eM, List.map_map]
          unfold couldL
          rw [List.length_map]
          rfl
        have hB13 := hB11.kp (Same.tup (s12.trans s13))
        refine ⟨_, rfl, _, rfl, b, fk, t, age, ps, d, rfl, hB13.at_, hF12.kp (Same.tup s13), by omega, d0, d1, fun r H14 s14 nr er => ?_⟩
        have er' : H14 r = some (.lst (((couldL (ps.map (·.2)) age d).map Int.ofNat).map V.int)) := by
          rw [er, List.map_map]
          rfl
        refine ⟨_, rfl, _, _, .lst (SqL.of er') (dp_ints _), .lst (SqL.of (s14 _ _ eM')) (dp_ints _), shaped_ints _, shaped_ints _, _, rfl, ?_⟩
        rw [eqv_ints, decide_eq_true rfl]
        refine iteF ?_
        exact ⟨_, _, _, _, _, _, _, _, _, rfl, s12.trans (s13.trans s14)⟩
    rintro σ H12 ⟨y8, y9, y10, y11, y12, y13, y14, y15, y16, rfl, s12⟩
    have P12 := ExtN.pen (.of s12) P11
    refine ⟨_, rfl, (by show 1 ≤ sizeLine; decide), fun t13 nt13 => ?_⟩
    have s13 := same_new nt13 (.tup [.int 0])
    have e13 : (upd H12 t13 (.tup [.int 0])) t13 = some (.tup [.int 0]) := upd_same
    generalize (upd H12 t13 (.tup [.int 0])) = H13 at s13 e13
    have P13 := ExtN.pen (.of s13) P12
    refine ⟨_, _, rfl, rfl, ⟨by decide, by decide, by decide⟩, _, rfl, p, 2, rfl, P13, by decide, by decide, fun v H14 k14 P14 hv => ?_⟩
    refine ⟨(by show 8 ≤ sizeLine; decide), fun t15 nt15 => ?_⟩
    have hxs : ∀ x ∈ [V.int 10000, .int (-1), .bl true, .non, .str "0", .ref t13, .int (10 ^ (39 : Int).toNat), v], ∃ o, Th K H14 x o := am1 (th_int _) (am1 (th_int _) (am1 (th_bl _) (am1 th_non (am1 (th_str _) (am1 (th_tup (k14.tup P13 _ _ e13)) (am1 (th_int _) (am1 hv am0)))))))
    have s15 := same_new nt15 (.tup [V.int 10000, .int (-1), .bl true, .non, .str "0", .ref t13, .int (10 ^ (39 : Int).toNat), v])
    have e15 : (upd H14 t15 (.tup [V.int 10000, .int (-1), .bl true, .non, .str "0", .ref t13, .int (10 ^ (39 : Int).toNat), v])) t15 = some (.tup [V.int 10000, .int (-1), .bl true, .non, .str "0", .ref t13, .int (10 ^ (39 : Int).toNat), v]) := upd_same
    refine ⟨t15, rfl, ⟨_, SqT.of e15⟩, ?_⟩
    generalize (upd H14 t15 (.tup [V.int 10000, .int (-1), .bl true, .non, .str "0", .ref t13, .int (10 ^ (39 : Int).toNat), v])) = H15 at s15 e15
    generalize [V.int 10000, .int (-1), .bl true, .non, .str "0", .ref t13, .int (10 ^ (39 : Int).toNat), v] = things at hxs e15
    have x1115 : XP p H11 H15 := ((XP.ofS (s12.trans s13)).trans (XP.ofK k14)).trans (XP.ofS s15)
    have T15 : Tabs T H15 := (Tabs.kp (T11.ext (s12.trans s13)) k14 P13).ext s15
    have hB15 := hB11.kp (x1115.tup P11)
    have hF15 := hF11.kp (x1115.tup P11)
    refine for_tup (K := K) (a := t15) (xs := things) (fun j σ H' => ∃ y8 y9 y10 y11 y12 y13 y14 y15 y16, σ = [some (.ref a), some (.int (0 + (i : Int))), some (.ref p), some (.ref b), some (.ref fk), some (.int age), some (.ref t), some (.ref L), y8, y9, y10, y11, y12, y13, y14, y15, y16] ∧ Same H15 H') ⟨_, _, _, _, _, _, _, _, _, rfl, same_refl _⟩ (fun j σ H' _ h => ?_) ?_ ?_
    · obtain ⟨_, _, _, _, _, _, _, _, _, _, s16⟩ := h
      exact SqT.of (s16 _ _ e15)
    · rintro j x σ H16 hx ⟨y8, y9, y10, y11, y12, y13, y14, y15, y16, rfl, s16⟩
      obtain ⟨o, ho⟩ := hxs x (List.mem_of_getElem? hx)
      have ho' := ho.same (s15.trans s16)
      clear ho
      have hB16 := hB15.kp (Same.tup s16)
      have hF16 := hF15.kp (Same.tup s16)
      have hpl' : ps.length ≤ 1000 := by omega
      cases ho' with
      | int ii =>
        refine ⟨_, rfl, _, _, _, _, true, rfl, .ty "int", .base (.int ii), kit_ty (by decide +kernel), _, rfl, iteT ?_⟩
        refine ⟨_, rfl, _, _, _, _, false, rfl, .ty "bool", .base (.int ii), kit_ty (by decide +kernel), _, rfl, _, rfl, iteT ?_⟩
        refine ⟨_, rfl, _, _, rfl, rfl, _, rfl, ?_⟩
        refine ite2 (fun c => ?_) (fun c => ?_)
        · refine ⟨_, _, rfl, rfl, ?_⟩
          refine ⟨_, rfl, _, rfl, b, fk, t, age, ps, .int ii, some ii, rfl, hB16.at_, hF16, hpl', .int ii, fun H17 s17 => ⟨_, rfl, rfl, _, rfl, ?_⟩⟩
          refine ite2 (fun c2 => ?_) (fun _ => ⟨_, _, _, _, _, _, _, _, _, rfl, s16.trans s17⟩)
          exfalso
          have h0 : 0 ≤ ii := of_decide_eq_true c
          have h2 := of_decide_eq_true c2
          injection h2 with h2
          unfold withB at h2
          dsimp only at h2
          by_cases h9 : ii < 10000
          · rw [decide_eq_true h9, decide_eq_true h0, decide_eq_true (show ii ≤ 9999 by omega)] at h2
            cases h2
          · rw [decide_eq_false h9, decide_eq_true h0, decide_eq_false (show ¬ ii ≤ 9999 by omega)] at h2
            cases h2
        · refine ⟨_, rfl, _, rfl, b, fk, t, age, ps, .int ii, some ii, rfl, hB16.at_, hF16, hpl', .int ii, fun H17 s17 => ⟨_, rfl, rfl, _, rfl, ?_⟩⟩
          refine ite2 (fun c2 => ?_) (fun _ => ⟨_, _, _, _, _, _, _, _, _, rfl, s16.trans s17⟩)
          exfalso
          have h0 : ¬ 0 ≤ ii := fun h => c (decide_eq_true h)
          have h2 := of_decide_eq_true c2
          injection h2 with h2
          unfold withB at h2
          dsimp only at h2
          rw [decide_eq_false h0] at h2
          cases h2
      | @oth _ ty bb ht h1 h2 =>
        refine ⟨_, rfl, _, _, _, _, bb, rfl, .ty "int", ht, kit_ty h1, _, rfl, ?_⟩
        cases bb with
        | true =>
          refine iteT ?_
          refine ⟨_, rfl, _, _, _, _, true, rfl, .ty "bool", ht, kit_ty h2, _, rfl, _, rfl, iteF ?_⟩
          refine ⟨_, rfl, _, rfl, b, fk, t, age, ps, x, none, rfl, hB16.at_, hF16, hpl', .oth ht h1 h2, fun H17 s17 => ⟨_, rfl, rfl, _, rfl, ?_⟩⟩
          exact iteF ⟨_, _, _, _, _, _, _, _, _, rfl, s16.trans s17⟩
        | false =>
          refine iteF ?_
          refine ⟨_, rfl, _, rfl, b, fk, t, age, ps, x, none, rfl, hB16.at_, hF16, hpl', .oth ht h1 h2, fun H17 s17 => ⟨_, rfl, rfl, _, rfl, ?_⟩⟩
          exact iteF ⟨_, _, _, _, _, _, _, _, _, rfl, s16.trans s17⟩
    rintro σ H16 ⟨y8, y9, y10, y11, y12, y13, y14, y15, y16, rfl, s16⟩
    exact ⟨_, _, _, _, _, _, _, _, _, _, _, _, _, _, _, _, rfl, eN.trans (XP.toN e2 np ((XP.ofN e25).trans (x511.trans (x1115.trans (XP.ofS s16))))), T15.ext s16⟩
end
end Deed

namespace Deed
open PySem PySem.Spec PyProof.Rows L2 LamX
/-! ### the end: the facts by names -/
def mkD (x : Str) (st : Stmt) : He.DefD := ⟨(x, none), x, x, defArgs st, defBody st, defScope st, [], []⟩
def mkDd (x : Str) (st : Stmt) (dfl : List He.Dv) : He.DefD := ⟨(x, none), x, x, defArgs st, defBody st, defScope st, dfl, []⟩
def fnAll : List He.DefD := [mkD "_law_cell_at" sCell, mkD "_law_pen" sPen, mkD "_law_draw" sDraw, mkD "_law_day" sDay, mkD "_law_folk" sFolk, mkD "_law_mixed" sMixed, mkD "_law_few" sFew, mkD "_law_deed" sDeed, mkD "_law_act" sAct, mkD "_law_book" sBook, mkD "entries_rising" sRising, mkD "deed_entries" sDeedE, mkD "is_whole" sWhole, mkD "is_within" sWithin, mkD "is_day" sIsDay, mkD "check_day" sCheckDay, mkD "fault_of" sFaultOf, mkD "faults_of" sFaultsOf, mkD "could_witness" sCouldW, mkD "_law_edgy" sLEdgy, mkD "_law_fault" sLFault, mkD "_law_thing" sLThing, mkD "_law_is_refused" sLRef, mkD "law" sLaw]
def faAll : List He.Fa := [.glo "_law_cell_at", .glo "_law_pen", .glo "_law_draw", .glo "_law_day", .glo "_law_folk", .glo "_law_mixed", .glo "_law_few", .glo "_law_deed", .glo "_law_act", .glo "_law_book", .glo "entries_rising", .glo "deed_entries", .glo "is_whole", .glo "is_within", .glo "is_day", .glo "check_day", .glo "fault_of", .glo "faults_of", .glo "could_witness", .glo "_law_edgy", .glo "_law_fault", .glo "_law_thing", .glo "_law_is_refused", .glo "law", .free "range", .free "min", .free "max", .free "tuple", .free "list", .free "len", .free "sorted", .free "int", .free "isinstance", .free "bool", .free "enumerate", .int "NUMBER" 0, .int "WORD" 4, .int "DAY" 1, .int "WITNESSES" 8, .int "LAST_DAY" 9999, .glo "NoDay", .exc "NoDay", .exm "NoDay" "NoDay" true]
def tfAll : List He.Defn := [("entries_rising", none)]
abbrev tsAll : List He.Tab := []
def exAll (K : PySem.W.Frag) : Bool := true
abbrev rowR : PySem.W.OpenRow := PySem.W.OpenLaw.row PySem.Challenge.rw_deedsheaf_k46_witnesses_that_could_be_no
abbrev hk : PySem.W.Hook := He.hookX 4 faAll fnAll tsAll tfAll exAll
def ob (s : PySem.W.SharedT) : He.AlX := He.obsX 4 faAll fnAll tsAll tfAll exAll (HandSHeadRun.getT s)
theorem ob_eq (s : PySem.W.SharedT) : ob s = hk.obs s.abs := He.obsX_eq (HandSHeadRun.getT_eq s)
def looseAll : List Str := (["NUMBER", "DAY", "WORD", "WITNESSES", "LAST_DAY", "is_whole", "is_within", "is_day", "entries_rising", "deed_entries", "SheafError", "NoDay"] : List Str) ++ (["check_day", "fault_of", "faults_of", "could_witness", "_law_pen", "_law_cell_at", "_law_draw", "_law_folk", "_law_mixed", "_law_day", "_law_few", "_law_deed"] : List Str) ++ (["_law_act", "_law_book", "_law_edgy", "_law_fault", "_law_thing", "_law_is_refused"] : List Str)
theorem run (w : World) : HandSHeadRun.RunEq rowR (PySem.W.view rowR.prog [35]) hk ob 12000 looseAll w := by
  intro os
  kernel_rfl
theorem funOf {K : PySem.W.Frag} {x : Str} {st : Stmt} {f : Addr} {fd : FuncData} (F : FunD K x x (defArgs st) (defBody st) (defScope st) [] [] f fd) : Fun K x x st f fd := by
  obtain ⟨oc, od, dV, kV, doc, pm, an, cdv, ct, osl, e, lk, hcd, hD, hK⟩ := F.ex
  rcases hD with ⟨_, hD⟩ | ⟨hD, _⟩
  · subst hD
    exact ⟨⟨oc, od, kV, doc, pm, an, cdv, ct, osl, e, lk, hcd⟩, F.kp⟩
  · exact absurd rfl hD
theorem codeAt {K : PySem.W.Frag} {x : Str} {st : Stmt} {p : He.Defn} {fd : FuncData} (F : Fun K x x st (He.fAd K p) fd) : fd.code = .ref (He.cT K p).1 := by
  obtain ⟨oc, od, kV, doc, pm, an, cdv, ct, osl, e, lk, hcd⟩ := F.ex
  obtain ⟨c, ec⟩ := He.codeIn_ref hcd
  have e2 : fd.code = .ref c := by rw [e, ← ec]
  rw [show (He.cT K p).1 = c from He.codeOf_eq lk e2]
  exact e2
theorem facts {l : PySem.W.OpenLaw} {w : World} {K : PySem.W.Frag} {h : Heap} {mg : Str → Option Value} {f : Addr} (X : K.In h) (G : h.Ns mainGlobals mg) (hfa : mg ("law" : Str) = some (.ref f)) (c : He.SaysX faAll fnAll tsAll tfAll exAll w h K) : LawAtS l w K CX0 13 63 "_law_script" mg f h := by
  obtain ⟨d0, F0'⟩ := c.t.d.def_ 0 (d := mkD "_law_cell_at" sCell) rfl
  have g0 := He.glo_ok X G (c.t.d.fact 0 (f := .glo "_law_cell_at") rfl)
  have F0 : Fun K "_law_cell_at" "_law_cell_at" sCell (He.fAd K ("_law_cell_at", none)) d0 := funOf F0'
  have D0 : Df K mg "_law_cell_at" sCell ["_law_script", "_law_k"] _ d0 := ⟨F0, F0.binds (ps := ["_law_script", "_law_k"]) (fun _ _ _ _ _ _ us hl => match us, hl with | [_, _], _ => rfl), g0⟩
  obtain ⟨d1, F1'⟩ := c.t.d.def_ 1 (d := mkD "_law_pen" sPen) rfl
  have g1 := He.glo_ok X G (c.t.d.fact 1 (f := .glo "_law_pen") rfl)
  have F1 : Fun K "_law_pen" "_law_pen" sPen (He.fAd K ("_law_pen", none)) d1 := funOf F1'
  have D1 : Df K mg "_law_pen" sPen ["_law_cell"] _ d1 := ⟨F1, F1.binds (ps := ["_law_cell"]) (fun _ _ _ _ _ _ us hl => match us, hl with | [_], _ => rfl), g1⟩
  obtain ⟨d2, F2'⟩ := c.t.d.def_ 2 (d := mkD "_law_draw" sDraw) rfl
  have g2 := He.glo_ok X G (c.t.d.fact 2 (f := .glo "_law_draw") rfl)
  have F2 : Fun K "_law_draw" "_law_draw" sDraw (He.fAd K ("_law_draw", none)) d2 := funOf F2'
  have D2 : Df K mg "_law_draw" sDraw ["_law_pen_here", "_law_bound"] _ d2 := ⟨F2, F2.binds (ps := ["_law_pen_here", "_law_bound"]) (fun _ _ _ _ _ _ us hl => match us, hl with | [_, _], _ => rfl), g2⟩
  obtain ⟨d3, F3'⟩ := c.t.d.def_ 3 (d := mkD "_law_day" sDay) rfl
  have g3 := He.glo_ok X G (c.t.d.fact 3 (f := .glo "_law_day") rfl)
  have F3 : Fun K "_law_day" "_law_day" sDay (He.fAd K ("_law_day", none)) d3 := funOf F3'
  have D3 : Df K mg "_law_day" sDay ["_law_pen_here"] _ d3 := ⟨F3, F3.binds (ps := ["_law_pen_here"]) (fun _ _ _ _ _ _ us hl => match us, hl with | [_], _ => rfl), g3⟩
  obtain ⟨d4, F4'⟩ := c.t.d.def_ 4 (d := mkD "_law_folk" sFolk) rfl
  have g4 := He.glo_ok X G (c.t.d.fact 4 (f := .glo "_law_folk") rfl)
  have F4 : Fun K "_law_folk" "_law_folk" sFolk (He.fAd K ("_law_folk", none)) d4 := funOf F4'
  have D4 : Df K mg "_law_folk" sFolk ["_law_pen_here", "_law_least"] _ d4 := ⟨F4, F4.binds (ps := ["_law_pen_here", "_law_least"]) (fun _ _ _ _ _ _ us hl => match us, hl with | [_, _], _ => rfl), g4⟩
  obtain ⟨d5, F5'⟩ := c.t.d.def_ 5 (d := mkD "_law_mixed" sMixed) rfl
  have g5 := He.glo_ok X G (c.t.d.fact 5 (f := .glo "_law_mixed") rfl)
  have F5 : Fun K "_law_mixed" "_law_mixed" sMixed (He.fAd K ("_law_mixed", none)) d5 := funOf F5'
  have D5 : Df K mg "_law_mixed" sMixed ["_law_pen_here", "_law_some"] _ d5 := ⟨F5, F5.binds (ps := ["_law_pen_here", "_law_some"]) (fun _ _ _ _ _ _ us hl => match us, hl with | [_, _], _ => rfl), g5⟩
  obtain ⟨d6, F6'⟩ := c.t.d.def_ 6 (d := mkD "_law_few" sFew) rfl
  have g6 := He.glo_ok X G (c.t.d.fact 6 (f := .glo "_law_few") rfl)
  have F6 : Fun K "_law_few" "_law_few" sFew (He.fAd K ("_law_few", none)) d6 := funOf F6'
  have D6 : Df K mg "_law_few" sFew ["_law_pen_here", "_law_some", "_law_most"] _ d6 := ⟨F6, F6.binds (ps := ["_law_pen_here", "_law_some", "_law_most"]) (fun _ _ _ _ _ _ us hl => match us, hl with | [_, _, _], _ => rfl), g6⟩
  obtain ⟨d7, F7'⟩ := c.t.d.def_ 7 (d := mkD "_law_deed" sDeed) rfl
  have g7 := He.glo_ok X G (c.t.d.fact 7 (f := .glo "_law_deed") rfl)
  have F7 : Fun K "_law_deed" "_law_deed" sDeed (He.fAd K ("_law_deed", none)) d7 := funOf F7'
  have D7 : Df K mg "_law_deed" sDeed ["_law_pen_here", "_law_number", "_law_folk_here", "_law_deeds"] _ d7 := ⟨F7, F7.binds (ps := ["_law_pen_here", "_law_number", "_law_folk_here", "_law_deeds"]) (fun _ _ _ _ _ _ us hl => match us, hl with | [_, _, _, _], _ => rfl), g7⟩
  obtain ⟨d8, F8'⟩ := c.t.d.def_ 8 (d := mkD "_law_act" sAct) rfl
  have g8 := He.glo_ok X G (c.t.d.fact 8 (f := .glo "_law_act") rfl)
  have F8 : Fun K "_law_act" "_law_act" sAct (He.fAd K ("_law_act", none)) d8 := funOf F8'
  have D8 : Df K mg "_law_act" sAct ["_law_pen_here", "_law_number", "_law_deeds", "_law_acts"] _ d8 := ⟨F8, F8.binds (ps := ["_law_pen_here", "_law_number", "_law_deeds", "_law_acts"]) (fun _ _ _ _ _ _ us hl => match us, hl with | [_, _, _, _], _ => rfl), g8⟩
  obtain ⟨d9, F9'⟩ := c.t.d.def_ 9 (d := mkD "_law_book" sBook) rfl
  have g9 := He.glo_ok X G (c.t.d.fact 9 (f := .glo "_law_book") rfl)
  have F9 : Fun K "_law_book" "_law_book" sBook (He.fAd K ("_law_book", none)) d9 := funOf F9'
  have D9 : Df K mg "_law_book" sBook ["_law_pen_here", "_law_most"] _ d9 := ⟨F9, F9.binds (ps := ["_law_pen_here", "_law_most"]) (fun _ _ _ _ _ _ us hl => match us, hl with | [_, _], _ => rfl), g9⟩
  obtain ⟨d10, F10'⟩ := c.t.d.def_ 10 (d := mkD "entries_rising" sRising) rfl
  have g10 := He.glo_ok X G (c.t.d.fact 10 (f := .glo "entries_rising") rfl)
  have F10 : Fun K "entries_rising" "entries_rising" sRising (He.fAd K ("entries_rising", none)) d10 := funOf F10'
  have D10 : Df K mg "entries_rising" sRising ["book"] _ d10 := ⟨F10, F10.binds (ps := ["book"]) (fun _ _ _ _ _ _ us hl => match us, hl with | [_], _ => rfl), g10⟩
  obtain ⟨d11, F11'⟩ := c.t.d.def_ 11 (d := mkD "deed_entries" sDeedE) rfl
  have g11 := He.glo_ok X G (c.t.d.fact 11 (f := .glo "deed_entries") rfl)
  have F11 : Fun K "deed_entries" "deed_entries" sDeedE (He.fAd K ("deed_entries", none)) d11 := funOf F11'
  have D11 : Df K mg "deed_entries" sDeedE ["book"] _ d11 := ⟨F11, F11.binds (ps := ["book"]) (fun _ _ _ _ _ _ us hl => match us, hl with | [_], _ => rfl), g11⟩
  obtain ⟨d12, F12'⟩ := c.t.d.def_ 12 (d := mkD "is_whole" sWhole) rfl
  have g12 := He.glo_ok X G (c.t.d.fact 12 (f := .glo "is_whole") rfl)
  have F12 : Fun K "is_whole" "is_whole" sWhole (He.fAd K ("is_whole", none)) d12 := funOf F12'
  have D12 : Df K mg "is_whole" sWhole ["thing"] _ d12 := ⟨F12, F12.binds (ps := ["thing"]) (fun _ _ _ _ _ _ us hl => match us, hl with | [_], _ => rfl), g12⟩
  obtain ⟨d13, F13'⟩ := c.t.d.def_ 13 (d := mkD "is_within" sWithin) rfl
  have g13 := He.glo_ok X G (c.t.d.fact 13 (f := .glo "is_within") rfl)
  have F13 : Fun K "is_within" "is_within" sWithin (He.fAd K ("is_within", none)) d13 := funOf F13'
  have D13 : Df K mg "is_within" sWithin ["thing", "low", "high"] _ d13 := ⟨F13, F13.binds (ps := ["thing", "low", "high"]) (fun _ _ _ _ _ _ us hl => match us, hl with | [_, _, _], _ => rfl), g13⟩
  obtain ⟨d14, F14'⟩ := c.t.d.def_ 14 (d := mkD "is_day" sIsDay) rfl
  have g14 := He.glo_ok X G (c.t.d.fact 14 (f := .glo "is_day") rfl)
  have F14 : Fun K "is_day" "is_day" sIsDay (He.fAd K ("is_day", none)) d14 := funOf F14'
  have D14 : Df K mg "is_day" sIsDay ["thing"] _ d14 := ⟨F14, F14.binds (ps := ["thing"]) (fun _ _ _ _ _ _ us hl => match us, hl with | [_], _ => rfl), g14⟩
  obtain ⟨d15, F15'⟩ := c.t.d.def_ 15 (d := mkD "check_day" sCheckDay) rfl
  have g15 := He.glo_ok X G (c.t.d.fact 15 (f := .glo "check_day") rfl)
  have F15 : Fun K "check_day" "check_day" sCheckDay (He.fAd K ("check_day", none)) d15 := funOf F15'
  have D15 : Df K mg "check_day" sCheckDay ["thing"] _ d15 := ⟨F15, F15.binds (ps := ["thing"]) (fun _ _ _ _ _ _ us hl => match us, hl with | [_], _ => rfl), g15⟩
  obtain ⟨d16, F16'⟩ := c.t.d.def_ 16 (d := mkD "fault_of" sFaultOf) rfl
  have g16 := He.glo_ok X G (c.t.d.fact 16 (f := .glo "fault_of") rfl)
  have F16 : Fun K "fault_of" "fault_of" sFaultOf (He.fAd K ("fault_of", none)) d16 := funOf F16'
  have D16 : Df K mg "fault_of" sFaultOf ["person", "age", "day"] _ d16 := ⟨F16, F16.binds (ps := ["person", "age", "day"]) (fun _ _ _ _ _ _ us hl => match us, hl with | [_, _, _], _ => rfl), g16⟩
  obtain ⟨d17, F17'⟩ := c.t.d.def_ 17 (d := mkD "faults_of" sFaultsOf) rfl
  have g17 := He.glo_ok X G (c.t.d.fact 17 (f := .glo "faults_of") rfl)
  have F17 : Fun K "faults_of" "faults_of" sFaultsOf (He.fAd K ("faults_of", none)) d17 := funOf F17'
  have D17 : Df K mg "faults_of" sFaultsOf ["book"] _ d17 := ⟨F17, F17.binds (ps := ["book"]) (fun _ _ _ _ _ _ us hl => match us, hl with | [_], _ => rfl), g17⟩
  obtain ⟨d18, F18'⟩ := c.t.d.def_ 18 (d := mkD "could_witness" sCouldW) rfl
  have g18 := He.glo_ok X G (c.t.d.fact 18 (f := .glo "could_witness") rfl)
  have F18 : Fun K "could_witness" "could_witness" sCouldW (He.fAd K ("could_witness", none)) d18 := funOf F18'
  have D18 : Df K mg "could_witness" sCouldW ["book", "d"] _ d18 := ⟨F18, F18.binds (ps := ["book", "d"]) (fun _ _ _ _ _ _ us hl => match us, hl with | [_, _], _ => rfl), g18⟩
  obtain ⟨d19, F19'⟩ := c.t.d.def_ 19 (d := mkD "_law_edgy" sLEdgy) rfl
  have g19 := He.glo_ok X G (c.t.d.fact 19 (f := .glo "_law_edgy") rfl)
  have F19 : Fun K "_law_edgy" "_law_edgy" sLEdgy (He.fAd K ("_law_edgy", none)) d19 := funOf F19'
  have D19 : Df K mg "_law_edgy" sLEdgy ["_law_pen_here"] _ d19 := ⟨F19, F19.binds (ps := ["_law_pen_here"]) (fun _ _ _ _ _ _ us hl => match us, hl with | [_], _ => rfl), g19⟩
  obtain ⟨d20, F20'⟩ := c.t.d.def_ 20 (d := mkD "_law_fault" sLFault) rfl
  have g20 := He.glo_ok X G (c.t.d.fact 20 (f := .glo "_law_fault") rfl)
  have F20 : Fun K "_law_fault" "_law_fault" sLFault (He.fAd K ("_law_fault", none)) d20 := funOf F20'
  have D20 : Df K mg "_law_fault" sLFault ["_law_person", "_law_day_here", "_law_age"] _ d20 := ⟨F20, F20.binds (ps := ["_law_person", "_law_day_here", "_law_age"]) (fun _ _ _ _ _ _ us hl => match us, hl with | [_, _, _], _ => rfl), g20⟩
  obtain ⟨d21, F21'⟩ := c.t.d.def_ 21 (d := mkD "_law_thing" sLThing) rfl
  have g21 := He.glo_ok X G (c.t.d.fact 21 (f := .glo "_law_thing") rfl)
  have F21 : Fun K "_law_thing" "_law_thing" sLThing (He.fAd K ("_law_thing", none)) d21 := funOf F21'
  have D21 : Df K mg "_law_thing" sLThing ["_law_pen_here", "_law_deep"] _ d21 := ⟨F21, F21.binds (ps := ["_law_pen_here", "_law_deep"]) (fun _ _ _ _ _ _ us hl => match us, hl with | [_, _], _ => rfl), g21⟩
  obtain ⟨d22, F22'⟩ := c.t.d.def_ 22 (d := mkD "_law_is_refused" sLRef) rfl
  have g22 := He.glo_ok X G (c.t.d.fact 22 (f := .glo "_law_is_refused") rfl)
  have F22 : Fun K "_law_is_refused" "_law_is_refused" sLRef (He.fAd K ("_law_is_refused", none)) d22 := funOf F22'
  have D22 : Df K mg "_law_is_refused" sLRef ["_law_book_here", "_law_thing_here"] _ d22 := ⟨F22, F22.binds (ps := ["_law_book_here", "_law_thing_here"]) (fun _ _ _ _ _ _ us hl => match us, hl with | [_, _], _ => rfl), g22⟩
  obtain ⟨d23, F23'⟩ := c.t.d.def_ 23 (d := mkD "law" sLaw) rfl
  have g23 := He.glo_ok X G (c.t.d.fact 23 (f := .glo "law") rfl)
  have F23 : Fun K "law" "law" sLaw (He.fAd K ("law", none)) d23 := funOf F23'
  have m_range := He.free_ok X G (c.t.d.fact 24 (f := .free "range") rfl)
  have m_min := He.free_ok X G (c.t.d.fact 25 (f := .free "min") rfl)
  have m_max := He.free_ok X G (c.t.d.fact 26 (f := .free "max") rfl)
  have m_tuple := He.free_ok X G (c.t.d.fact 27 (f := .free "tuple") rfl)
  have m_list := He.free_ok X G (c.t.d.fact 28 (f := .free "list") rfl)
  have m_len := He.free_ok X G (c.t.d.fact 29 (f := .free "len") rfl)
  have m_sorted := He.free_ok X G (c.t.d.fact 30 (f := .free "sorted") rfl)
  have m_int := He.free_ok X G (c.t.d.fact 31 (f := .free "int") rfl)
  have m_isinstance := He.free_ok X G (c.t.d.fact 32 (f := .free "isinstance") rfl)
  have m_bool := He.free_ok X G (c.t.d.fact 33 (f := .free "bool") rfl)
  have m_enumerate := He.free_ok X G (c.t.d.fact 34 (f := .free "enumerate") rfl)
  have i_NUMBER : MgInt mg "NUMBER" 0 := He.int_ok X G (c.t.d.fact 35 (f := .int "NUMBER" 0) rfl)
  have i_WORD : MgInt mg "WORD" 4 := He.int_ok X G (c.t.d.fact 36 (f := .int "WORD" 4) rfl)
  have i_DAY : MgInt mg "DAY" 1 := He.int_ok X G (c.t.d.fact 37 (f := .int "DAY" 1) rfl)
  have i_WITNESSES : MgInt mg "WITNESSES" 8 := He.int_ok X G (c.t.d.fact 38 (f := .int "WITNESSES" 8) rfl)
  have i_LAST_DAY : MgInt mg "LAST_DAY" 9999 := He.int_ok X G (c.t.d.fact 39 (f := .int "LAST_DAY" 9999) rfl)
  have e := hfa.symm.trans g23
  cases e
  have b := FunD.bindsA (ps := ["_law_script"]) F23' fun _ _ _ _ _ _ us hl => match us, hl with | [_], _ => rfl
  have B : Bi mg := ⟨m_range, m_min, m_max, m_tuple, m_list, m_len, m_sorted, m_int⟩
  have t0 : (("entries_rising", none) : He.Defn) ∈ tfAll := List.mem_cons_self
  have gNd := He.glo_ok X G (c.t.d.fact 40 (f := .glo "NoDay") rfl)
  obtain ⟨x1, x2, x3, x4⟩ := He.exc_ok (c.t.d.fact 41 (f := .exc "NoDay") rfl)
  have cNo : ExcCl K mg "NoDay" _ := ⟨x1, gNd, x2, x3, x4, He.exm_ok (c.t.d.fact 42 (f := .exm "NoDay" "NoDay" true) rfl)⟩
  refine ⟨d23, tfAll.map (He.cT K), spLaw K [((He.cT K ("entries_rising", none)).2, qRis)], fun p hp => ?_, fun p hp => ?_, fun p hp => ?_, fun s v => b s [v] rfl, fun H a ns hl _ hH hS => ?_, fun base hK hG hTB => ?_⟩
  · obtain ⟨q, hq, rfl⟩ := List.mem_map.mp hp
    exact c.empty q hq
  · obtain ⟨q, hq, rfl⟩ := List.mem_map.mp hp
    exact c.out q hq
  · obtain ⟨q, hq, rfl⟩ := List.mem_map.mp hp
    exact PySem.W.codeHd_of_K X (c.hd q hq)
  · refine ⟨a, ns, rfl, hS, hl, fun p hp => ?_, fun _ => rfl⟩
    rw [List.mem_singleton.mp hp]
    exact TabS.nil (hH _ (List.mem_map.mpr ⟨_, t0, rfl⟩))
  · have tb0 := hTB _ (List.mem_map.mpr ⟨_, t0, rfl⟩)
    have R : RisD K mg base [((He.cT K ("entries_rising", none)).2, qRis)] _ d10 := ⟨D10, ⟨_, _, codeAt F10, tb0, List.mem_cons_self, fun p hp e => by rw [List.mem_singleton.mp hp]⟩, m_sorted, i_NUMBER⟩
    have GDE : ∀ k, FnOk l.prog w K mg base CX0 (k + 3) _ d11 ["book"] (spPick (·.isDeed) _) := fun k => ok_deedE (k := k) D11.F R i_WORD
    let cDr : ∀ k, CDraw l.prog w K mg base (k + 1) := fun k => D2.call (ok_draw D2.F)
    let cMi : ∀ k, CallOk l.prog w K mg base (k + 2) "_law_mixed" _ (spMixed K) := fun k => D5.call (ok_mixed (k := k) D5.F D2 B)
    let cDy : ∀ k, CallOk l.prog w K mg base (k + 2) "_law_day" _ spDay := fun k => D3.call (ok_day (k := k + 1) D3.F (cDr k))
    let cFe : CallOk l.prog w K mg base 3 "_law_few" _ (spFew K) := D6.call (ok_few (k := 2) D6.F (cDr 1) (cMi 0) m_tuple m_sorted)
    let cDe : CallOk l.prog w K mg base 4 "_law_deed" _ (spDeed K) := D7.call (ok_deed (k := 3) D7.F (cDr 2) (cDy 1) (cMi 1) cFe m_list m_range m_len)
    let cAc : CallOk l.prog w K mg base 4 "_law_act" _ (spAct K) := D8.call (ok_act (k := 3) D8.F (cDr 2) (cDy 1) m_len)
    let cFo : CallOk l.prog w K mg base 4 "_law_folk" _ spFolk := D4.call (ok_folk (k := 3) D4.F (cDr 2) m_range m_min m_tuple)
    let cBo : CallOk l.prog w K mg base 5 "_law_book" _ spBook := D9.call (ok_book (k := 4) D9.F (cDr 3) cFo cDe cAc (cMi 2) m_int m_range m_tuple)
    let cEd : CallOk l.prog w K mg base 6 "_law_edgy" _ spLEdgy := D19.call (ok_LEdgy (k := 5) D19.F cBo (cDr 4) m_len m_tuple)
    let cFl : CallOk l.prog w K mg base 12 "_law_fault" _ spLFault := D20.call (ok_LFault (k := 11) D20.F m_int)
    let cFf : ∀ k, CallOk l.prog w K mg base (k + 1) "fault_of" _ spFaultOf := fun k => D16.call (ok_FaultOf (k := k) D16.F)
    let cFs : CallOk l.prog w K mg base 12 "faults_of" _ (spFaultsOf _) := D17.call (ok_FaultsOf (k := 11) D17.F (D11.call (GDE 8)) (cFf 10) i_WITNESSES i_DAY i_NUMBER)
    let cCd : CallOk l.prog w K mg base 11 "check_day" _ spCkDay := D15.call (ok_ckDay (k := 7) D15.F D14 D13 D12 m_isinstance m_int m_bool i_LAST_DAY)
    let cCw : CallOk l.prog w K mg base 12 "could_witness" _ spCouldW0 := D18.call (ok_CouldW0 (k := 11) D18.F cCd (cFf 10) m_enumerate)
    have GCT := ok_ckDayT (P := l.prog) (w := w) (base := base) (k := 6) F15' cNo D14 D13 D12 m_isinstance m_int m_bool i_LAST_DAY
    have GCW := ok_CouldW (k := 10) F18' GCT D15.g D15.F.kp D15.b (cFf 9) m_enumerate
    let cRf : CallOk l.prog w K mg base 12 "_law_is_refused" _ (spLRef K) := D22.call (ok_LRef (k := 11) D22.F cNo GCW D18.g D18.F.kp D18.b)
    let cTh : CallOk l.prog w K mg base 5 "_law_thing" _ (spLThing K 3) := D21.call (ok_LThing (k := 1) D21 (fun n => (cDr n).mono (by omega)) m_range m_tuple 3)
    exact ok_law (k := 12) F23 (D0.call (ok_cell D0.F m_len)) (D1.call (ok_pen D1.F m_int)) (cEd.mono (by decide)) cFl cFs (cDy 10) cCw (cTh.mono (by decide)) cRf m_len m_min m_max m_range m_sorted m_enumerate m_isinstance m_int m_bool
end Deed
open PySem PySem.W PySem.Calls PyProof.Rows
theorem PySem.Challenge.cw_deedsheaf_k46_witnesses_that_could_be_no_holds : PySem.Challenge.rw_deedsheaf_k46_witnesses_that_could_be_no.Holds := by
  w_on; o_law
  refine HandSHeadRun.head_any (r := OpenLaw.row PySem.Challenge.rw_deedsheaf_k46_witnesses_that_could_be_no) (q := view (OpenLaw.row PySem.Challenge.rw_deedsheaf_k46_witnesses_that_could_be_no).prog [35]) (H := Deed.hk) (ob := Deed.ob) (M := 12000) (loose := Deed.looseAll) (d := HandSHeadRun.topDef (OpenLaw.row PySem.Challenge.rw_deedsheaf_k46_witnesses_that_could_be_no).prog 35) (kwd := []) Deed.ob_eq
    (by kernel_rfl) (fun s => by kernel_rfl) Deed.run (by kernel_rfl) (by kernel_rfl) (by kernel_rfl) (by rfl) (by first | assumption | decide +kernel) (by decide +kernel) ⟨rfl, rfl, rfl, rfl, rfl, by decide +kernel⟩ ?hw ?hc
  case hw => w_witness2
  case hc =>
    refine LamX.walk_ofTsE (l := PySem.Challenge.rw_deedsheaf_k46_witnesses_that_could_be_no) (n := 63) (k := 13) (x := "_law_script") (CX := fun _ => L2.CX0) rfl (by decide) (by kernel_rfl) ⟨rfl, by decide, by decide⟩ ?F (fun _ _ _ _ _ z => z)
    intro w mg fa h Y G hmg0
    obtain ⟨K, KX, c⟩ := Y
    have hmg : mg ("law" : PySem.Str) = some (.ref fa) := by
      have e : (HandSHeadRun.topDef (OpenLaw.row PySem.Challenge.rw_deedsheaf_k46_witnesses_that_could_be_no).prog 35).name = ("law" : PySem.Str) := by kernel_rfl
      rw [← e]
      exact hmg0
    exact ⟨K, KX, Deed.facts KX G hmg c⟩
