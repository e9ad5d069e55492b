import PyProof.Rows.All
import Wide.All
import OpenK.AllK
import Wide.FinOn
import KE.SortKeyHeap
import KE.KLam
import HandS.ForMost
import HandS.Flow
import HandS.Style
import HandS.SortInts
import HandS.SortKw
import HandS.TupAny
import HandS.Lambda
import HandS.EndTab
import HandS.Head2
import HandS.HeadEnd
import HandS.HeadHook4
import HandS.HeadWalk
import HandS.Walk
import HandS.IsInst
import HandS.Defaults
import HandS.More
import HandS.DictComp
import HandS.ListItems
import HandS.SetFor
import HandS.Strs
import HandS.Zip
import HandS.TupSets
import KE.SortData
import HandS.Conv
import HandS.WordsDict
import PySem.Challenge.RW_deedsheaf_k47_turns_of_hands
set_option Elab.async false
set_option linter.all false
set_option maxRecDepth 100000
set_option maxHeartbeats 0

namespace Deed
open PySem PySem.Spec PyProof.Rows L2
def topS (i : Nat) : Stmt := PySem.Challenge.pw_deedsheaf_k47_turns_of_hands.main.body.getD i (.Pass ⟨0, 0, 0, 0⟩)
/-! ### heaps: all but the pen at p is as it was -/
def Kp (p : Addr) (H H' : Hp) : Prop := ∀ b o, b ≠ p → H b = some o → H' b = some o
theorem Kp.refl (p : Addr) (H : Hp) : Kp p H H := fun _ _ _ h => h
theorem Kp.trans {p : Addr} {H H1 H2 : Hp} (a : Kp p H H1) (b : Kp p H1 H2) : Kp p H H2 := fun c o n h => b c o n (a c o n h)
theorem Kp.new {p q : Addr} {H : Hp} (n : H q = none) (o : HO) : Kp p H (upd H q o) := fun b u _ e => by
  rw [upd_ne (ne_of_none e n)]
  exact e
theorem Kp.put {p : Addr} {H : Hp} (o : HO) : Kp p H (upd H p o) := fun b u n e => by
  rw [upd_ne n]
  exact e
theorem Kp.same {p : Addr} {H H' : Hp} (h : Same H H') : Kp p H H' := fun b o _ e => h b o e
/-- the pen: four whole numbers, the last one a rest -/
def PenAt (H : Hp) (p : Addr) : Prop := ∃ a f c e : Int, H p = some (.lst [.int a, .int f, .int c, .int e]) ∧ 0 ≤ e ∧ e < 1000000007
theorem PenAt.new {p q : Addr} {H : Hp} (h : PenAt H p) (n : H q = none) (o : HO) : PenAt (upd H q o) p := by
  obtain ⟨a, f, c, e, h1, h2⟩ := h
  refine ⟨a, f, c, e, ?_, h2⟩
  rw [upd_ne (ne_of_none h1 n)]
  exact h1
theorem PenAt.ne {p q : Addr} {H : Hp} {o : HO} (h : PenAt H p) (e : H q = some o) (no : ∀ xs, o ≠ .lst xs) : q ≠ p := fun z => by
  obtain ⟨a, f, c, e', h1, _⟩ := h
  rw [z, h1] at e
  exact no _ (Option.some.inj e).symm
theorem PenAt.free {p q : Addr} {H : Hp} (h : PenAt H p) (n : H q = none) : q ≠ p := fun z => by
  obtain ⟨a, f, c, e', h1, _⟩ := h
  rw [z, h1] at n
  cases n
section
variable {P : Program} {w : World} {K : PySem.W.Frag} {mg : Str → Option Value} {base : Heap}
/-! ### the script's cell -/
abbrev sCell : Stmt := topS 9
theorem scCell : FnScope ["_law_script", "_law_k"] ["_law_script", "_law_k"] (defScope sCell) := ⟨rfl, rfl, rfl, by decide +kernel, rfl, by decide +kernel, by decide +kernel⟩
def spCell (K : PySem.W.Frag) : Sp := fun vs H Q _ => ∃ (a : Addr) (ns : List Int) (k : Int), vs = [.ref a, .int k] ∧ SqL K H a (ns.map V.int) ∧ 0 ≤ k ∧ ∀ v : Int, Q (.int v) H
theorem ok_cell {f : Addr} {fd : FuncData} {k : Nat} (F : Fun K "_law_cell_at" "_law_cell_at" sCell f fd) (ml : mg "len" = none) : FnOk P w K mg base CX0 (k + 1) f fd ["_law_script", "_law_k"] (spCell K) := by
  refine F.ok scCell (fun vs H Q E h => ?_) (fun cdv A outer s H vs Q E hr h => ?_)
  · obtain ⟨a, ns, k, rfl, _⟩ := h
    rfl
  · obtain ⟨a, ns, k, rfl, hS, h0, q⟩ := h
    refine ⟨_, pss_cons (ps_if (pt_cmpR op_lt (pv 1) (pe_callB call_len_seq (by rfl) ml PySem.boot_len (pa_cons (pv 0) pa_nil)) (nomark _)) (pss_one (ps_ret (pe_ix ix_list (pv 0) (pv 1) (fun _ _ => rfl)))) pss_nil)
      (pss_one (ps_ret pe_int)), ?_⟩
    have hl : (ns.map V.int).length = ns.length := List.length_map _
    refine ⟨_, rfl, _, rfl, a, _, rfl, .inl hS, _, _, rfl, rfl, _, rfl, ?_⟩
    refine ite2 (fun c => ?_) (fun c => ?_)
    · have c' : k < (((ns.map V.int).length : Nat) : Int) := of_decide_eq_true c
      rw [hl] at c'
      have hk : k.toNat < ns.length := by omega
      have ek : k = ((k.toNat : Nat) : Int) := by omega
      refine ⟨_, rfl, _, rfl, a, _, _, .int ns[k.toNat], rfl, rfl, hS, ?_, q _⟩
      exact at_of ek (by rw [List.getElem?_map, List.getElem?_eq_getElem hk] <;> rfl)
    · exact q 0
/-! ### the pen -/
abbrev sPen : Stmt := topS 8
theorem scPen : FnScope ["_law_cell"] ["_law_cell"] (defScope sPen) := ⟨rfl, rfl, rfl, by decide +kernel, rfl, by decide +kernel, by decide +kernel⟩
def spPen : Sp := fun vs H Q _ => ∃ (c : Int), vs = [.int c] ∧ ∀ p H', Same H H' → H p = none → PenAt H' p → Q (.ref p) H'
theorem ok_pen {f : Addr} {fd : FuncData} {k : Nat} (F : Fun K "_law_pen" "_law_pen" sPen f fd) (mi : mg "int" = none) : FnOk P w K mg base CX0 (k + 1) f fd ["_law_cell"] spPen := by
  refine F.ok scPen (fun vs H Q E h => ?_) (fun cdv A outer s H vs Q E hr h => ?_)
  · obtain ⟨c, rfl, _⟩ := h
    rfl
  · obtain ⟨c, rfl, q⟩ := h
    refine ⟨_, pss_one (ps_ret (pe_lst (pa_cons (pv 0) (pa_cons (pe_callTy call_int1 (by rfl) mi (by decide +kernel) (pa_cons (pe_cmpR op_ge (pv 0) (pe_op op_pow pe_int pe_int) (nomark _)) pa_nil)) (pa_cons pe_int (pa_cons (pe_op op_mod (pv 0) pe_int) pa_nil)))))), ?_⟩
    refine ⟨_, rfl, _, rfl, _, _, rfl, rfl, ⟨by decide, by decide, by decide⟩, _, _, rfl, rfl, .inr ⟨_, rfl, ?_⟩⟩
    refine ⟨_, rfl, _, _, rfl, rfl, (by show (0 : Int) < 1000000007; decide), (by show 4 ≤ sizeLine; decide), fun p hp => ?_⟩
    refine q p _ (fun b o e => ?_) hp ⟨_, _, _, _, upd_same, Int.emod_nonneg _ (by decide), Int.emod_lt_of_pos _ (by decide)⟩
    rw [upd_ne (ne_of_none e hp)]
    exact e
/-! ### a draw -/
abbrev sDraw : Stmt := topS 10
theorem scDraw : FnScope ["_law_pen_here", "_law_bound", "_law_found", "_law_stir"] ["_law_pen_here", "_law_bound"] (defScope sDraw) := ⟨rfl, rfl, rfl, by decide +kernel, rfl, by decide +kernel, by decide +kernel⟩
def spDraw : Sp := fun vs H Q _ => ∃ (p : Addr) (b : Int), vs = [.ref p, .int b] ∧ PenAt H p ∧ 0 < b ∧ b < 1073741824 ∧ ∀ v H', Kp p H H' → PenAt H' p → 0 ≤ v → v < b → Q (.int v) H'
theorem ok_draw {f : Addr} {fd : FuncData} {k : Nat} (F : Fun K "_law_draw" "_law_draw" sDraw f fd) : FnOk P w K mg base CX0 (k + 1) f fd ["_law_pen_here", "_law_bound"] spDraw := by
  refine F.ok scDraw (fun vs H Q E h => ?_) (fun cdv A outer s H vs Q E hr h => ?_)
  · obtain ⟨p, b, rfl, _⟩ := h
    rfl
  · obtain ⟨p, b, rfl, ⟨x, y, c, e, hp, he0, he1⟩, hb0, hb1, q⟩ := h
    refine ⟨_, pss_cons (ps_if (PW.pt (pw_and (pt_cmpR op_eq (pe_ix ix_list (pv 0) pe_int (fun _ _ => rfl)) pe_int (nomark _)) (pw_and1 (pt_cmpR op_gt (pe_ix ix_list (pv 0) pe_int (fun _ _ => rfl)) pe_int (nomark _)))))
        (pss_cons (ps_set (i := 2) scDraw.nd rfl (.inl rfl) (pe_op op_mod (pe_ix ix_list (pv 0) pe_int (fun _ _ => rfl)) (pv 1)))
        (pss_cons (ps_asg (pe_op op_fdiv (pe_ix ix_list (pv 0) pe_int (fun _ _ => rfl)) (pv 1)) (pg_sub (pv 0) pe_int set_list))
        (pss_one (ps_ret (pv 2))))) pss_nil)
      (pss_cons (ps_asg (pe_op op_add (pe_ix ix_list (pv 0) pe_int (fun _ _ => rfl)) pe_int) (pg_sub (pv 0) pe_int set_list))
      (pss_cons (ps_set (i := 3) scDraw.nd rfl (.inl rfl) (pe_op op_mod (pe_op op_mul (pe_op op_add (pe_ix ix_list (pv 0) pe_int (fun _ _ => rfl)) pe_int) (pe_op op_add pe_int (pe_op op_mul pe_int (pe_ix ix_list (pv 0) pe_int (fun _ _ => rfl))))) pe_int))
      (pss_cons (ps_set (i := 3) scDraw.nd rfl (.inl rfl) (pe_op op_mod (pe_op op_add (pe_op op_add (pe_op op_mul (pv 3) (pv 3)) (pe_op op_mul pe_int (pe_ix ix_list (pv 0) pe_int (fun _ _ => rfl)))) pe_int) pe_int))
      (pss_one (ps_ret (pe_op op_mod (pe_op op_fdiv (pe_op op_mod (pe_op op_mul (pv 3) pe_int) pe_int) pe_int) (pv 1))))))), ?_⟩
    have i0 : ∀ u : V, ∀ r : List V, atI (u :: r) 0 = some u := fun u r => atI_nat (j := 0) rfl
    have i1 : ∀ u v : V, ∀ r : List V, atI (u :: v :: r) 1 = some v := fun u v r => atI_nat (j := 1) rfl
    have i2 : ∀ u v w : V, ∀ r : List V, atI (u :: v :: w :: r) 2 = some w := fun u v w r => atI_nat (j := 2) rfl
    have i3 : ∀ u v w z : V, ∀ r : List V, atI (u :: v :: w :: z :: r) 3 = some z := fun u v w z r => atI_nat (j := 3) rfl
    have hS : SqL K H p [.int x, .int y, .int c, .int e] := SqL.of hp
    refine ⟨_, rfl, p, _, _, _, rfl, rfl, hS, i1 _ _ _, rfl, _, rfl, ?_⟩
    refine ite2 (fun c1 => ?_) (fun c1 => ?slow1)
    refine ⟨_, rfl, p, _, _, _, rfl, rfl, hS, i0 _ _, _, _, rfl, rfl, _, rfl, ?_⟩
    refine ite2 (fun c2 => ?_) (fun c2 => ?slow2)
    · refine ⟨_, rfl, p, _, _, _, rfl, rfl, hS, i0 _ _, _, rfl, _, _, rfl, rfl, hb0, ?_⟩
      refine ⟨_, rfl, p, _, _, _, rfl, rfl, hS, i0 _ _, _, rfl, _, _, rfl, rfl, ⟨hb0, hb1⟩, _, rfl, p, _, 0, 0, rfl, rfl, hp, rfl, ?_⟩
      exact ⟨_, rfl, q _ _ (Kp.put _) ⟨_, _, _, _, upd_same, he0, he1⟩ (Int.emod_nonneg _ (by omega)) (Int.emod_lt_of_pos _ hb0)⟩
    all_goals
      refine ⟨_, rfl, p, _, _, _, rfl, rfl, hS, i2 _ _ _ _, _, _, rfl, rfl, _, rfl, p, _, 2, 2, rfl, rfl, hp, rfl, ?_⟩
      have hp1 : (upd H p (.lst [.int x, .int y, .int (c + 1), .int e])) p = some (.lst [.int x, .int y, .int (c + 1), .int e]) := upd_same
      have hS1 : SqL K (upd H p (.lst [.int x, .int y, .int (c + 1), .int e])) p [.int x, .int y, .int (c + 1), .int e] := SqL.of hp1
      refine ⟨_, rfl, p, _, _, _, rfl, rfl, hS1, i3 _ _ _ _ _, _, _, rfl, rfl, _, rfl, p, _, _, _, rfl, rfl, hS1, i2 _ _ _ _, _, _, rfl, rfl, .inl ⟨by decide, by decide⟩, _, _, rfl, rfl, _, _, rfl, rfl, .inl ⟨by omega, by omega⟩, _, _, rfl, rfl, (by show (0 : Int) < 2147483647; decide), ?_⟩
      have r1 := Int.emod_nonneg ((e + 17) * (69621 + 2 * (c + 1))) (b := 2147483647) (by decide)
      have r2 := Int.emod_lt_of_pos ((e + 17) * (69621 + 2 * (c + 1))) (b := 2147483647) (by decide)
      generalize (e + 17) * (69621 + 2 * (c + 1)) % 2147483647 = st at r1 r2
      refine ⟨_, rfl, _, rfl, _, _, rfl, rfl, .inl ⟨by omega, by omega⟩, _, rfl, p, _, _, _, rfl, rfl, hS1, i2 _ _ _ _, _, _, rfl, rfl, .inl ⟨by decide, by decide⟩, _, _, rfl, rfl, _, _, rfl, rfl, _, _, rfl, rfl, (by show (0 : Int) < 2147483629; decide), ?_⟩
      refine ⟨_, rfl, _, _, rfl, rfl, .inr ⟨by decide, by decide⟩, _, _, rfl, rfl, (by show (0 : Int) < 2147483647; decide), _, _, rfl, rfl, ⟨by decide, by decide⟩, _, rfl, _, _, rfl, rfl, hb0, ?_⟩
      exact q _ _ (Kp.put _) ⟨_, _, _, _, upd_same, he0, he1⟩ (Int.emod_nonneg _ (by omega)) (Int.emod_lt_of_pos _ hb0)
end
end Deed

namespace Deed
open PySem PySem.Spec PyProof.Rows L2
/-- a def of the top: where it stands, how its arguments come, its name -/
structure Df (K : PySem.W.Frag) (mg : Str → Option Value) (x : Str) (st : Stmt) (ps : List Str) (f : Addr) (fd : FuncData) : Prop where
  F : Fun K x x st f fd
  b : Binds K fd ps []
  g : mg x = some (.ref f)
theorem am0 {φ : V → Prop} : ∀ y ∈ ([] : List V), φ y := fun _ h => nomatch h
theorem am1 {φ : V → Prop} {x : V} {xs : List V} (h : φ x) (r : ∀ y ∈ xs, φ y) : ∀ y ∈ x :: xs, φ y := fun y hy => (List.mem_cons.mp hy).elim (fun e => e ▸ h) (r y)
/-- an item of a written list at an open place -/
theorem pick {xs : List V} {i : Int} (φ : V → Prop) (h0 : 0 ≤ i) (h1 : i < (xs.length : Int)) (hx : ∀ x ∈ xs, φ x) : ∃ v, atI xs i = some v ∧ φ v := by
  have hk : i.toNat < xs.length := by omega
  exact ⟨xs[i.toNat], at_of (j := i.toNat) (by omega) (List.getElem?_eq_getElem hk), hx _ (List.getElem_mem hk)⟩
/-- an int within bounds -/
def Within (lo hi : Int) (x : V) : Prop := ∃ n : Int, x = .int n ∧ lo ≤ n ∧ n ≤ hi
section
variable {P : Program} {w : World} {K : PySem.W.Frag} {mg : Str → Option Value} {base : Heap} {fDr : Addr} {dDr : FuncData}
abbrev DrawD (K : PySem.W.Frag) (mg : Str → Option Value) := Df K mg "_law_draw" sDraw ["_law_pen_here", "_law_bound"]
/-- a person at x -/
def PersonAt (H : Hp) (x : V) : Prop := ∃ (a : Addr) (b : Int) (d : V), x = .ref a ∧ H a = some (.tup [.int b, d]) ∧ -9999 ≤ b ∧ b ≤ 9998 ∧ (d = .non ∨ ∃ i : Int, d = .int i ∧ b < i ∧ i ≤ 9999)
theorem PersonAt.kp {p : Addr} {H H' : Hp} {x : V} (h : PersonAt H x) (k : Kp p H H') (P : PenAt H p) : PersonAt H' x := by
  obtain ⟨a, b, d, e, h1, r⟩ := h
  exact ⟨a, b, d, e, k _ _ (P.ne h1 fun _ z => by cases z) h1, r⟩
def FolkAt (H : Hp) (t : Addr) (n : Nat) : Prop := ∃ xs : List V, H t = some (.tup xs) ∧ xs.length = n ∧ ∀ x ∈ xs, PersonAt H x
theorem FolkAt.kp {p : Addr} {H H' : Hp} {t : Addr} {n : Nat} (h : FolkAt H t n) (k : Kp p H H') (P : PenAt H p) : FolkAt H' t n := by
  obtain ⟨xs, h1, h2, h3⟩ := h
  exact ⟨xs, k _ _ (P.ne h1 fun _ z => by cases z) h1, h2, fun x hx => (h3 x hx).kp k P⟩
end
end Deed

namespace Deed
open PySem PySem.Spec PyProof.Rows L2
theorem seqIx {i : Int} {n : Nat} (h0 : 0 ≤ i) (h1 : i < n) : seqIndex? i n = some i.toNat := seqIndex_of h0 h1
theorem rising_of {l : List Int} (hn : l.Nodup) (hp : l.Pairwise (· ≤ ·)) : l.Pairwise (· < ·) := by
  induction l with
  | nil => exact .nil
  | cons x r ih =>
    have h1 := List.nodup_cons.mp hn
    have h2 := List.pairwise_cons.mp hp
    refine List.pairwise_cons.mpr ⟨fun y hy => ?_, ih h1.2 h2.2⟩
    have h3 := h2.1 y hy
    have h4 : x ≠ y := fun e => h1.1 (e ▸ hy)
    omega
theorem perm_erase {α : Type} {l : List α} {k : Nat} {y : α} (h : l[k]? = some y) : (y :: l.eraseIdx k).Perm l := by
  induction l generalizing k with
  | nil => simp at h
  | cons a r ih =>
    cases k with
    | zero =>
      have e : a = y := by simpa using h
      subst e
      exact List.Perm.refl _
    | succ k =>
      have h' : r[k]? = some y := by simpa using h
      show (y :: a :: r.eraseIdx k).Perm (a :: r)
      exact (List.Perm.swap a y _).trans ((ih h').cons a)
theorem erase_map {α β : Type} (f : α → β) : ∀ (l : List α) (k : Nat), (l.map f).eraseIdx k = (l.eraseIdx k).map f
  | [], _ => rfl
  | _ :: _, 0 => rfl
  | a :: r, k + 1 => congrArg (List.cons (f a)) (erase_map f r k)
end Deed

namespace Deed
open PySem PySem.Spec PyProof.Rows L2
/-! ### lists of ints compared -/
theorem dp_ints {K : PySem.W.Frag} {H : Hp} : ∀ ns : List Int, DpAll K H (ns.map V.int) (ns.map PyData.int)
  | [] => .nil
  | n :: r => .cons (.int n) (dp_ints r)
theorem lay_ints : ∀ ns : List Int, PyData.canLayAll0 (ns.map PyData.int) = true
  | [] => by simp [PyData.canLayAll0]
  | n :: r => by simp [PyData.canLayAll0, PyData.canLay0, lay_ints r]
theorem depth_ints : ∀ ns : List Int, PyData.depthAll (ns.map PyData.int) ≤ 1
  | [] => by simp [PyData.depthAll]
  | n :: r => by
    have h := depth_ints r
    simp only [List.map_cons, PyData.depthAll, PyData.depth]
    omega
theorem shaped_ints (ns : List Int) : SeqAt.shaped (.list (ns.map PyData.int)) = true := by
  have h1 := depth_ints ns
  have h2 : PyData.depth (.list (ns.map PyData.int)) ≤ 64 := by
    simp only [PyData.depth]
    omega
  show (PyData.canLay0 (.list (ns.map PyData.int)) && decide (PyData.depth (.list (ns.map PyData.int)) ≤ 64)) = true
  rw [Bool.and_eq_true]
  exact ⟨by simp only [PyData.canLay0]; exact lay_ints ns, decide_eq_true h2⟩
theorem eqvAll_ints : ∀ ns ms : List Int, PyData.eqvAll (ns.map PyData.int) (ms.map PyData.int) = decide (ns = ms)
  | [], [] => by simp [PyData.eqvAll]
  | [], _ :: _ => by simp [PyData.eqvAll]
  | _ :: _, [] => by simp [PyData.eqvAll]
  | n :: r, m :: q => by
    simp only [List.map_cons, PyData.eqvAll, PyData.eqv, eqvAll_ints r q]
    by_cases h : n = m
    · subst h
      simp
    · simp [h]
theorem eqv_ints (ns ms : List Int) : PyData.eqv (.list (ns.map PyData.int)) (.list (ms.map PyData.int)) = decide (ns = ms) := by
  simp only [PyData.eqv]
  exact eqvAll_ints ns ms
theorem mem_inV {n : Int} {ns : List Int} : inV (.int n) (ns.map V.int) = decide (n ∈ ns) := by
  induction ns with
  | nil => simp [inV]
  | cons m r ih =>
    have e : inV (.int n) ((m :: r).map V.int) = (eqV (.int m) (.int n) || inV (.int n) (r.map V.int)) := by simp [inV]
    have e2 : eqV (.int m) (.int n) = decide (m = n) := by
      first | rfl | simp [eqV] | (unfold eqV; simp)
    rw [e, ih, e2]
    by_cases h : m = n
    · subst h
      simp
    · have h' : ¬ n = m := fun z => h z.symm
      simp [h, h']
theorem flat_ints (ns : List Int) : (ns.map V.int).all flatV = true := by
  induction ns with
  | nil => rfl
  | cons n r ih =>
    rw [List.map_cons, List.all_cons, ih]
    rfl
/-! ### entries -/
inductive Kd where
  | deed (g t : Int) (rs ws : List Int)
  | act (x : Str) (o : Int)
structure En where
  num : Int
  day : Int
  wri : Int
  hand : Int
  kd : Kd
def En.isDeed (e : En) : Bool := match e.kd with
  | .deed _ _ _ _ => true
  | .act _ _ => false
/-- the entry e at the address a -/
def EntAt (H : Hp) (a : Addr) (e : En) : Prop := match e.kd with
  | .deed g t rs ws => ∃ r w : Addr, H a = some (.tup [.int e.num, .int e.day, .int e.wri, .int e.hand, .str "deed", .int g, .int t, .ref r, .ref w]) ∧ H r = some (.tup (rs.map V.int)) ∧ H w = some (.tup (ws.map V.int))
  | .act x o => H a = some (.tup [.int e.num, .int e.day, .int e.wri, .int e.hand, .str x, .int o])
/-- all that isn't a list is kept -/
def KpT (H H' : Hp) : Prop := ∀ b xs, H b = some (.tup xs) → H' b = some (.tup xs)
theorem Kp.tup {p : Addr} {H H' : Hp} (k : Kp p H H') (P : PenAt H p) : KpT H H' := fun b xs e => k _ _ (P.ne e fun _ z => by cases z) e
theorem Same.tup {H H' : Hp} (k : Same H H') : KpT H H' := fun b xs e => k _ _ e
theorem KpT.trans {H H1 H2 : Hp} (a : KpT H H1) (b : KpT H1 H2) : KpT H H2 := fun c o h => b c o (a c o h)
theorem EntAt.kp {H H' : Hp} {a : Addr} {e : En} (h : EntAt H a e) (k : KpT H H') : EntAt H' a e := by
  unfold EntAt at h ⊢
  cases hk : e.kd with
  | deed g t rs ws =>
    rw [hk] at h
    obtain ⟨r, w, h1, h2, h3⟩ := h
    exact ⟨r, w, k _ _ h1, k _ _ h2, k _ _ h3⟩
  | act x o =>
    rw [hk] at h
    exact k _ _ h
def EnOk (n : Nat) (ds as : List Int) (e : En) : Prop := (0 ≤ e.day ∧ e.day ≤ 9999) ∧ (0 ≤ e.wri ∧ e.wri ≤ 9999) ∧ (0 ≤ e.hand ∧ e.hand ≤ 3) ∧ match e.kd with
  | .deed g t rs ws => (0 ≤ g ∧ g < n) ∧ (0 ≤ t ∧ t < n) ∧ g ≠ t ∧ rs.length ≤ 2 ∧ rs.Pairwise (· < ·) ∧ (∀ r ∈ rs, r ∈ ds ∧ r < e.num) ∧ ws.length ≤ 3 ∧ ws.Pairwise (· < ·) ∧ ∀ x ∈ ws, 0 ≤ x ∧ x < n ∧ x ≠ g ∧ x ≠ t
  | .act x o => ((x = "undone" ∧ o ∈ as) ∨ ((x = "paid" ∨ x = "void") ∧ o ∈ ds)) ∧ o < e.num
theorem EnOk.mono {n : Nat} {ds as ds' as' : List Int} {e : En} (h : EnOk n ds as e) (h1 : ∀ x ∈ ds, x ∈ ds') (h2 : ∀ x ∈ as, x ∈ as') : EnOk n ds' as' e := by
  unfold EnOk at h ⊢
  obtain ⟨a, b, c, d⟩ := h
  refine ⟨a, b, c, ?_⟩
  cases hk : e.kd with
  | deed g t rs ws =>
    rw [hk] at d
    obtain ⟨d1, d2, d3, d4, d5, d6, d7⟩ := d
    exact ⟨d1, d2, d3, d4, d5, fun r hr => ⟨h1 _ (d6 r hr).1, (d6 r hr).2⟩, d7⟩
  | act x o =>
    rw [hk] at d
    obtain ⟨d1, d2⟩ := d
    refine ⟨?_, d2⟩
    rcases d1 with ⟨z, m⟩ | ⟨z, m⟩
    · exact .inl ⟨z, h2 _ m⟩
    · exact .inr ⟨z, h1 _ m⟩
/-- the built-ins' names are the built-ins' -/
structure Bi (mg : Str → Option Value) : Prop where
  range : mg "range" = none
  min : mg "min" = none
  max : mg "max" = none
  tuple : mg "tuple" = none
  list : mg "list" = none
  len : mg "len" = none
  sorted : mg "sorted" = none
  int : mg "int" = none
end Deed

namespace Deed
open PySem PySem.Spec PyProof.Rows L2
def rLenS (K : PySem.W.Frag) : List V → Hp → VK → Prop := fun xs H Q => ∃ p ys, xs = [.ref p] ∧ (SqL K H p ys ∨ SqT K H p ys) ∧ Q (.int ys.length) H
section
variable {P : Program} {w : World} {K : PySem.W.Frag} {mg : Str → Option Value} {base : Heap} {fDr : Addr} {dDr : FuncData}
/-! ### in another order -/
abbrev sMixed : Stmt := topS 12
abbrev nMixed : List Str := ["_law_pen_here", "_law_some", "_law_left", "_law_k"]
theorem scMixed : FnScope nMixed ["_law_pen_here", "_law_some"] (defScope sMixed) := ⟨rfl, rfl, rfl, by decide +kernel, rfl, by decide +kernel, by decide +kernel⟩
def spMixed (K : PySem.W.Frag) : Sp := fun vs H Q _ => ∃ (p a : Addr) (xs : List V), vs = [.ref p, .ref a] ∧ PenAt H p ∧ (SqL K H a xs ∨ SqT K H a xs) ∧ xs.length ≤ 1000 ∧
  ∀ l (ys : List V) H', Kp p H H' → PenAt H' p → H l = none → H' l = some (.lst ys) → ys.Perm xs → Q (.ref l) H'
theorem ok_mixed {f : Addr} {fd : FuncData} {k : Nat} (F : Fun K "_law_mixed" "_law_mixed" sMixed f fd) (D : DrawD K mg fDr dDr) (B : Bi mg) : FnOk P w K mg base CX0 (k + 2) f fd ["_law_pen_here", "_law_some"] (spMixed K) := by
  have G : FnOk P w K mg base CX0 (k + 1) fDr dDr ["_law_pen_here", "_law_bound"] spDraw := ok_draw D.F
  refine F.ok scMixed (fun vs H Q E h => ?_) (fun cdv A outer s H vs Q E hr h => ?_)
  · obtain ⟨p, a, xs, rfl, _⟩ := h
    rfl
  · obtain ⟨p, a, xs, rfl, hP, hS, hxl, q⟩ := h
    refine ⟨_, pss_cons (ps_set (i := 2) scMixed.nd rfl (.inr rfl) (pe_callTy call_list_of (by rfl) B.list (by decide +kernel) (pa_cons (pv 1) pa_nil)))
      (pss_one (ps_ret (pe_lc (own := [("_law_k", 3)]) (g := gName 3) (by rfl) scMixed.nd (pi_range1 (by rfl) B.range (pa_cons (pe_callB call_len_seq (by rfl) B.len PySem.boot_len (pa_cons (pv 2) pa_nil)) pa_nil)) (blkOk_by (own := [("_law_k", 3)]) (N := nMixed) (sc := defScope sMixed) (by decide +kernel)) (fun _ _ _ _ _ => pg_name (i := 3) scMixed.nd rfl (Or.inl rfl)) (fun _ _ _ _ _ => pts_nil)
        (fun _ _ _ _ _ => show PE _ _ (tBM K "list" rPopAt (tVar 2) (tCons (tCall spDraw [] E0 (tCons (tVar 0) (tCons (tCB (rLenS K) (tCons (tVar 2) tNil)) tNil))) tNil)) from pe_bm PySem.F.plainAttrs_list PySem.F.slot_list_pop PySem.F.type_list_pop mt_popAt (pv 2) (pa_cons (pe_call G hr (by rfl) D.g D.F.kp D.b .nil pass0 (pa_cons (pv 0) (pa_cons (pe_callB call_len_seq (by rfl) B.len PySem.boot_len (pa_cons (pv 2) pa_nil)) pa_nil))) pa_nil))))), ?_⟩
    refine ⟨_, rfl, a, _, rfl, hS, fun l hl => ?_⟩
    have nl : l ≠ p := hP.free hl
    have el : (upd H l (.lst xs)) l = some (.lst xs) := upd_same
    refine ⟨_, rfl, l, xs, rfl, .inl (SqL.of el), _, rfl, by omega, by omega, fun o no => ?_⟩
    have no' : o ≠ p := (hP.new hl _).free no
    have nlo : l ≠ o := fun z => by
      rw [← z, el] at no
      cases no
    have hno : H o = none := by
      rw [upd_ne nlo.symm] at no
      exact no
    refine lc_range (lo := 0) (n := ((xs.length : Nat) : Int).toNat) (fun i H' => ∃ ys ls : List V, H' o = some (.lst ys) ∧ H' l = some (.lst ls) ∧ Kp p H H' ∧ PenAt H' p ∧ ys.length = i ∧ (ys ++ ls).Perm xs)
      ⟨[], xs, upd_same, by rw [upd_ne nlo]; exact el, (Kp.new hl _).trans (Kp.new no _), (hP.new hl _).new no _, rfl, List.Perm.refl _⟩ ?_ ?_
    · rintro i H' hi ⟨ys, ls, e1, e2, k', P', hyl, hpm⟩
      have hll : ls.length = xs.length - i := by
        have := hpm.length_eq
        rw [List.length_append] at this
        omega
      refine ⟨rfl, ?_⟩
      unfold tYes
      dsimp only
      rw [if_pos rfl]
      refine ⟨_, rfl, .inl ⟨rfl, _, SqL.of e2⟩, _, rfl, _, rfl, l, ls, rfl, .inl (SqL.of e2), p, _, rfl, P', by omega, by omega, fun v2 H2 k2 P2 a2 b2 => ?_⟩
      have e1' := k2 _ _ no' e1
      have e2' := k2 _ _ nl e2
      have hk : v2.toNat < ls.length := by omega
      refine ⟨l, _, v2, v2.toNat, ls[v2.toNat], rfl, rfl, e2', by omega, by omega, seqIx a2 (by omega), List.getElem?_eq_getElem hk, ?_⟩
      refine ⟨ys, by rw [upd_ne nlo.symm]; exact e1', small1000 (by omega), ys ++ [ls[v2.toNat]], ls.eraseIdx v2.toNat, upd_same, by rw [upd_ne nlo, upd_same], fun b z n1 e => ?_, ?_, ?_, ?_⟩
      · rw [upd_ne (ne_of_none e hno), upd_ne (ne_of_none e hl)]
        exact (k'.trans k2) _ _ n1 e
      · obtain ⟨x1, x2, x3, x4, z1, z2⟩ := P2
        exact ⟨x1, x2, x3, x4, by rw [upd_ne no'.symm, upd_ne nl.symm]; exact z1, z2⟩
      · rw [List.length_append, hyl]
        rfl
      · have h1 : (ls[v2.toNat] :: ls.eraseIdx v2.toNat).Perm ls := perm_erase (List.getElem?_eq_getElem hk)
        refine List.Perm.trans ?_ hpm
        rw [List.append_assoc]
        exact List.Perm.append_left ys h1
    · rintro H' ⟨ys, ls, e1, e2, k', P', hyl, hpm⟩
      refine q o ys H' k' P' hno e1 ?_
      have h0 : ls = [] := by
        have := hpm.length_eq
        rw [List.length_append] at this
        exact List.length_eq_zero_iff.mp (by omega)
      rw [h0, List.append_nil] at hpm
      exact hpm
end
end Deed

namespace Deed
open PySem PySem.Spec PyProof.Rows L2
theorem perm_pairs {α β : Type} (f : α → β) {ys xs : List β} (h : ys.Perm xs) : ∀ zs : List α, xs = zs.map f → ∃ zs' : List α, ys = zs'.map f ∧ zs'.Perm zs := by
  induction h with
  | nil =>
    intro zs e
    cases zs with
    | nil => exact ⟨[], rfl, List.Perm.refl _⟩
    | cons z r => cases e
  | cons x _ ih =>
    intro zs e
    cases zs with
    | nil => cases e
    | cons z r =>
      rw [List.map_cons] at e
      injection e with e1 e2
      obtain ⟨zs', h1, h2⟩ := ih r e2
      exact ⟨z :: zs', by rw [List.map_cons, ← h1, e1], h2.cons z⟩
  | swap x y l =>
    intro zs e
    match zs, e with
    | [], e => cases e
    | [_], e => cases e
    | a :: b :: r, e =>
      rw [List.map_cons, List.map_cons] at e
      injection e with e1 e2
      injection e2 with e2 e3
      exact ⟨b :: a :: r, by rw [List.map_cons, List.map_cons, ← e1, ← e2, ← e3], List.Perm.swap _ _ _⟩
  | trans _ _ ih1 ih2 =>
    intro zs e
    obtain ⟨z1, h1, h2⟩ := ih2 zs e
    obtain ⟨z2, h3, h4⟩ := ih1 z1 h1
    exact ⟨z2, h3, h4.trans h2⟩
def dn (es : List En) : List Int := (es.filter (·.isDeed)).map (·.num)
def an (es : List En) : List Int := (es.filter (fun e => !e.isDeed)).map (·.num)
theorem dn_snoc (es : List En) (e : En) : dn (es ++ [e]) = dn es ++ (if e.isDeed then [e.num] else []) := by
  unfold dn
  rw [List.filter_append, List.map_append]
  cases h : e.isDeed <;> simp [List.filter, h]
theorem an_snoc (es : List En) (e : En) : an (es ++ [e]) = an es ++ (if e.isDeed then [] else [e.num]) := by
  unfold an
  rw [List.filter_append, List.map_append]
  cases h : e.isDeed <;> simp [List.filter, h]
theorem dn_sub (es : List En) : ∀ x ∈ dn es, x ∈ es.map (·.num) := fun x hx => by
  obtain ⟨e, he, rfl⟩ := List.mem_map.mp hx
  exact List.mem_map.mpr ⟨e, (List.mem_filter.mp he).1, rfl⟩
theorem an_sub (es : List En) : ∀ x ∈ an es, x ∈ es.map (·.num) := fun x hx => by
  obtain ⟨e, he, rfl⟩ := List.mem_map.mp hx
  exact List.mem_map.mpr ⟨e, (List.mem_filter.mp he).1, rfl⟩
theorem dn_nodup {es : List En} (h : (es.map (fun e => e.num)).Nodup) : (dn es).Nodup := by
  have h1 : (es.filter (fun e => e.isDeed)).Sublist es := List.filter_sublist
  exact (h1.map (fun e => e.num)).nodup h
theorem dn_len (es : List En) : (dn es).length ≤ es.length := by
  unfold dn
  rw [List.length_map]
  exact List.length_filter_le _ _
theorem an_len (es : List En) : (an es).length ≤ es.length := by
  unfold an
  rw [List.length_map]
  exact List.length_filter_le _ _
theorem mem_dn {es : List En} {x : Int} : x ∈ dn es ↔ ∃ e ∈ es, e.isDeed = true ∧ e.num = x := by
  unfold dn
  simp only [List.mem_map, List.mem_filter]
  constructor
  · rintro ⟨e, ⟨h1, h2⟩, h3⟩
    exact ⟨e, h1, h2, h3⟩
  · rintro ⟨e, h1, h2, h3⟩
    exact ⟨e, ⟨h1, h2⟩, h3⟩
theorem mem_an {es : List En} {x : Int} : x ∈ an es ↔ ∃ e ∈ es, e.isDeed = false ∧ e.num = x := by
  unfold an
  simp only [List.mem_map, List.mem_filter, Bool.not_eq_true']
  constructor
  · rintro ⟨e, ⟨h1, h2⟩, h3⟩
    exact ⟨e, h1, h2, h3⟩
  · rintro ⟨e, h1, h2, h3⟩
    exact ⟨e, ⟨h1, h2⟩, h3⟩
/-- entries of a book of n folk -/
structure BkOk (n : Nat) (es : List En) : Prop where
  nd : (es.map (·.num)).Nodup
  rng : ∀ e ∈ es, 0 ≤ e.num ∧ e.num ≤ 30
  ok : ∀ e ∈ es, EnOk n (dn es) (an es) e
theorem BkOk.perm {n : Nat} {es es' : List En} (h : BkOk n es) (p : es'.Perm es) : BkOk n es' := by
  refine ⟨(p.map _).nodup_iff.mpr h.nd, fun e he => h.rng e (p.mem_iff.mp he), fun e he => (h.ok e (p.mem_iff.mp he)).mono (fun x hx => ?_) fun x hx => ?_⟩
  · obtain ⟨e', h1, h2⟩ := mem_dn.mp hx
    exact mem_dn.mpr ⟨e', p.mem_iff.mpr h1, h2⟩
  · obtain ⟨e', h1, h2⟩ := mem_an.mp hx
    exact mem_an.mpr ⟨e', p.mem_iff.mpr h1, h2⟩
def En.word (e : En) : Str := match e.kd with
  | .deed _ _ _ _ => "deed"
  | .act x _ => x
theorem EnOk.word {n : Nat} {ds as : List Int} {e : En} (h : EnOk n ds as e) : e.word = "deed" ↔ e.isDeed = true := by
  unfold En.word En.isDeed
  cases hk : e.kd with
  | deed g t rs ws => simp
  | act x o =>
    have h4 := h.2.2.2
    rw [hk] at h4
    simp only [Bool.false_eq_true, iff_false]
    rcases h4.1 with ⟨z, _⟩ | ⟨z | z, _⟩ <;> rw [z] <;> decide
/-- the first places of an entry -/
theorem EntAt.tup {H : Hp} {a : Addr} {e : En} (h : EntAt H a e) : ∃ xs, H a = some (.tup xs) ∧ atI xs 0 = some (.int e.num) ∧ atI xs 1 = some (.int e.day) ∧ atI xs 2 = some (.int e.wri) ∧ atI xs 3 = some (.int e.hand) ∧ atI xs 4 = some (.str e.word) := by
  unfold EntAt at h
  unfold En.word
  cases hk : e.kd with
  | deed g t rs ws =>
    rw [hk] at h
    obtain ⟨r, w, h1, _⟩ := h
    exact ⟨_, h1, atI_nat (j := 0) rfl, atI_nat (j := 1) rfl, atI_nat (j := 2) rfl, atI_nat (j := 3) rfl, atI_nat (j := 4) rfl⟩
  | act x o =>
    rw [hk] at h
    exact ⟨_, h, atI_nat (j := 0) rfl, atI_nat (j := 1) rfl, atI_nat (j := 2) rfl, atI_nat (j := 3) rfl, atI_nat (j := 4) rfl⟩
theorem FolkAt.kpT {H H' : Hp} {t : Addr} {n : Nat} (h : FolkAt H t n) (k : KpT H H') : FolkAt H' t n := by
  obtain ⟨xs, h1, h2, h3⟩ := h
  refine ⟨xs, k _ _ h1, h2, fun x hx => ?_⟩
  obtain ⟨a, b, d, e, h4, r⟩ := h3 x hx
  exact ⟨a, b, d, e, k _ _ h4, r⟩
theorem KpT.lst {H : Hp} {l : Addr} {xs : List V} (e : H l = some (.lst xs)) (o : HO) : KpT H (upd H l o) := fun b ys h => by
  have nb : b ≠ l := fun z => by
    rw [z, e] at h
    cases h
  rw [upd_ne nb]
  exact h
theorem KpT.refl (H : Hp) : KpT H H := fun _ _ h => h
theorem Kp.over {p l : Addr} {H H' : Hp} (k : Kp p H H') (n : H l = none) (o : HO) : Kp p H (upd H' l o) := fun b u n1 e => by
  rw [upd_ne (ne_of_none e n)]
  exact k _ _ n1 e
theorem PenAt.put {p l : Addr} {H : Hp} (h : PenAt H p) (n : l ≠ p) (o : HO) : PenAt (upd H l o) p := by
  obtain ⟨x1, x2, x3, x4, z1, z2⟩ := h
  exact ⟨x1, x2, x3, x4, by rw [upd_ne n.symm]; exact z1, z2⟩
abbrev refs (zs : List (Addr × En)) : List V := zs.map fun z => .ref z.1
abbrev ens (zs : List (Addr × En)) : List En := zs.map (·.2)
/-- a book at b -/
structure BookAt (H : Hp) (b fk t : Addr) (n : Nat) (age : Int) (zs : List (Addr × En)) : Prop where
  at_ : H b = some (.tup [.ref fk, .int age, .ref t])
  folk : FolkAt H fk n
  n2 : 2 ≤ n
  n6 : n ≤ 6
  age0 : 0 ≤ age
  age1 : age ≤ 9999
  ents : H t = some (.tup (refs zs))
  ent : ∀ z ∈ zs, EntAt H z.1 z.2
  ok : BkOk n (ens zs)
  len : zs.length ≤ 16
theorem BookAt.kp {H H' : Hp} {b fk t : Addr} {n : Nat} {age : Int} {zs : List (Addr × En)} (h : BookAt H b fk t n age zs) (k : KpT H H') : BookAt H' b fk t n age zs :=
  ⟨k _ _ h.at_, h.folk.kpT k, h.n2, h.n6, h.age0, h.age1, k _ _ h.ents, fun z hz => (h.ent z hz).kp k, h.ok, h.len⟩
end Deed

namespace Deed
open PySem PySem.Spec PySem.W PyProof.Rows L2 LamX
/-! ### sorted(e, key=lambda x: x[0]) of a list or tuple of tuples -/
section
variable {prog : Program} {w : World} {A : Around} {E : Value → Shared → Prop} {s : Shared}
theorem collectT {l : Addr} {vs : List Value} {Q : List Value → Shared → Prop} (ht : s.heap.IsTuple l vs.toArray) (hsz : vs.length ≤ sizeLine)
    (h : Q vs { s with heap := (s.heap.push (seqObj "list" #[] 0)).update s.heap.objs.size (Obj.mapSeq (· ++ vs.toArray)) }) : wpAny (model prog w) A (collect (.ref l)) Q E s := by
  obtain ⟨ob, g0, gc, ep, gd⟩ := id ht
  have g1 : (s.heap.push (seqObj "list" #[] 0)).get? l = some ob := Heap.get?_push_of_some _ g0
  unfold collect
  refine wpAny_bind (m := _) (wpAny_runValue (codeAny_builtin entry_proto_collect' ?_))
  show wpAny _ _ (do again (.builtin "list.__iadd__" ⟨[← newList [], Value.ref l], []⟩)) _ _ s
  refine wpAny_bind (wpAny_newList (wpAny_pure ⟨Code.quiet_builtin _ (by decide +kernel), (codeAny_builtin entry_list_iadd' ?_)⟩))
  show wpAny _ _ (Builtin.List.listExtendWith (.ref s.heap.objs.size) (Value.ref l) (.ref s.heap.objs.size)) _ _ { s with heap := s.heap.push (seqObj "list" #[] 0) }
  unfold Builtin.List.listExtendWith
  refine wpAny_bind (wpAny_typeOf (T := "tuple") ⟨ob, g1, gc⟩ ?_)
  have tt : (Value.type "tuple" == Value.type "tuple") = true := by rfl
  rw [if_pos (by simp [tt])]
  refine wpAny_bind (listItems_at g1 gd ?_)
  refine wpAny_bind (listItems_at (n := 0) (xs := #[]) (Heap.get?_push_size _ rfl) rfl ?_)
  rw [if_neg (fun z => by simp at z)]
  refine wpAny_bind (listUpdate_at (n := 0) (xs := #[]) (Heap.get?_push_size _ rfl) rfl ?_ (Nat.zero_le _) (by show (#[] ++ vs.toArray).size ≤ sizeLine + 1; simp only [Array.size_append, List.size_toArray, List.length_nil]; omega))
  refine wpAny_pure (?_)
  show wpAny (model prog w) A (do let o ← load s.heap.objs.size; match o.data with | .seq xs _ => pure xs.toList | _ => unsupported "internal:collect") Q E { s with heap := (s.heap.push (seqObj "list" #[] 0)).update s.heap.objs.size (Obj.mapSeq (· ++ vs.toArray)) }
  refine wpAny_bind (wpAny_load (get?_update_seq (Heap.get?_push_size _ rfl) _) (?_))
  show wpAny _ _ (pure (((#[] : Array Value) ++ vs.toArray).toList)) Q E _
  rw [show (((#[] : Array Value) ++ vs.toArray).toList) = vs by simp]
  exact wpAny_pure h
theorem collectS {l : Addr} {vs : List Value} {Q : List Value → Shared → Prop} (hl : s.heap.IsList l vs.toArray ∨ s.heap.IsTuple l vs.toArray) (hsz : vs.length ≤ sizeLine)
    (h : Q vs { s with heap := (s.heap.push (seqObj "list" #[] 0)).update s.heap.objs.size (Obj.mapSeq (· ++ vs.toArray)) }) : wpAny (model prog w) A (collect (.ref l)) Q E s := by
  rcases hl with hl | hl
  · exact collect_list hl h hsz
  · exact collectT hl hsz h
/-- sorted(e, key=f), e a list or a tuple, the keys ints -/
theorem sortedK {β : Type} {l f : Addr} {vs : List Value} {bs : List β} {R : Value → β → Prop} {Q : Value → Shared → Prop} (k : β → Int) (hl : s.heap.IsList l vs.toArray ∨ s.heap.IsTuple l vs.toArray) (e : EachIs R vs bs) (hL : bs.length ≤ sizeLine) (hu : A.units + 66 < cLine)
    (turn : ∀ (v : Value) (x : β), R v x → x ∈ bs → ∀ (h : Heap) (tk : Nat), (∀ b o, s.heap.get? b = some o → h.get? b = some o) →
      wpAny (model prog w) A.in1.in1 (call (.ref f) [v]) (KeyPure (.int (k x)) { s with heap := h, toks := tk }) (fun _ _ => False) { s with heap := h, toks := tk })
    (h : ∀ out c h' tk, (∀ b o, s.heap.get? b = some o → h'.get? b = some o) → h'.get? (s.heap.objs.size + 1) = some (seqObj "list" (List.toArray out) c) → out.length = bs.length → EachIs R out (bs.mergeSort (dataLe false fun x => .int (k x))) →
      Q (.ref (s.heap.objs.size + 1)) { s with heap := h', toks := tk }) :
    wpAny (model prog w) A (call (.builtin "sorted") [.ref l] [(Str.ofString "key", .ref f)]) Q E s := by
  have hv : vs.length ≤ sizeLine := by rw [e.length]; exact hL
  have up : ∀ {g : Heap}, KeepsBut (s.heap.objs.size + 1) (copyHeap s.heap vs) g → ∀ b o, s.heap.get? b = some o → g.get? b = some o := fun kp b o z =>
    kp b o (Nat.ne_of_lt (Nat.lt_succ_of_lt (Heap.lt_size z))) (copyHeap_old z)
  have ez : ((s.heap.push (seqObj "list" #[] 0)).update s.heap.objs.size (Obj.mapSeq (· ++ vs.toArray))).objs.size = s.heap.objs.size + 1 := by rw [Heap.size_update, size_push']
  refine call_function_entry_kw kind_sorted plain_sorted entry_sorted (ksk_s1 _ _) ?_
  unfold Builtin.«sorted»
  refine wpAny_bind (m := checkCount "sorted" 1 1 _) (wpAny_pure (?_))
  refine wpAny_bind (collectS hl hv ?_)
  refine wpAny_bind (wpAny_newList (?_) hv)
  show wpAny _ _ _ _ _ { s with heap := copyHeap s.heap vs }
  rw [ez]
  refine wpAny_bind (wpAny_holding (wpAny_call_entry_kw slot_list_sort ⟨_, copyHeap_at s.heap vs, rfl⟩ entry_list_sort (?body) (ksk_l1 _ _)))
  case body =>
    show wpAny (model prog w) A.in1.in1 (Builtin.«list.sort» ⟨[.ref (s.heap.objs.size + 1)], [(Str.ofString "key", .ref f)]⟩) _ _ _
    rw [ksk_t1]
    refine keyH_tree (kz := bs.map fun x => PyData.int (k x)) (s := { s with heap := copyHeap s.heap vs }) (copyHeap_at s.heap vs) (by rw [List.length_map]; exact e.length.symm) hv (AllAlike.of fun _ _ => by simp [alike]) ?srt (fun d hd => ?dep)
      (keyH_turns (k := fun x => PyData.int (k x)) (s := { s with heap := copyHeap s.heap vs }) e fun v x hR hx h tk kp => turn v x hR hx h tk (up kp)) fun h' tk out c kp hD ko => ?fin
    case srt => exact Sortable.others fun _ => ⟨(fun z => nomatch z), (fun _ z => nomatch z)⟩
    case dep =>
      obtain ⟨x, _, rfl⟩ := List.mem_map.mp hd
      show A.units + 1 + 1 + PyData.depth (.int (k x)) < cLine
      simp only [PyData.depth]
      omega
    case fin =>
      exact ⟨_, rfl, wpAny_pure ⟨_, rfl, h out c h' tk (up kp) hD ((ko.length (by rw [List.length_map]; exact e.length.symm)).trans e.length) (keyedOut_each (fun x => PyData.int (k x)) ko e)⟩⟩
/-- the call of the lambda -/
theorem lam_key {f c' t : Addr} {x q : Str} {params : Arguments} {ix : Expr} {scope : Scope} {cl : List (Str × Addr)} {pm ctv : Value} {p1 p3 : Pos} {items : Array Value} {kk : Int} {u : Tok} {mg : Str → Option Value}
    (of : s.heap.get? f = some (kla_obj "<lambda>" q params (.Subscript (.Name x p1) ix p3) scope cl pm c' ctv)) (hcd : s.heap.CodeRec (.ref c') q) (hroom : A.depth < recursionLimit) (lim : s.heap.NoLimit) (ns : s.heap.Ns mainGlobals mg)
    (hk : scope.kind = .function) (hco : scope.isCoroutine = false) (hgen : scope.isGenerator = false) (hcell : ∀ y ∈ scope.names, y.2 ≠ .cell) (hloc : scope.names.lookup x = some .local)
    (hbind : ∀ v : Value, bindArgs (kla_fn "<lambda>" q params (.Subscript (.Name x p1) ix p3) scope cl pm (.ref c') ctv) ⟨[v], []⟩ = pure [(x, v)])
    (hix : ∀ (env : Env) (A : Around) (E : Value → Shared → Prop) (s' : Shared) (Q : Value → Shared → Prop), env.scope = scope → env.globals = mainGlobals → s'.heap.Ns mainGlobals mg → (∀ u tk, Q (.int 0 u) { s' with toks := tk }) → wpAny (model prog w) A (eval ix env) Q E s')
    (hpl : PlainIx ix) (hd : (x == ("__debug__" : Str)) = false) (ht : s.heap.IsTuple t items) (hx : items[0]? = some (.int kk u)) :
    wpAny (model prog w) A (call (.ref f) [.ref t]) (KeyPure (.int kk) s) (fun _ _ => False) s := by
  refine wpAny_call (kla_callFunE hroom of rfl hco hgen rfl hcd ?_)
  rw [hbind]
  refine wpAny_pure (wpAny_newFunctionEnv hcell (fun y hy => ?_) (fun h₁ hns hsb => ⟨lim.fresh _ hsb, ?_⟩) hk)
  · rw [List.mem_singleton.mp hy]
    exact hloc
  have kp : ∀ b o, s.heap.get? b = some o → h₁.get? b = some o := fun b o z => hsb.extBut b o (Nat.ne_of_lt (Heap.lt_size z)) (Heap.get?_push_of_some _ z)
  refine kla_codeExpr (Subscript_ (wpAny_Name (wpAny_loadName_local hk hloc hns (v := .ref t) (by simp) ?_) hd))
  refine hix _ _ _ _ _ rfl rfl (ns.keeps kp) fun u' tk' => ?_
  have ht1 : h₁.IsTuple t items := by
    obtain ⟨o, z1, z2, z3⟩ := ht
    exact ⟨o, kp _ _ z1, z2, z3⟩
  have hsz : 0 < items.size := by
    rcases Nat.eq_zero_or_pos items.size with z | z
    · rw [Array.getElem?_eq_none (by omega)] at hx
      cases hx
    · exact z
  refine subscriptTail_builtinR (x := .int kk u) (ht1.typeIs) slot_tuple_getitem.lookup (getItem_tuple (j := 0) (Q := fun r s' => r = .int kk u ∧ KeyPure (.int kk) s r s') ht1 (by decide) (by decide) (seqIndex_of (by decide) (by omega)) hx ⟨rfl, ?_⟩) (hpl _ _)
  exact ⟨h₁, _, rfl, kp, .int _ _⟩
end
end Deed

namespace Deed
open PySem PySem.Spec PySem.W PyProof.Rows L2 LamX
theorem each_vals {xs : List V} {us : List Value} (r : Vals xs us) : EachIs (fun u y => RelV y u) us xs := by
  induction r with
  | nil => exact .nil
  | cons h _ ih => exact .cons h ih
theorem vals_each {xs : List V} {us : List Value} (r : EachIs (fun u y => RelV y u) us xs) : Vals xs us := by
  induction r with
  | nil => exact .nil
  | cons h _ ih => exact .cons h ih
/-- sorted(e, key=lambda x: x[0]): some arrangement by the keys, at a new address; a table may have grown -/
def tSortK (K : PySem.W.Frag) (T : List (Addr × Str)) (te : TA) : TE := fun σ H Q => te σ H fun vs H1 => ∃ (a : Addr) (xs : List V) (ks : V → Int), vs = [.ref a] ∧ (SqL K H1 a xs ∨ SqT K H1 a xs) ∧ (∀ y ∈ xs, ∃ t r, y = .ref t ∧ H1 t = some (.tup (.int (ks y) :: r))) ∧ Tabs T H1 ∧
  ∀ p ys H2, ExtN H1 H2 → Tabs T H2 → H2 p = none → ys.Perm xs → ys.Pairwise (fun u v => ks u ≤ ks v) → Q (.ref p) (upd H2 p (.lst ys))
section
variable {X : Cx}
theorem pe_sortK {T : List (Addr × Str)} {c P : Addr} {k : Nat} {e ix : Expr} {te : TA} {x : Str} {params : Arguments} {scope : Scope} {p p1 p3 lpos kpos pos : Pos}
    (hg : Gl X "sorted") (hm : X.mg "sorted" = none) (ha : PA X [e] te) (hr : Room (k + 1) X.A) (TB : TabB X.base X.mg c P) (hcode : X.env.code = .ref c) (hmT : (P, X.env.qual ++ "<lambda>") ∈ T) (hu : ∀ p ∈ T, p.1 = P → p.2 = X.env.qual ++ "<lambda>")
    (hdef : defaultsOf params X.env = ([], [])) (hfree : ∀ y ∈ scope.names, y.2 ≠ .free)
    (hk : scope.kind = .function) (hco : scope.isCoroutine = false) (hgen : scope.isGenerator = false) (hcell : ∀ y ∈ scope.names, y.2 ≠ .cell) (hloc : scope.names.lookup x = some .local)
    (hbind : ∀ (q : Str) (cl : List (Str × Addr)) (pm cv ctv v : Value), bindArgs (kla_fn "<lambda>" q params (.Subscript (.Name x p1) ix p3) scope cl pm cv ctv) ⟨[v], []⟩ = pure [(x, v)])
    (hix : ∀ (env : Env) (A : Around) (E : Value → Shared → Prop) (s' : Shared) (Q : Value → Shared → Prop), env.scope = scope → env.globals = mainGlobals → s'.heap.Ns mainGlobals X.mg → (∀ u tk, Q (.int 0 u) { s' with toks := tk }) → wpAny (model X.prog X.w) A (eval ix env) Q E s')
    (hpl : PlainIx ix) (hd : (x == ("__debug__" : Str)) = false)
    (h1 : backTo pos (starEach [e] X.env) = (false, eval e X.env) :: backTo pos (starEach [] X.env) := by rfl) (h2 : (backTo pos (starEach [e] X.env)).any (·.1) = false := by rfl) :
    PE X (.Call (.Name "sorted" p) [e] [⟨some "key", .Lambda params (.Subscript (.Name x p1) ix p3) scope lpos, kpos⟩] pos) (tSortK X.K T te) := by
  refine ⟨fun pins s σ H Q I h => ?_⟩
  refine wpAny_Call_Name_kw (ld_blt I hg hm (show bootBuiltins "sorted" = some (.builtin "sorted") by decide +kernel) ?_)
  refine callWith_kw (thn (ha.run pos pins s σ H _ I h) fun us s1 ⟨vs, H1, I1, r1, q1⟩ => ?_) h1 h2 rfl rfl
  obtain ⟨a, xs, ks, rfl, hS, hxs, hT, q⟩ := q1
  obtain rfl := Vals.ref1 r1
  show wpAny _ _ (evalAll [(do let v ← eval (.Lambda params (.Subscript (.Name x p1) ix p3) scope lpos) X.env; standAt pos; pure v)]) _ _ s1
  refine wpAny_evalAll_cons (wpAny_bind (lam_make2 I1 TB hcode hmT hu hT hdef (fun y hy e => absurd e (hfree y hy)) fun f c' pm ctv H2 s2 I2 eN T2 hf hfn hfr hco' => wpAny_bind (wpAny_standAt (wpAny_pure (wpAny_evalAll_nil ?_)))))
  have seqs : ∃ its, Vals xs its ∧ xs.length ≤ sizeLine ∧ (s2.heap.IsList a its.toArray ∨ s2.heap.IsTuple a its.toArray) := by
    rcases hS with hS | hS
    · have hS2 : SqL X.K H2 a xs := by
        rcases hS with (z | ⟨o, z⟩) | z
        · exact .inl (.inl (eN _ _ z fun ps z' => by cases z'))
        · exact .inl (.inr ⟨o, eN _ _ z fun ps z' => by cases z'⟩)
        · exact .inr z
      obtain ⟨its, rv, hl, hz⟩ := I2.list hS2
      exact ⟨its, rv, hz, .inl hl.isList⟩
    · have hS2 : SqT X.K H2 a xs := by
        rcases hS with (z | ⟨o, z⟩) | z
        · exact .inl (.inl (eN _ _ z fun ps z' => by cases z'))
        · exact .inl (.inr ⟨o, eN _ _ z fun ps z' => by cases z'⟩)
        · exact .inr z
      obtain ⟨its, rv, hl, hz⟩ := I2.tuple hS2
      exact ⟨its, rv, hz, .inr hl⟩
  obtain ⟨its, rv, hz, hl⟩ := seqs
  have hun := hr.un
  have hdp := hr.dp
  show wpAny (model X.prog X.w) X.A (call (.builtin "sorted") [.ref a] [(Str.ofString "key", .ref f)]) _ _ s2
  refine sortedK (R := fun u y => RelV y u) ks hl (each_vals rv) hz (by omega) (fun u y hR hy h tk kp => ?_) fun out ep h' tk kp hD hlen eo => ?_
  · obtain ⟨t, r, rfl, ht⟩ := hxs y hy
    obtain rfl : u = Value.ref t := hR
    have ht2 := eN _ _ ht fun ps z' => by cases z'
    obtain ⟨_, its2, r2, o, ho, hc, n, hd2⟩ := I2.hok _ _ ht2
    obtain ⟨oc, vs, tt, c1, c2, c3⟩ := (I2.hok c' _ hco').1
    cases r2 with
    | cons ru r3 =>
      obtain ⟨tu, rfl⟩ := ru
      refine lam_key (u := tu) (s := { s2 with heap := h, toks := tk }) (kp _ _ hf) ⟨c', oc, vs, tt, rfl, kp _ _ c1, c2, c3⟩ ?_ (I2.nolimit.keeps kp) ((I2.mod.glob.keeps I2.bk).keeps kp) hk hco hgen hcell hloc (fun v => hbind _ _ _ _ _ v) hix hpl hd ⟨o, kp _ _ ho, hc, n, hd2⟩ (by simp)
      show X.A.depth < recursionLimit
      omega
  · rw [dataLe_int] at eo
    have hp : (xs.mergeSort fun a b => decide (ks a ≤ ks b)).Perm xs := List.mergeSort_perm _ _
    have hs : (xs.mergeSort fun a b => decide (ks a ≤ ks b)).Pairwise (fun u v => ks u ≤ ks v) := by
      have := List.pairwise_mergeSort (le := fun a b => decide (ks a ≤ ks b)) (fun a b c h1 h2 => by simp only [decide_eq_true_eq] at *; omega) (fun a b => by simp only [Bool.or_eq_true, decide_eq_true_eq]; omega) xs
      exact this.imp fun h => of_decide_eq_true h
    refine ⟨.ref _, _, I2.laid (t' := tk) kp (Nat.le_succ _) (show ObjOk X.prog X.w _ h' _ (.lst (xs.mergeSort fun a b => decide (ks a ≤ ks b))) from ⟨by rw [hp.length_eq]; exact hz, out, ep, vals_each eo, hD⟩), rfl, q _ _ H2 eN T2 (I2.hok.fresh (Nat.le_succ _)) hp hs⟩
end
end Deed

namespace Deed
open PySem PySem.Spec PyProof.Rows L2 LamX
/-! ### a def whose code object's table is told -/
theorem okC {P : Program} {w : World} {K : PySem.W.Frag} {mg : Str → Option Value} {base : Heap} {x qual : Str} {st : Stmt} {f c : Addr} {fd : FuncData} {N ps : List Str} {k : Nat} {sp : Sp} (F : Fun K x qual st f fd) (hc : fd.code = .ref c) (S : FnScope N ps (defScope st)) (len : ∀ vs H Q E, sp vs H Q E → vs.length = ps.length)
    (hbody : ∀ (A : Around) (outer : List Env) (s : Shared) (H : Hp) (vs : List V) (Q : VK) (E : XK), Room k (A.deeper (envOfC qual (defScope st) s.heap.objs.size f (.ref c))) → sp vs H Q E →
      ∃ t, PSs (cxOf CX0 P w K mg base N qual (defScope st) f (.ref c) A outer s H E).nox (defBody st) t ∧ t { nx := fun _ H' => Q .non H', rt := Q } (start N vs) H) : FnOk P w K mg base CX0 (k + 1) f fd ps sp := by
  obtain ⟨oc, od, kV, doc, pm, an, cdv, ct, osl, rfl, lk, hcd⟩ := F.ex
  have e : cdv = .ref c := hc
  subst e
  refine fn_of lk hcd S len fun A outer s H vs Q E hr hsp => ?_
  obtain ⟨t, h, q⟩ := hbody A outer s H vs Q E hr hsp
  exact ⟨t, h.nox, q⟩
/-- the number that stands ahead in the tuple at v -/
def keyAt (H : Hp) (v : V) : Int := match v with
  | .ref t => (match H t with
    | some (.tup (.int n :: _)) => n
    | _ => 0)
  | _ => 0
theorem EntAt.key {H : Hp} {a : Addr} {e : En} (h : EntAt H a e) : ∃ r, H a = some (.tup (.int e.num :: r)) ∧ keyAt H (.ref a) = e.num := by
  have fin : ∀ r, H a = some (.tup (.int e.num :: r)) → keyAt H (.ref a) = e.num := fun r z => by
    show (match H a with | some (.tup (.int n :: _)) => n | _ => 0) = e.num
    rw [z]
  unfold EntAt at h
  cases hk : e.kd with
  | deed g t rs ws =>
    rw [hk] at h
    obtain ⟨r, w, h1, _⟩ := h
    exact ⟨_, h1, fin _ h1⟩
  | act x o =>
    rw [hk] at h
    exact ⟨_, h, fin _ h⟩
/-- what isn't tracked, or a table -/
def Fresh (H : Hp) (p : Addr) : Prop := ∀ o, H p = some o → ∃ ps, o = .tbl ps
theorem Fresh.of {H H' : Hp} {p : Addr} (e : ExtN H H') (n : H' p = none) : Fresh H p := fun o z => by
  by_cases h : ∃ ps, o = .tbl ps
  · exact h
  · rw [e p o z fun ps q => h ⟨ps, q⟩] at n
    cases n
theorem Fresh.ne {H : Hp} {p b : Addr} {o : HO} (f : Fresh H p) (e : H b = some o) (h : ∀ ps, o ≠ .tbl ps) : b ≠ p := fun z => by
  rw [z] at e
  obtain ⟨ps, q⟩ := f o e
  exact h ps q
theorem Fresh.up {H H' : Hp} {p : Addr} (e : ExtN H H') (f : Fresh H' p) : Fresh H p := fun o z => by
  by_cases h : ∃ ps, o = .tbl ps
  · exact h
  · exact f o (e p o z fun ps q => h ⟨ps, q⟩)
theorem ExtN.tup {H H' : Hp} (e : ExtN H H') : KpT H H' := fun b xs z => e _ _ z fun ps q => by cases q
theorem ExtN.new {H : Hp} {p : Addr} (n : H p = none) (o : HO) : ExtN H (upd H p o) := .of fun b u e => by
  rw [upd_ne (ne_of_none e n)]
  exact e
theorem Tabs.new {T : List (Addr × Str)} {H : Hp} (t : Tabs T H) {p : Addr} (n : H p = none) (o : HO) : Tabs T (upd H p o) := t.ext fun b u e => by
  rw [upd_ne (ne_of_none e n)]
  exact e
/-- a tracked list is written: the tables stay -/
theorem Tabs.put {T : List (Addr × Str)} {H : Hp} (t : Tabs T H) {p : Addr} {xs : List V} (e : H p = some (.lst xs)) (o : HO) : Tabs T (upd H p o) := fun q hq => by
  obtain ⟨ps, h1, h2, h3⟩ := t q hq
  have n1 : q.1 ≠ p := fun z => by
    rw [z, e] at h1
    cases h1
  refine ⟨ps, by rw [upd_ne n1]; exact h1, h2, fun pos cv hc => ?_⟩
  obtain ⟨c, e1, e2⟩ := h3 pos cv hc
  refine ⟨c, e1, ?_⟩
  have n2 : c ≠ p := fun z => by
    rw [z, e] at e2
    unfold CodeO at e2
    cases e2
  rw [upd_ne n2]
  exact e2
theorem srt_num {H : Hp} {zs : List (Addr × En)} (he : ∀ z ∈ zs, EntAt H z.1 z.2) (nd : ((ens zs).map (·.num)).Nodup) (h : (refs zs).Pairwise (fun u v => keyAt H u ≤ keyAt H v)) : zs.Pairwise (fun a b => a.2.num < b.2.num) := by
  induction zs with
  | nil => exact .nil
  | cons z r ih =>
    have h1 := List.pairwise_cons.mp h
    have nd' : (z.2.num :: (ens r).map (·.num)).Nodup := nd
    have h2 := List.nodup_cons.mp nd'
    refine List.pairwise_cons.mpr ⟨fun y hy => ?_, ih (fun y hy => he y (List.mem_cons_of_mem _ hy)) h2.2 h1.2⟩
    have h3 := h1.1 (.ref y.1) (List.mem_map.mpr ⟨y, hy, rfl⟩)
    obtain ⟨_, _, k1⟩ := (he z List.mem_cons_self).key
    obtain ⟨_, _, k2⟩ := (he y (List.mem_cons_of_mem _ hy)).key
    rw [k1, k2] at h3
    have h4 : z.2.num ≠ y.2.num := fun q => h2.1 (List.mem_map.mpr ⟨y.2, List.mem_map.mpr ⟨y, hy, rfl⟩, q.symm⟩)
    omega
section
variable {P : Program} {w : World} {K : PySem.W.Frag} {mg : Str → Option Value} {base : Heap} {fRi : Addr} {dRi : FuncData} {T : List (Addr × Str)}
/-- an int of the module's top -/
def MgInt (mg : Str → Option Value) (x : Str) (i : Int) : Prop := ∃ t, mg x = some (.int i t)
theorem pe_num {X : Cx} {x : Str} {i : Int} {pos : Pos} (hg : Gl X x) (h : MgInt X.mg x i) (hd : (x == ("__debug__" : Str)) = false := by decide) : PE X (.Name x pos) (tC (.int i)) := by
  obtain ⟨t, h⟩ := h
  exact pe_glob hg h ⟨t, rfl⟩ hd
end
end Deed

namespace Deed
open PySem PySem.Spec PyProof.Rows L2 LamX
theorem take_more {α : Type} {l : List α} {i : Nat} {x : α} (h : l[i]? = some x) : l.take (i + 1) = l.take i ++ [x] := by
  rw [List.take_add_one, h]
  rfl
theorem ref_at {zs : List (Addr × En)} {i : Nat} {x : V} (h : (refs zs)[i]? = some x) : ∃ z, zs[i]? = some z ∧ x = .ref z.1 := by
  rw [List.getElem?_map] at h
  cases e : zs[i]? with
  | none => rw [e] at h; cases h
  | some z =>
    rw [e] at h
    exact ⟨z, rfl, (Option.some.inj h).symm⟩
end Deed

namespace Deed
open PySem PySem.Spec PyProof.Rows L2 LamX
/-! ### rules whose reading names K; a def that may be called; comprehensions at large -/
theorem ix_tupK {X : Cx} {K : PySem.W.Frag} (h : X.K = K) : IxR X (rIxT K) := h ▸ ix_tup
theorem ix_listK {X : Cx} {K : PySem.W.Frag} (h : X.K = K) : IxR X (rIxL K) := h ▸ ix_list
theorem in_seqK {X : Cx} {K : PySem.W.Frag} (h : X.K = K) : OpR X (compareOp .In) (rIn K false) := h ▸ op_in_seq
theorem notIn_seqK {X : Cx} {K : PySem.W.Frag} (h : X.K = K) : OpR X (compareOp .NotIn) (rIn K true) := h ▸ op_notIn_seq
theorem len_seqK {X : Cx} {K : PySem.W.Frag} (h : X.K = K) : CallR X (.builtin "len") (rLenS K) := h ▸ call_len_seq
structure CallOk (P : Program) (w : World) (K : PySem.W.Frag) (mg : Str → Option Value) (base : Heap) (L : Nat) (x : Str) (ps : List Str) (sp : Sp) where
  f : Addr
  fd : FuncData
  g : mg x = some (.ref f)
  kp : PySem.W.keepIn K (.ref f) = true
  b : Binds K fd ps []
  ok : FnOk P w K mg base CX0 L f fd ps sp
def CallOk.mono {P : Program} {w : World} {K : PySem.W.Frag} {mg : Str → Option Value} {base : Heap} {L L' : Nat} {x : Str} {ps : List Str} {sp : Sp} (c : CallOk P w K mg base L x ps sp) (h : L ≤ L') : CallOk P w K mg base L' x ps sp := ⟨c.f, c.fd, c.g, c.kp, c.b, c.ok.mono h⟩
def Df.call {P : Program} {w : World} {K : PySem.W.Frag} {mg : Str → Option Value} {base : Heap} {L : Nat} {x : Str} {st : Stmt} {ps : List Str} {f : Addr} {fd : FuncData} {sp : Sp} (D : Df K mg x st ps f fd) (G : FnOk P w K mg base CX0 L f fd ps sp) : CallOk P w K mg base L x ps sp := ⟨f, fd, D.g, D.F.kp, D.b, G⟩
theorem nodup_len : ∀ {l m : List Int}, l.Nodup → (∀ x ∈ l, x ∈ m) → l.length ≤ m.length
  | [], m, _, _ => Nat.zero_le _
  | a :: r, m, h, hs => by
    rw [List.nodup_cons] at h
    have ha := hs a List.mem_cons_self
    have h1 := nodup_len (l := r) (m := m.erase a) h.2 fun x hx => by
      have hne : x ≠ a := fun z => h.1 (z ▸ hx)
      exact (List.mem_erase_of_ne hne).mpr (hs x (List.mem_cons_of_mem _ hx))
    rw [List.length_erase_of_mem ha] at h1
    have := List.length_pos_of_mem ha
    rw [List.length_cons]
    omega
theorem none_back {H H' : Hp} {p : Addr} (s : Same H H') (n : H' p = none) : H p = none := by
  cases h : H p with
  | none => rfl
  | some o => rw [s _ _ h] at n; cases n
theorem same_refl (H : Hp) : Same H H := fun _ _ e => e
theorem take_filter {α : Type} {p : α → Bool} {ys : List α} {i : Nat} {y : α} (h : ys[i]? = some y) : (ys.take (i + 1)).filter p = (ys.take i).filter p ++ (if p y then [y] else []) := by
  rw [take_more h, List.filter_append]
  congr 1
  cases hp : p y <;> simp [hp]
section
variable {J : It} {n : Nat} {G : Hp → Prop} {Y : Nat → Hp → V → Hp → Prop} {g : TG} {tt : TT} {te : TE} {vs : List Nat} {σ : L2.St} {H1 : Hp} {D : Addr} {Qd : Hp → Prop} {α : Type}
abbrev LcGoal (J : It) (g : TG) (tt : TT) (te : TE) (vs : List Nat) (σ : L2.St) (H1 : Hp) (D : Addr) (Qd : Hp → Prop) : Prop :=
  ∃ W : Nat → Nat → Hp → Prop, (∃ m, W 0 m (upd H1 D (.lst []))) ∧ ∀ i m H, W i m H →
      (J.stop i H ∧ Qd H) ∨ (J.go i H ∧ ∃ Nx : Hp → Prop, (∀ H', Nx H' → ∃ m', m' < m ∧ W (i + 1) m' H') ∧ ∀ x H', J.yld i H x H' → g x (wipe σ vs) H' fun σ2 H2 => wipe σ2 vs = wipe σ vs ∧ tt σ2 H2 fun b H3 =>
        if b = true then te σ2 H3 fun y H4 => ∃ acc, H4 D = some (.lst acc) ∧ acc.length < sizeLine ∧ Nx (upd H4 D (.lst (acc ++ [y]))) else Nx H3)
/-- at large: St a step of the heap, In what holds of it, E what holds of an item -/
theorem lc_gen (w : Walk J n G Y) (ys : List α) (p : α → Bool) (In : Hp → Prop) (Sp1 : Hp → Hp → Prop) (E : Hp → α → V → Prop) (hn : ys.length = n) (hlen : ys.length ≤ 1000) (h0 : In (upd H1 D (.lst []))) (hG : ∀ H, In H → G H)
    (hSt : ∀ H H', In H → Sp1 H H' → In H' ∧ ∀ xs, H D = some (.lst xs) → H' D = some (.lst xs)) (hPut : ∀ H xs l, In H → H D = some (.lst xs) → In (upd H D (.lst l)))
    (hE : ∀ H H' y u, In H → Sp1 H H' → E H y u → E H' y u) (hEp : ∀ H xs l y u, In H → H D = some (.lst xs) → E H y u → E (upd H D (.lst l)) y u)
    (hs : ∀ i y x H H', ys[i]? = some y → In H → Y i H x H' → ∀ (Q1 : V → Hp → Prop) (Q0 : Hp → Prop), (p y = true → ∀ u H4, Sp1 H H4 → E H4 y u → Q1 u H4) → (p y = false → ∀ H3, Sp1 H H3 → Q0 H3) →
      g x (wipe σ vs) H' fun σ2 H2 => wipe σ2 vs = wipe σ vs ∧ tt σ2 H2 fun b H3 => if b = true then te σ2 H3 Q1 else Q0 H3)
    (hd : ∀ H (zs : List (V × α)), In H → H D = some (.lst (zs.map (·.1))) → zs.map (·.2) = ys.filter p → (∀ z ∈ zs, E H z.2 z.1) → Qd H) : LcGoal J g tt te vs σ H1 D Qd := by
  refine lc_it w (fun i H => In H ∧ ∃ zs : List (V × α), H D = some (.lst (zs.map (·.1))) ∧ zs.map (·.2) = (ys.take i).filter p ∧ ∀ z ∈ zs, E H z.2 z.1) ⟨h0, [], upd_same, rfl, fun _ h => nomatch h⟩ (fun i H _ h => hG H h.1) ?_ ?_
  · rintro i x H H' hi ⟨hI, zs, eD, ez, hz⟩ hY
    rw [← hn] at hi
    have hy : ys[i]? = some ys[i] := List.getElem?_eq_getElem hi
    have hzl : zs.length ≤ 1000 := by
      have h1 := congrArg List.length ez
      rw [List.length_map] at h1
      have h2 := List.length_filter_le p (ys.take i)
      rw [List.length_take] at h2
      omega
    refine hs i ys[i] x H H' hy hI hY _ _ (fun hp u H4 s4 e4 => ?_) (fun hp H3 s3 => ?_)
    · obtain ⟨I4, k4⟩ := hSt _ _ hI s4
      have eD4 := k4 _ eD
      refine ⟨_, eD4, small1000 (by rw [List.length_map]; omega), hPut _ _ _ I4 eD4, zs ++ [(u, ys[i])], ?_, ?_, fun z hzz => ?_⟩
      · rw [upd_same, List.map_append]
        rfl
      · rw [List.map_append, ez, take_filter hy, hp]
        rfl
      · rcases List.mem_append.mp hzz with h | h
        · exact hEp _ _ _ _ _ I4 eD4 (hE _ _ _ _ hI s4 (hz z h))
        · rw [List.mem_singleton.mp h]
          exact hEp _ _ _ _ _ I4 eD4 e4
    · obtain ⟨I3, k3⟩ := hSt _ _ hI s3
      refine ⟨I3, zs, k3 _ eD, ?_, fun z hzz => hE _ _ _ _ hI s3 (hz z hzz)⟩
      rw [ez, take_filter hy, hp]
      simp
  · rintro H ⟨hI, zs, eD, ez, hz⟩
    rw [← hn, List.take_length] at ez
    exact hd H zs hI eD ez hz
theorem same_put {H H1 : Hp} {D : Addr} (nD : H1 D = none) (s : Same H1 H) (o : HO) : Same H1 (upd H D o) := fun b u e => by
  rw [upd_ne (ne_of_none e nD)]
  exact s _ _ e
theorem same_new {H : Hp} {p : Addr} (n : H p = none) (o : HO) : Same H (upd H p o) := fun b u e => by rw [upd_ne (ne_of_none e n)]; exact e
/-- values; nothing but the new list is otherwise -/
theorem lc_sameV (w : Walk J n G Y) (ys : List α) (p : α → Bool) (v : α → V) (hn : ys.length = n) (hlen : ys.length ≤ 1000) (nD : H1 D = none) (hG : ∀ H, Same H1 H → G H)
    (hs : ∀ i y x H H', ys[i]? = some y → Same H1 H → Y i H x H' → ∀ (Q1 : V → Hp → Prop) (Q0 : Hp → Prop), (p y = true → ∀ H4, Same H H4 → Q1 (v y) H4) → (p y = false → ∀ H3, Same H H3 → Q0 H3) →
      g x (wipe σ vs) H' fun σ2 H2 => wipe σ2 vs = wipe σ vs ∧ tt σ2 H2 fun b H3 => if b = true then te σ2 H3 Q1 else Q0 H3)
    (hd : ∀ H, Same H1 H → H D = some (.lst ((ys.filter p).map v)) → Qd H) : LcGoal J g tt te vs σ H1 D Qd := by
  refine lc_gen w ys p (fun H => Same H1 H) Same (fun _ y u => u = v y) hn hlen (same_new nD _) hG (fun H H' h1 h2 => ⟨h1.trans h2, fun xs e => h2 _ _ e⟩) (fun H xs l h1 _ => same_put nD h1 _) (fun _ _ _ _ _ _ e => e) (fun _ _ _ _ _ _ _ e => e) (fun i y x H H' hy h1 hY Q1 Q0 q1 q0 => ?_) (fun H zs h1 e ez hz => ?_)
  · exact hs i y x H H' hy h1 hY Q1 Q0 (fun hp H4 s4 => q1 hp _ H4 s4 rfl) q0
  · refine hd H h1 ?_
    rw [e, ← ez, List.map_map]
    congr 2
    exact List.map_congr_left fun z hzz => hz z hzz
theorem lc_sameM (w : Walk J n G Y) (ys : List α) (v : α → V) (hn : ys.length = n) (hlen : ys.length ≤ 1000) (nD : H1 D = none) (hG : ∀ H, Same H1 H → G H)
    (hs : ∀ i y x H H', ys[i]? = some y → Same H1 H → Y i H x H' → ∀ (Q1 : V → Hp → Prop), (∀ H4, Same H H4 → Q1 (v y) H4) → g x (wipe σ vs) H' fun σ2 H2 => wipe σ2 vs = wipe σ vs ∧ te σ2 H2 Q1)
    (hd : ∀ H, Same H1 H → H D = some (.lst (ys.map v)) → Qd H) : LcGoal J g tYes te vs σ H1 D Qd := by
  refine lc_sameV w ys (fun _ => true) v hn hlen nD hG (fun i y x H H' hy h1 hY Q1 Q0 q1 q0 => ?_) (fun H h1 e => hd H h1 (by rw [e, List.filter_eq_self.mpr fun _ _ => rfl]))
  exact hs i y x H H' hy h1 hY Q1 (fun H4 s4 => q1 rfl H4 s4)
/-- new tuples -/
theorem lc_sameT (w : Walk J n G Y) (ys : List α) (p : α → Bool) (v : α → List V) (hn : ys.length = n) (hlen : ys.length ≤ 1000) (nD : H1 D = none) (hG : ∀ H, Same H1 H → G H)
    (hs : ∀ i y x H H', ys[i]? = some y → Same H1 H → Y i H x H' → ∀ (Q1 : V → Hp → Prop) (Q0 : Hp → Prop), (p y = true → ∀ t H4, Same H H4 → H4 t = some (.tup (v y)) → Q1 (.ref t) H4) → (p y = false → ∀ H3, Same H H3 → Q0 H3) →
      g x (wipe σ vs) H' fun σ2 H2 => wipe σ2 vs = wipe σ vs ∧ tt σ2 H2 fun b H3 => if b = true then te σ2 H3 Q1 else Q0 H3)
    (hd : ∀ H (zs : List (Addr × α)), Same H1 H → H D = some (.lst (zs.map fun z => .ref z.1)) → zs.map (·.2) = ys.filter p → (∀ z ∈ zs, H z.1 = some (.tup (v z.2))) → Qd H) : LcGoal J g tt te vs σ H1 D Qd := by
  refine lc_gen w ys p (fun H => Same H1 H) Same (fun H y u => ∃ t, u = .ref t ∧ H t = some (.tup (v y))) hn hlen (same_new nD _) hG (fun H H' h1 h2 => ⟨h1.trans h2, fun xs e => h2 _ _ e⟩) (fun H xs l h1 _ => same_put nD h1 _) (fun H H' y u _ h2 e => ?_) (fun H xs l y u h1 h2 e => ?_) (fun i y x H H' hy h1 hY Q1 Q0 q1 q0 => ?_) (fun H zs h1 e ez hz => ?_)
  · obtain ⟨t, e1, e2⟩ := e
    exact ⟨t, e1, h2 _ _ e2⟩
  · obtain ⟨t, e1, e2⟩ := e
    refine ⟨t, e1, ?_⟩
    rw [upd_ne fun z => by rw [z, h2] at e2; cases e2]
    exact e2
  · exact hs i y x H H' hy h1 hY Q1 Q0 (fun hp t H4 s4 e4 => q1 hp _ H4 s4 ⟨t, rfl, e4⟩) q0
  · have key : ∀ zs : List (V × α), (∀ z ∈ zs, ∃ t, z.1 = .ref t ∧ H t = some (.tup (v z.2))) → ∃ ws : List (Addr × α), zs.map (·.1) = ws.map (fun z => V.ref z.1) ∧ ws.map (·.2) = zs.map (·.2) ∧ ∀ z ∈ ws, H z.1 = some (.tup (v z.2)) := by
      intro zs
      induction zs with
      | nil => exact fun _ => ⟨[], rfl, rfl, fun _ h => nomatch h⟩
      | cons z r ih =>
        intro h
        obtain ⟨ws, a1, a2, a3⟩ := ih fun x hx => h x (List.mem_cons_of_mem _ hx)
        obtain ⟨t, e1, e2⟩ := h z List.mem_cons_self
        refine ⟨(t, z.2) :: ws, ?_, ?_, fun x hx => ?_⟩
        · rw [List.map_cons, List.map_cons, a1, e1]
        · rw [List.map_cons, List.map_cons, a2]
        · rcases List.mem_cons.mp hx with h | h
          · rw [h]
            exact e2
          · exact a3 x h
    obtain ⟨ws, a1, a2, a3⟩ := key zs hz
    exact hd H ws h1 (by rw [e, a1]) (by rw [a2, ez]) a3
end
end Deed

namespace Deed
open PySem PySem.Spec PyProof.Rows L2 LamX
theorem cutTake {α : Type} (f : α → V) (l : List α) {v : Int} (h : 0 ≤ v) : cutV (l.map f) none (some v) = (l.take v.toNat).map f := by
  unfold cutV
  obtain ⟨n, rfl⟩ : ∃ n : Nat, v = n := ⟨v.toNat, by omega⟩
  rw [HT.sIx_none, HT.sIx_nat, List.drop_zero, List.length_map, Int.toNat_natCast, Nat.sub_zero, ← List.map_take]
  congr 1
  rw [List.take_eq_take_iff]
  omega
theorem cutDrop {α : Type} (f : α → V) (l : List α) (m : Nat) : cutV (l.map f) (some (m : Int)) none = (l.drop m).map f := by
  unfold cutV
  rw [HT.sIx_none, HT.sIx_nat, List.length_map, ← List.map_drop, ← List.map_take]
  congr 1
  by_cases h : m ≤ l.length
  · rw [Nat.min_eq_left h, List.take_of_length_le (by rw [List.length_drop]; omega)]
  · rw [Nat.min_eq_right (by omega), List.drop_of_length_le (by omega), List.drop_of_length_le (by omega), List.take_nil]
section
variable {P : Program} {w : World} {K : PySem.W.Frag} {mg : Str → Option Value} {base : Heap}
abbrev CDraw (P : Program) (w : World) (K : PySem.W.Frag) (mg : Str → Option Value) (base : Heap) (k : Nat) := CallOk P w K mg base k "_law_draw" ["_law_pen_here", "_law_bound"] spDraw
abbrev sDay : Stmt := topS 13
abbrev nDay : List Str := ["_law_pen_here"]
abbrev pDay : List Str := ["_law_pen_here"]
theorem scDay : FnScope nDay pDay (defScope sDay) := ⟨rfl, rfl, rfl, by decide +kernel, rfl, by decide +kernel, by decide +kernel⟩
def spDay : Sp := fun vs H Q _ => ∃ (p : Addr), vs = [.ref p] ∧ PenAt H p ∧ ∀ v H', Kp p H H' → PenAt H' p → 0 ≤ v → v ≤ 9999 → Q (.int v) H'
theorem ok_day {f : Addr} {fd : FuncData} {k : Nat} (F : Fun K "_law_day" "_law_day" sDay f fd) (C__law_draw : CDraw P w K mg base k) : FnOk P w K mg base CX0 (k + 1) f fd pDay spDay := by
  refine F.ok scDay (fun vs H Q E h => ?_) (fun cdv A outer s H vs Q E hr h => ?_)
  · obtain ⟨p, rfl, _⟩ := h
    rfl
  · obtain ⟨p, rfl, hP, q⟩ := h
    refine ⟨_, pss_one (ps_ret (pe_ix ix_list (pe_lst (pa_cons (pe_call C__law_draw.ok hr (by rfl) C__law_draw.g C__law_draw.kp C__law_draw.b .nil pass0 (pa_cons (pv 0) (pa_cons pe_int pa_nil))) (pa_cons (pe_call C__law_draw.ok hr (by rfl) C__law_draw.g C__law_draw.kp C__law_draw.b .nil pass0 (pa_cons (pv 0) (pa_cons pe_int pa_nil))) (pa_cons (pe_call C__law_draw.ok hr (by rfl) C__law_draw.g C__law_draw.kp C__law_draw.b .nil pass0 (pa_cons (pv 0) (pa_cons pe_int pa_nil))) pa_nil)))) (pe_op op_fdiv (pe_call C__law_draw.ok hr (by rfl) C__law_draw.g C__law_draw.kp C__law_draw.b .nil pass0 (pa_cons (pv 0) (pa_cons pe_int pa_nil))) pe_int) (fun _ _ => rfl))), ?_⟩
    refine ⟨_, rfl, p, 7, rfl, hP, by decide, by decide, fun v1 H1 k1 P1 a1 b1 => ?_⟩
    refine ⟨_, rfl, p, 40, rfl, P1, by decide, by decide, fun v2 H2 k2 P2 a2 b2 => ?_⟩
    refine ⟨_, rfl, p, 10000, rfl, P2, by decide, by decide, fun v3 H3 k3 P3 a3 b3 => ?_⟩
    refine ⟨(by show 3 ≤ sizeLine; decide), fun l nl => ?_⟩
    refine ⟨_, rfl, p, 6, rfl, P3.new nl _, by decide, by decide, fun v4 H4 k4 P4 a4 b4 => ?_⟩
    refine ⟨_, _, rfl, rfl, ⟨by decide, by decide⟩, ?_⟩
    obtain ⟨_, g5, n5, rfl, a5, b5⟩ := pick (i := v4 / 2) (xs := [.int v1, .int v2, .int v3]) (Within 0 9999) (by omega) (by show v4 / 2 < 3; omega) (am1 ⟨_, rfl, by omega, by omega⟩ (am1 ⟨_, rfl, by omega, by omega⟩ (am1 ⟨_, rfl, by omega, by omega⟩ am0)))
    refine ⟨l, _, _, _, rfl, rfl, SqL.of (k4 _ _ (P3.free nl) upd_same), g5, ?_⟩
    exact q n5 _ (k1.trans (k2.trans (k3.trans ((Kp.new nl _).trans k4)))) P4 a5 b5
abbrev sFolk : Stmt := topS 11
abbrev nFolk : List Str := ["_law_pen_here", "_law_least", "_law_found", "_law_k", "_law_born", "_law_died"]
abbrev pFolk : List Str := ["_law_pen_here", "_law_least"]
theorem scFolk : FnScope nFolk pFolk (defScope sFolk) := ⟨rfl, rfl, rfl, by decide +kernel, rfl, by decide +kernel, by decide +kernel⟩
def spFolk : Sp := fun vs H Q _ => ∃ (p : Addr) (least : Int), vs = [.ref p, .int least] ∧ PenAt H p ∧ 1 ≤ least ∧ least ≤ 6 ∧ ∀ t (n : Nat) H', Kp p H H' → PenAt H' p → FolkAt H' t n → least ≤ n → n ≤ 6 → Q (.ref t) H'
theorem ok_folk {f : Addr} {fd : FuncData} {k : Nat} (F : Fun K "_law_folk" "_law_folk" sFolk f fd) (C__law_draw : CDraw P w K mg base k) (m_range : mg "range" = none) (m_min : mg "min" = none) (m_tuple : mg "tuple" = none) : FnOk P w K mg base CX0 (k + 1) f fd pFolk spFolk := by
  refine F.ok scFolk (fun vs H Q E h => ?_) (fun cdv A outer s H vs Q E hr h => ?_)
  · obtain ⟨p, l, rfl, _⟩ := h
    rfl
  · obtain ⟨p, least, rfl, hP, hl1, hl6, q⟩ := h
    have nd := scFolk.nd
    refine ⟨_, pss_cons (ps_set (i := 2) nd rfl (.inl rfl) (pe_lst pa_nil))
      (pss_cons (ps_for PassesOwn.never rfl (pi_range1 rfl m_range (pa_cons (pe_op op_add (pv 1) (pe_call C__law_draw.ok hr (by rfl) C__law_draw.g C__law_draw.kp C__law_draw.b .nil pass0 (pa_cons (pv 0) (pa_cons (pe_op op_sub pe_int (pv 1)) pa_nil)))) pa_nil)) (pg_name (i := 3) nd rfl (.inl rfl))
        (pss_cons (ps_set (i := 4) nd rfl (.inl rfl) (pe_ix ix_list (pe_lst (pa_cons (pe_op op_sub pe_int (pe_call C__law_draw.ok hr (by rfl) C__law_draw.g C__law_draw.kp C__law_draw.b .nil pass0 (pa_cons (pv 0) (pa_cons pe_int pa_nil)))) (pa_cons (pe_call C__law_draw.ok hr (by rfl) C__law_draw.g C__law_draw.kp C__law_draw.b .nil pass0 (pa_cons (pv 0) (pa_cons pe_int pa_nil))) (pa_cons (pe_op op_sub (pe_call C__law_draw.ok hr (by rfl) C__law_draw.g C__law_draw.kp C__law_draw.b .nil pass0 (pa_cons (pv 0) (pa_cons pe_int pa_nil))) pe_int) pa_nil)))) (pe_op op_fdiv (pe_call C__law_draw.ok hr (by rfl) C__law_draw.g C__law_draw.kp C__law_draw.b .nil pass0 (pa_cons (pv 0) (pa_cons pe_int pa_nil))) pe_int) (fun _ _ => rfl)))
      (pss_cons (ps_set (i := 5) nd rfl (.inl rfl) (pe_callB (call_min2 rfl) (by rfl) m_min (by decide +kernel) (pa_cons pe_int (pa_cons (pe_op op_add (pe_op op_add (pv 4) pe_int) (pe_ix ix_list (pe_lst (pa_cons (pe_call C__law_draw.ok hr (by rfl) C__law_draw.g C__law_draw.kp C__law_draw.b .nil pass0 (pa_cons (pv 0) (pa_cons pe_int pa_nil))) (pa_cons (pe_call C__law_draw.ok hr (by rfl) C__law_draw.g C__law_draw.kp C__law_draw.b .nil pass0 (pa_cons (pv 0) (pa_cons pe_int pa_nil))) pa_nil))) (pe_call C__law_draw.ok hr (by rfl) C__law_draw.g C__law_draw.kp C__law_draw.b .nil pass0 (pa_cons (pv 0) (pa_cons pe_int pa_nil))) (fun _ _ => rfl))) pa_nil))))
      (pss_one (ps_expr (pe_bm PySem.F.plainAttrs_list PySem.F.slot_list_append PySem.F.type_list_append mt_append (pv 2) (pa_cons (pe_tup (pa_cons (pv 4) (pa_cons (pe_ix ix_list (pe_lst (pa_cons pe_non (pa_cons (pv 5) pa_nil))) (pe_call C__law_draw.ok hr (by rfl) C__law_draw.g C__law_draw.kp C__law_draw.b .nil pass0 (pa_cons (pv 0) (pa_cons pe_int pa_nil))) (fun _ _ => rfl)) pa_nil))) pa_nil)))))))
      (pss_one (ps_ret (pe_callTy call_tuple_of (by rfl) m_tuple (by decide +kernel) (pa_cons (pv 2) pa_nil))))), ?_⟩
    refine ⟨Nat.zero_le _, fun l hl => ?_⟩
    have Pl : PenAt (upd H l (.lst [])) p := hP.new hl _
    have nl : l ≠ p := hP.free hl
    refine ⟨_, rfl, _, rfl, _, rfl, _, _, rfl, rfl, p, 7 - least, rfl, Pl, by omega, by omega, fun v1 H1 k1 P1 a1 b1 => ?_⟩
    refine ⟨_, _, rfl, rfl, _, rfl, by omega, by omega, ?_⟩
    refine for_range (lo := 0) (n := (least + v1).toNat) (fun i σ H' => ∃ y3 y4 y5 xs, σ = [some (.ref p), some (.int least), some (.ref l), y3, y4, y5] ∧ Kp p H H' ∧ PenAt H' p ∧ H' l = some (.lst xs) ∧ xs.length = i ∧ ∀ x ∈ xs, PersonAt H' x)
      ⟨none, none, none, [], rfl, (Kp.new hl _).trans k1, P1, k1 _ _ nl upd_same, rfl, am0⟩ ?_ ?_
    · rintro i σ H' hi ⟨y3, y4, y5, xs, rfl, k', P', el, ln, ps⟩
      refine ⟨_, rfl, p, 40, rfl, P', by decide, by decide, fun v2 H2 k2 P2 a2 b2 => ⟨_, _, rfl, rfl, ?_⟩⟩
      refine ⟨_, rfl, p, 9, rfl, P2, by decide, by decide, fun v2' H2' k2' P2' a2' b2' => ?_⟩
      refine ⟨_, rfl, p, 9000, rfl, P2', by decide, by decide, fun v3 H3 k3 P3 a3 b3 => ⟨_, _, rfl, rfl, ?_⟩⟩
      refine ⟨(by show 3 ≤ sizeLine; decide), fun m hm => ?_⟩
      refine ⟨_, rfl, p, 5, rfl, P3.new hm _, by decide, by decide, fun v4 H4 k4 P4 a4 b4 => ?_⟩
      refine ⟨_, _, rfl, rfl, ⟨by decide, by decide⟩, ?_⟩
      obtain ⟨_, g5, n5, rfl, a5, b5⟩ := pick (i := v4 / 2) (xs := [.int (0 - v2), .int v2', .int (v3 - 4000)]) (Within (-9999) 9998) (by omega) (by show v4 / 2 < 3; omega) (am1 ⟨_, rfl, by omega, by omega⟩ (am1 ⟨_, rfl, by omega, by omega⟩ (am1 ⟨_, rfl, by omega, by omega⟩ am0)))
      refine ⟨m, _, _, _, rfl, rfl, SqL.of (k4 _ _ (P3.free hm) upd_same), g5, ?_⟩
      have kA : Kp p H' H4 := k2.trans (k2'.trans (k3.trans ((Kp.new hm _).trans k4)))
      refine ⟨_, rfl, _, _, rfl, rfl, ?_⟩
      refine ⟨_, rfl, p, 60, rfl, P4, by decide, by decide, fun v6 H6 k6 P6 a6 b6 => ?_⟩
      refine ⟨_, rfl, p, 9999, rfl, P6, by decide, by decide, fun v7 H7 k7 P7 a7 b7 => ?_⟩
      refine ⟨(by show 2 ≤ sizeLine; decide), fun m2 hm2 => ?_⟩
      refine ⟨_, rfl, p, 2, rfl, P7.new hm2 _, by decide, by decide, fun v8 H8 k8 P8 a8 b8 => ?_⟩
      obtain ⟨_, g9, n9, rfl, a9, b9⟩ := pick (xs := [.int v6, .int v7]) (Within 0 9998) a8 b8 (am1 ⟨_, rfl, by omega, by omega⟩ (am1 ⟨_, rfl, by omega, by omega⟩ am0))
      refine ⟨m2, _, v8, _, rfl, rfl, SqL.of (k8 _ _ (P7.free hm2) upd_same), g9, _, _, rfl, rfl, _, _, rfl, ?_⟩
      have kB : Kp p H4 H8 := k6.trans (k7.trans ((Kp.new hm2 _).trans k8))
      have hd : n5 < (if n5 + 1 + n9 < 9999 then n5 + 1 + n9 else 9999) ∧ (if n5 + 1 + n9 < 9999 then n5 + 1 + n9 else 9999) ≤ 9999 := by
        split <;> omega
      generalize (if n5 + 1 + n9 < 9999 then n5 + 1 + n9 else 9999) = dd at hd
      have kC := kA.trans kB
      have el8 := kC _ _ nl el
      refine ⟨_, rfl, .inl ⟨rfl, _, SqL.of el8⟩, _, rfl, _, rfl, (by show 2 ≤ sizeLine; decide), fun m3 hm3 => ?_⟩
      refine ⟨_, rfl, p, 2, rfl, P8.new hm3 _, by decide, by decide, fun v10 H10 k10 P10 a10 b10 => ?_⟩
      obtain ⟨vd, g11, hvd⟩ := pick (xs := [.non, .int dd]) (fun d => d = .non ∨ ∃ i : Int, d = .int i ∧ n5 < i ∧ i ≤ 9999) a10 b10 (am1 (.inl rfl) (am1 (.inr ⟨_, rfl, hd⟩) am0))
      refine ⟨m3, _, v10, _, rfl, rfl, SqL.of (k10 _ _ (P8.free hm3) upd_same), g11, (by show 2 ≤ sizeLine; decide), fun t ht => ?_⟩
      have kD := (kC.trans ((Kp.new hm3 _).trans k10)).trans (Kp.new (p := p) ht (.tup [.int n5, vd]))
      have elD := kD _ _ nl el
      have PD : PenAt (upd H10 t (.tup [.int n5, vd])) p := P10.new ht _
      refine ⟨l, _, _, rfl, rfl, elD, small1000 (by omega), ?_⟩
      have kE : ∀ b o, b ≠ p → b ≠ l → H' b = some o → (upd (upd H10 t (.tup [.int n5, vd])) l (.lst (xs ++ [.ref t]))) b = some o := fun b o n1 n2 e => by
        rw [upd_ne n2]
        exact kD _ _ n1 e
      have ntl : t ≠ l := fun z => by
        have := (kC.trans ((Kp.new hm3 _).trans k10)) _ _ nl el
        rw [z, this] at ht
        cases ht
      refine ⟨_, _, _, xs ++ [.ref t], rfl, fun b o n1 e => ?_, ?_, upd_same, ?_, fun x hx => ?_⟩
      · by_cases hb : b = l
        · rw [hb, hl] at e
          cases e
        · exact kE b o n1 hb (k' _ _ n1 e)
      · obtain ⟨x1, x2, x3, x4, e1, e2⟩ := PD
        exact ⟨x1, x2, x3, x4, by rw [upd_ne nl.symm]; exact e1, e2⟩
      · rw [List.length_append, ln]
        rfl
      · rcases List.mem_append.mp hx with hx | hx
        · obtain ⟨a, b, d, e, h1, r⟩ := ps x hx
          exact ⟨a, b, d, e, kE _ _ (P'.ne h1 fun _ z => by cases z) (fun z => by rw [z, el] at h1; cases h1) h1, r⟩
        · rw [List.mem_singleton.mp hx]
          exact ⟨t, n5, vd, rfl, by rw [upd_ne ntl, upd_same], by omega, by omega, hvd⟩
    · rintro σ H' ⟨y3, y4, y5, xs, rfl, k', P', el, ln, ps⟩
      refine ⟨_, rfl, l, xs, rfl, .inl ⟨SqL.of el, fun t ht => ?_⟩⟩
      have kF : Kp p H' (upd H' t (.tup xs)) := Kp.new ht _
      exact q t (least + v1).toNat _ (k'.trans kF) (P'.new ht _) ⟨xs, upd_same, ln, fun x hx => (ps x hx).kp kF P'⟩ (by omega) (by omega)
abbrev sFew : Stmt := topS 14
abbrev nFew : List Str := ["_law_pen_here", "_law_some", "_law_most", "_law_left"]
abbrev pFew : List Str := ["_law_pen_here", "_law_some", "_law_most"]
theorem scFew : FnScope nFew pFew (defScope sFew) := ⟨rfl, rfl, rfl, by decide +kernel, rfl, by decide +kernel, by decide +kernel⟩
def spFew (K : PySem.W.Frag) : Sp := fun vs H Q _ => ∃ (p a : Addr) (most : Int) (ns : List Int), vs = [.ref p, .ref a, .int most] ∧ PenAt H p ∧ SqL K H a (ns.map V.int) ∧ 0 ≤ most ∧ most ≤ 1000 ∧ ns.length ≤ 1000 ∧
  ∀ t (rs ls : List Int) H', Kp p H H' → PenAt H' p → H' t = some (.tup (rs.map V.int)) → (rs ++ ls).Perm ns → rs.Pairwise (· ≤ ·) → rs.length ≤ most → Q (.ref t) H'
theorem ok_few {f : Addr} {fd : FuncData} {k : Nat} (F : Fun K "_law_few" "_law_few" sFew f fd) (C__law_draw : CDraw P w K mg base k) (C__law_mixed : CallOk P w K mg base k "_law_mixed" ["_law_pen_here", "_law_some"] (spMixed K)) (m_tuple : mg "tuple" = none) (m_sorted : mg "sorted" = none) : FnOk P w K mg base CX0 (k + 1) f fd pFew (spFew K) := by
  refine F.ok scFew (fun vs H Q E h => ?_) (fun cdv A outer s H vs Q E hr h => ?_)
  · obtain ⟨p, a, most, ns, rfl, _⟩ := h
    rfl
  · obtain ⟨p, a, most, ns, rfl, hP, hS, hm0, hm1, hln, q⟩ := h
    have nd := scFew.nd
    refine ⟨_, pss_cons (ps_set (i := 3) nd rfl (.inl rfl) (pe_call C__law_mixed.ok hr (by rfl) C__law_mixed.g C__law_mixed.kp C__law_mixed.b .nil pass0 (pa_cons (pv 0) (pa_cons (pv 1) pa_nil))))
      (pss_one (ps_ret (pe_callTy call_tuple_of (by rfl) m_tuple (by decide +kernel) (pa_cons (pe_callB cr_sortedI (by rfl) m_sorted (by decide +kernel) (pa_cons (pe_slice sl_list (pv 3) po_none (po_some (pe_call C__law_draw.ok hr (by rfl) C__law_draw.g C__law_draw.kp C__law_draw.b .nil pass0 (pa_cons (pv 0) (pa_cons (pe_op op_add (pv 2) pe_int) pa_nil))))) pa_nil)) pa_nil)))), ?_⟩
    refine ⟨_, rfl, _, rfl, p, a, _, rfl, hP, .inl hS, by rw [List.length_map]; exact hln, fun l ys H1 k1 P1 nl el pm => ?_⟩
    obtain ⟨ms, rfl, pm2⟩ := perm_pairs V.int pm ns rfl
    have nlp : l ≠ p := hP.free nl
    refine ⟨_, rfl, _, rfl, _, rfl, _, _, rfl, rfl, p, most + 1, rfl, P1, by omega, by omega, fun v H2 k2 P2 a2 b2 => ?_⟩
    have el2 := k2 _ _ nlp el
    refine ⟨_, rfl, l, _, rfl, SqL.of el2, fun s1 ns1 => ?_⟩
    rw [cutTake _ _ a2]
    have P3 := P2.new ns1 (.lst ((ms.take v.toNat).map V.int))
    have k3 : Kp p H2 _ := Kp.new ns1 (.lst ((ms.take v.toNat).map V.int))
    refine ⟨s1, _, rfl, SqL.of upd_same, fun rs m pm3 up nm => ?_⟩
    refine ⟨m, _, rfl, .inl ⟨SqL.of upd_same, fun t nt => ?_⟩⟩
    refine q t rs (ms.drop v.toNat) _ (k1.trans (k2.trans (k3.trans ((Kp.new nm _).trans (Kp.new nt _))))) ((P3.new nm _).new nt _) upd_same ?_ up ?_
    · refine (List.Perm.append_right _ pm3).trans ?_
      rw [List.take_append_drop]
      exact pm2
    · rw [pm3.length_eq, List.length_take]
      omega
end
end Deed

namespace Deed
open PySem PySem.Spec PyProof.Rows L2 LamX
section
variable {P : Program} {w : World} {K : PySem.W.Frag} {mg : Str → Option Value} {base : Heap}
def rgI (n : Nat) : List Int := (List.range n).map fun i : Nat => (i : Int)
theorem rgV_ints (n : Nat) : rgV 0 (n : Int) = (rgI n).map V.int := by
  unfold rgV rgI
  rw [List.map_map]
  simp
theorem rgI_len (n : Nat) : (rgI n).length = n := by unfold rgI; simp
abbrev sDeed : Stmt := topS 15
abbrev nDeed : List Str := ["_law_pen_here", "_law_number", "_law_folk_here", "_law_deeds", "_law_both", "_law_giver", "_law_taker", "_law_head"]
abbrev pDeed : List Str := ["_law_pen_here", "_law_number", "_law_folk_here", "_law_deeds"]
theorem scDeed : FnScope nDeed pDeed (defScope sDeed) := ⟨rfl, rfl, rfl, by decide +kernel, rfl, by decide +kernel, by decide +kernel⟩
def spDeed (K : PySem.W.Frag) : Sp := fun vs H Q _ => ∃ (p fk ld : Addr) (num : Int) (n : Nat) (ds : List Int), vs = [.ref p, .int num, .ref fk, .ref ld] ∧ PenAt H p ∧ FolkAt H fk n ∧ 2 ≤ n ∧ n ≤ 6 ∧ H ld = some (.lst (ds.map V.int)) ∧ ld ≠ p ∧ ds.Nodup ∧ ds.length ≤ 1000 ∧ (∀ d ∈ ds, d < num) ∧
  ∀ a (e : En) H', Kp p H H' → PenAt H' p → EntAt H' a e → e.num = num → e.isDeed = true → (∀ as, EnOk n ds as e) → Q (.ref a) H'
theorem ok_deed {f : Addr} {fd : FuncData} {k : Nat} (F : Fun K "_law_deed" "_law_deed" sDeed f fd) (C__law_draw : CDraw P w K mg base k) (C__law_day : CallOk P w K mg base k "_law_day" pDay spDay) (C__law_mixed : CallOk P w K mg base k "_law_mixed" ["_law_pen_here", "_law_some"] (spMixed K)) (C__law_few : CallOk P w K mg base k "_law_few" pFew (spFew K)) (m_list : mg "list" = none) (m_range : mg "range" = none) (m_len : mg "len" = none) : FnOk P w K mg base CX0 (k + 1) f fd pDeed (spDeed K) := by
  refine F.ok scDeed (fun vs H Q E h => ?_) (fun cdv A outer s H vs Q E hr h => ?_)
  · obtain ⟨p, fk, ld, num, n, ds, rfl, _⟩ := h
    rfl
  · obtain ⟨p, fk, ld, num, n, ds, rfl, hP, hF, h2, h6, eld, nld, hnd, hdl, hdn, q⟩ := h
    have nd := scDeed.nd
    refine ⟨_, pss_cons (ps_set (i := 4) nd rfl (.inl rfl) (pe_call C__law_mixed.ok hr (by rfl) C__law_mixed.g C__law_mixed.kp C__law_mixed.b .nil pass0 (pa_cons (pv 0) (pa_cons (pe_listRg (by rfl) (by rfl) m_list (prg_1 (by rfl) m_range (pe_callB call_len_seq (by rfl) m_len (by decide +kernel) (pa_cons (pv 2) pa_nil)))) pa_nil))))
      (pss_cons (ps_par (i := 5) (j := 6) (by rfl) nd rfl rfl (by decide) rfl rfl (pa_cons (pe_ix ix_list (pv 4) pe_int (fun _ _ => rfl)) (pa_cons (pe_ix ix_list (pv 4) pe_int (fun _ _ => rfl)) pa_nil)) (by rfl))
      (pss_cons (ps_set (i := 7) nd rfl (.inl rfl) (pe_tup (pa_cons (pv 1) (pa_cons (pe_call C__law_day.ok hr (by rfl) C__law_day.g C__law_day.kp C__law_day.b .nil pass0 (pa_cons (pv 0) pa_nil)) (pa_cons (pe_call C__law_day.ok hr (by rfl) C__law_day.g C__law_day.kp C__law_day.b .nil pass0 (pa_cons (pv 0) pa_nil)) (pa_cons (pe_call C__law_draw.ok hr (by rfl) C__law_draw.g C__law_draw.kp C__law_draw.b .nil pass0 (pa_cons (pv 0) (pa_cons pe_int pa_nil))) (pa_cons pe_str (pa_cons (pv 5) (pa_cons (pv 6) pa_nil)))))))))
      (pss_one (ps_ret (pe_op op_catT (pv 7) (pe_tup (pa_cons (pe_call C__law_few.ok hr (by rfl) C__law_few.g C__law_few.kp C__law_few.b .nil pass0 (pa_cons (pv 0) (pa_cons (pv 3) (pa_cons pe_int pa_nil)))) (pa_cons (pe_call C__law_few.ok hr (by rfl) C__law_few.g C__law_few.kp C__law_few.b .nil pass0 (pa_cons (pv 0) (pa_cons (pe_slice sl_list (pv 4) (po_some pe_int) po_none) (pa_cons pe_int pa_nil)))) pa_nil)))))))), ?_⟩
    obtain ⟨xs, ef, hxl, _⟩ := id hF
    refine ⟨_, rfl, _, rfl, fk, _, rfl, .inr (SqT.of ef), _, rfl, ?_, fun l1 nl1 => ?_⟩
    · unfold RgOk
      rw [hxl]
      refine ⟨by omega, by omega, by omega, by omega, ?_⟩
      exact Nat.le_of_lt (small1000 (by omega))
    rw [hxl, rgV_ints]
    have k1 : Kp p H _ := Kp.new nl1 (.lst ((rgI n).map V.int))
    have P1 := hP.new nl1 (.lst ((rgI n).map V.int))
    have el1 : (upd H l1 (.lst ((rgI n).map V.int))) l1 = some (.lst ((rgI n).map V.int)) := upd_same
    generalize upd H l1 (.lst ((rgI n).map V.int)) = H1 at k1 P1 el1
    refine ⟨p, l1, _, rfl, P1, .inl (SqL.of el1), by rw [List.length_map, rgI_len]; omega, fun l ys H2 k2 P2 nl el pm => ?_⟩
    obtain ⟨ms, rfl, pm2⟩ := perm_pairs V.int pm _ rfl
    have hml : ms.length = n := by rw [pm2.length_eq, rgI_len]
    have hmr : ∀ x ∈ ms, 0 ≤ x ∧ x < n := fun x hx => by
      have hx := pm2.mem_iff.mp hx
      unfold rgI at hx
      obtain ⟨i, hi, rfl⟩ := List.mem_map.mp hx
      have := List.mem_range.mp hi
      omega
    have hmn : ms.Nodup := pm2.nodup_iff.mpr (by
      have h := List.nodup_range (n := n)
      unfold rgI
      exact List.Pairwise.map _ (fun a b h z => h (by omega)) h)
    have nlp : l ≠ p := P1.free nl
    obtain ⟨g, t, r, rfl⟩ : ∃ g t r, ms = g :: t :: r := by
      match ms, hml with
      | [], h => exact absurd h (by simp; omega)
      | [_], h => exact absurd h (by simp; omega)
      | a :: b :: c, _ => exact ⟨a, b, c, rfl⟩
    refine ⟨_, rfl, l, _, _, _, rfl, rfl, SqL.of el, (atI_nat (j := 0) rfl), _, rfl, l, _, _, _, rfl, rfl, SqL.of el, (atI_nat (j := 1) rfl), _, _, rfl, ?_⟩
    refine ⟨_, rfl, _, rfl, p, rfl, P2, fun v1 H3 k3 P3 a1 b1 => ?_⟩
    refine ⟨_, rfl, p, rfl, P3, fun v2 H4 k4 P4 a2 b2 => ?_⟩
    refine ⟨_, rfl, p, 4, rfl, P4, by decide, by decide, fun v3 H5 k5 P5 a3 b3 => ?_⟩
    refine ⟨_, rfl, _, rfl, (by show 7 ≤ sizeLine; decide), fun th nth => ?_⟩
    have k6 : Kp p H5 _ := Kp.new nth (.tup [.int num, .int v1, .int v2, .int v3, .str "deed", .int g, .int t])
    have P6 := P5.new nth (.tup [.int num, .int v1, .int v2, .int v3, .str "deed", .int g, .int t])
    have eth : (upd H5 th (.tup [.int num, .int v1, .int v2, .int v3, .str "deed", .int g, .int t])) th = some (.tup [.int num, .int v1, .int v2, .int v3, .str "deed", .int g, .int t]) := upd_same
    generalize upd H5 th (.tup [.int num, .int v1, .int v2, .int v3, .str "deed", .int g, .int t]) = H6 at k6 P6 eth
    have k26 : Kp p H2 H6 := k3.trans (k4.trans (k5.trans k6))
    have k06 : Kp p H H6 := k1.trans (k2.trans k26)
    refine ⟨_, rfl, _, rfl, _, rfl, p, ld, 2, ds, rfl, P6, SqL.of (k06 _ _ nld eld), by decide, by decide, hdl, fun tr rs ls H7 k7 P7 etr pr upr hrl => ?_⟩
    have el7 := k7 _ _ nlp (k26 _ _ nlp el)
    refine ⟨_, rfl, _, rfl, _, rfl, l, _, rfl, SqL.of el7, fun s1 ns1 => ?_⟩
    rw [show cutV ((g :: t :: r).map V.int) (some 2) none = r.map V.int from cutDrop V.int (g :: t :: r) 2]
    have k8 : Kp p H7 _ := Kp.new ns1 (.lst (r.map V.int))
    have P8 := P7.new ns1 (.lst (r.map V.int))
    have es1 : (upd H7 s1 (.lst (r.map V.int))) s1 = some (.lst (r.map V.int)) := upd_same
    generalize upd H7 s1 (.lst (r.map V.int)) = H8 at k8 P8 es1
    have hrn : r.length ≤ 1000 := by
      have : (g :: t :: r).length = n := hml
      simp at this
      omega
    refine ⟨p, s1, 3, r, rfl, P8, SqL.of es1, by decide, by decide, hrn, fun tw ws ls2 H9 k9 P9 etw pw upw hwl => ?_⟩
    refine ⟨(by show 2 ≤ sizeLine; decide), fun t4 nt4 => ?_⟩
    have k10 : Kp p H9 _ := Kp.new nt4 (.tup [.ref tr, .ref tw])
    have P10 := P9.new nt4 (.tup [.ref tr, .ref tw])
    have et4 : (upd H9 t4 (.tup [.ref tr, .ref tw])) t4 = some (.tup [.ref tr, .ref tw]) := upd_same
    generalize upd H9 t4 (.tup [.ref tr, .ref tw]) = H10 at k10 P10 et4
    have k79 : Kp p H7 H10 := k8.trans (k9.trans k10)
    have eth10 := (k7.trans k79).tup P6 _ _ eth
    refine ⟨th, t4, _, _, rfl, rfl, SqT.of eth10, SqT.of et4, List.cons_ne_nil _ _, (by show 9 ≤ sizeLine; decide), fun z0 => absurd z0 (List.cons_ne_nil _ _), fun _ b hb => ?_⟩
    have kb : Kp p H10 (upd H10 b (.tup ([.int num, .int v1, .int v2, .int v3, .str "deed", .int g, .int t] ++ [.ref tr, .ref tw]))) := Kp.new hb _
    have etr10 := kb.tup P10 _ _ (k79.tup P7 _ _ etr)
    have etw10 := kb.tup P10 _ _ (k10.tup P9 _ _ etw)
    have hg := hmr g (by simp)
    have ht := hmr t (by simp)
    rw [List.nodup_cons, List.nodup_cons] at hmn
    have hwr : ∀ y ∈ ws, y ∈ r := fun y hy => pw.mem_iff.mp (List.mem_append_left _ hy)
    have hrd : ∀ y ∈ rs, y ∈ ds := fun y hy => pr.mem_iff.mp (List.mem_append_left _ hy)
    refine q b ⟨num, v1, v2, v3, .deed g t rs ws⟩ _ (k06.trans (k7.trans (k79.trans kb))) (P10.new hb _) ⟨tr, tw, upd_same, etr10, etw10⟩ rfl rfl fun as => ?_
    refine ⟨⟨a1, b1⟩, ⟨a2, b2⟩, ⟨a3, by show v3 ≤ 3; omega⟩, hg, ht, fun z => hmn.1 (z ▸ List.mem_cons_self), by omega, rising_of ?_ upr, fun y hy => ⟨hrd y hy, hdn _ (hrd y hy)⟩, by omega, rising_of ?_ upw, fun y hy => ?_⟩
    · exact (List.nodup_append.mp (pr.nodup_iff.mpr hnd)).1
    · exact (List.nodup_append.mp (pw.nodup_iff.mpr hmn.2.2)).1
    · have hy := hwr y hy
      have h1 := hmr y (by simp [hy])
      exact ⟨h1.1, h1.2, fun z => hmn.1 (z ▸ List.mem_cons_of_mem _ hy), fun z => hmn.2.1 (z ▸ hy)⟩
abbrev sAct : Stmt := topS 16
abbrev nAct : List Str := ["_law_pen_here", "_law_number", "_law_deeds", "_law_acts", "_law_word", "_law_some"]
abbrev pAct : List Str := ["_law_pen_here", "_law_number", "_law_deeds", "_law_acts"]
theorem scAct : FnScope nAct pAct (defScope sAct) := ⟨rfl, rfl, rfl, by decide +kernel, rfl, by decide +kernel, by decide +kernel⟩
def spAct (K : PySem.W.Frag) : Sp := fun vs H Q _ => ∃ (p ld la : Addr) (num : Int) (ds as : List Int), vs = [.ref p, .int num, .ref ld, .ref la] ∧ PenAt H p ∧ H ld = some (.lst (ds.map V.int)) ∧ ld ≠ p ∧ H la = some (.lst (as.map V.int)) ∧ la ≠ p ∧ ds ≠ [] ∧ ds.length ≤ 1000 ∧ as.length ≤ 1000 ∧ (∀ d ∈ ds, d < num) ∧ (∀ d ∈ as, d < num) ∧
  ∀ a (e : En) H', Kp p H H' → PenAt H' p → EntAt H' a e → e.num = num → e.isDeed = false → (∀ n, EnOk n ds as e) → Q (.ref a) H'
theorem ok_act {f : Addr} {fd : FuncData} {k : Nat} (F : Fun K "_law_act" "_law_act" sAct f fd) (C__law_draw : CDraw P w K mg base k) (C__law_day : CallOk P w K mg base k "_law_day" pDay spDay) (m_len : mg "len" = none) : FnOk P w K mg base CX0 (k + 1) f fd pAct (spAct K) := by
  refine F.ok scAct (fun vs H Q E h => ?_) (fun cdv A outer s H vs Q E hr h => ?_)
  · obtain ⟨p, ld, la, num, ds, as, rfl, _⟩ := h
    rfl
  · obtain ⟨p, ld, la, num, ds, as, rfl, hP, eld, nld, ela, nla, hne, hdl, hal, hdn, han, q⟩ := h
    have nd := scAct.nd
    refine ⟨_, pss_cons (ps_set (i := 4) nd rfl (.inl rfl) (pe_ix ix_list (pe_lst (pa_cons pe_str (pa_cons pe_str (pa_cons pe_str pa_nil)))) (pe_call C__law_draw.ok hr (by rfl) C__law_draw.g C__law_draw.kp C__law_draw.b .nil pass0 (pa_cons (pv 0) (pa_cons pe_int pa_nil))) (fun _ _ => rfl)))
      (pss_cons (ps_set (i := 5) nd rfl (.inl rfl) (pv 2))
      (pss_cons (ps_if (pt_cmpR op_eq (pv 4) pe_str (nomark _)) (pss_one (ps_set (i := 5) nd rfl (.inl rfl) (pv 3))) pss_nil)
      (pss_cons (ps_if (pt_cmpR (op_eqD hr.units) (pv 5) (pe_lst pa_nil) (nomark _)) (pss_one (ps_par (i := 4) (j := 5) (by rfl) nd rfl rfl (by decide) rfl rfl (pa_cons pe_str (pa_cons (pv 2) pa_nil)) (by rfl))) pss_nil)
      (pss_one (ps_ret (pe_tup (pa_cons (pv 1) (pa_cons (pe_call C__law_day.ok hr (by rfl) C__law_day.g C__law_day.kp C__law_day.b .nil pass0 (pa_cons (pv 0) pa_nil)) (pa_cons (pe_call C__law_day.ok hr (by rfl) C__law_day.g C__law_day.kp C__law_day.b .nil pass0 (pa_cons (pv 0) pa_nil)) (pa_cons (pe_call C__law_draw.ok hr (by rfl) C__law_draw.g C__law_draw.kp C__law_draw.b .nil pass0 (pa_cons (pv 0) (pa_cons pe_int pa_nil))) (pa_cons (pv 4) (pa_cons (pe_ix ix_list (pv 5) (pe_call C__law_draw.ok hr (by rfl) C__law_draw.g C__law_draw.kp C__law_draw.b .nil pass0 (pa_cons (pv 0) (pa_cons (pe_callB call_len_seq (by rfl) m_len (by decide +kernel) (pa_cons (pv 5) pa_nil)) pa_nil))) (fun _ _ => rfl)) pa_nil)))))))))))), ?_⟩
    refine ⟨(by show 3 ≤ sizeLine; decide), fun l1 nl1 => ?_⟩
    refine ⟨_, rfl, p, 3, rfl, hP.new nl1 _, by decide, by decide, fun v0 H1 k1 P1 a0 b0 => ?_⟩
    obtain ⟨_, gx, x, rfl, hx⟩ := pick (xs := [.str "paid", .str "void", .str "undone"]) (fun v => ∃ x : Str, v = .str x ∧ (x = "paid" ∨ x = "void" ∨ x = "undone")) a0 b0 (am1 ⟨_, rfl, .inl rfl⟩ (am1 ⟨_, rfl, .inr (.inl rfl)⟩ (am1 ⟨_, rfl, .inr (.inr rfl)⟩ am0)))
    have k01 : Kp p H H1 := (Kp.new nl1 _).trans k1
    refine ⟨l1, _, _, _, rfl, rfl, SqL.of (k1 _ _ (hP.free nl1) upd_same), gx, ?_⟩
    have eld1 := k01 _ _ nld eld
    have ela1 := k01 _ _ nla ela
    refine ⟨_, rfl, ?_⟩
    refine ⟨_, rfl, rfl, _, rfl, ?_⟩
    refine (Classical.em (x = ("undone" : Str))).elim (fun hu => ?U) (fun hu => ?NU)
    case' U =>
      rw [decide_eq_true (show V.str x = V.str "undone" by rw [hu])]
      refine iteT ?_
      refine ⟨_, rfl, ?_⟩
      refine ⟨_, rfl, Nat.zero_le _, fun l2 nl2 => ?_⟩
      have s2 := same_new nl2 (.lst [])
      have el2 : (upd H1 l2 (.lst [])) l2 = some (.lst (([] : List Int).map V.int)) := upd_same
      generalize upd H1 l2 (.lst []) = H2 at s2 el2
      refine ⟨.list (as.map PyData.int), .list (([] : List Int).map PyData.int), .lst (SqL.of (s2 _ _ ela1)) (dp_ints _), .lst (SqL.of el2) (dp_ints _), shaped_ints _, shaped_ints _, _, rfl, ?_⟩
      rw [eqv_ints]
      refine (Classical.em (as = [])).elim (fun ha => ?A1) (fun ha => ?B1)
      case' A1 =>
        rw [decide_eq_true ha]
        refine iteT ?_
        refine ⟨_, rfl, _, _, rfl, ?A⟩
      case' B1 =>
        rw [decide_eq_false ha]
        refine iteF ?B
    case' NU =>
      rw [decide_eq_false (show ¬ V.str x = V.str "undone" from fun z => hu (by injection z))]
      refine iteF ?_
      refine ⟨_, rfl, Nat.zero_le _, fun l2 nl2 => ?_⟩
      have s2 := same_new nl2 (.lst [])
      have el2 : (upd H1 l2 (.lst [])) l2 = some (.lst (([] : List Int).map V.int)) := upd_same
      generalize upd H1 l2 (.lst []) = H2 at s2 el2
      refine ⟨.list (ds.map PyData.int), .list (([] : List Int).map PyData.int), .lst (SqL.of (s2 _ _ eld1)) (dp_ints _), .lst (SqL.of el2) (dp_ints _), shaped_ints _, shaped_ints _, _, rfl, ?_⟩
      rw [eqv_ints, decide_eq_false hne]
      refine iteF ?C
    case' A1 =>
      obtain ⟨xw, ss, sa, es, nsa, hss, hsl, hcase, exw⟩ : ∃ (xw : Str) (ss : List Int) (sa : Addr), H2 sa = some (.lst (ss.map V.int)) ∧ sa ≠ p ∧ ss ≠ [] ∧ ss.length ≤ 1000 ∧ (∀ o ∈ ss, (((xw = "undone" ∧ o ∈ as) ∨ ((xw = "paid" ∨ xw = "void") ∧ o ∈ ds)) ∧ o < num)) ∧ (xw = "paid" ∧ sa = ld) :=
        ⟨"paid", ds, ld, s2 _ _ eld1, nld, hne, hdl, fun o ho => ⟨.inr ⟨.inl rfl, ho⟩, hdn o ho⟩, rfl, rfl⟩
      obtain ⟨rfl, rfl⟩ := exw
    case' B1 =>
      obtain ⟨xw, ss, sa, es, nsa, hss, hsl, hcase, exw⟩ : ∃ (xw : Str) (ss : List Int) (sa : Addr), H2 sa = some (.lst (ss.map V.int)) ∧ sa ≠ p ∧ ss ≠ [] ∧ ss.length ≤ 1000 ∧ (∀ o ∈ ss, (((xw = "undone" ∧ o ∈ as) ∨ ((xw = "paid" ∨ xw = "void") ∧ o ∈ ds)) ∧ o < num)) ∧ (xw = x ∧ sa = la) :=
        ⟨x, as, la, s2 _ _ ela1, nla, ha, hal, fun o ho => ⟨.inl ⟨hu, ho⟩, han o ho⟩, rfl, rfl⟩
      obtain ⟨rfl, rfl⟩ := exw
    case' NU =>
      obtain ⟨xw, ss, sa, es, nsa, hss, hsl, hcase, exw⟩ : ∃ (xw : Str) (ss : List Int) (sa : Addr), H2 sa = some (.lst (ss.map V.int)) ∧ sa ≠ p ∧ ss ≠ [] ∧ ss.length ≤ 1000 ∧ (∀ o ∈ ss, (((xw = "undone" ∧ o ∈ as) ∨ ((xw = "paid" ∨ xw = "void") ∧ o ∈ ds)) ∧ o < num)) ∧ (xw = x ∧ sa = ld) :=
        ⟨x, ds, ld, s2 _ _ eld1, nld, hne, hdl, fun o ho => ⟨.inr ⟨(by rcases hx with h | h | h; exact .inl h; exact .inr h; exact absurd h hu), ho⟩, hdn o ho⟩, rfl, rfl⟩
      obtain ⟨rfl, rfl⟩ := exw
    all_goals
      have P2 : PenAt H2 p := by
        obtain ⟨x1, x2, x3, x4, z1, z2⟩ := P1
        exact ⟨x1, x2, x3, x4, s2 _ _ z1, z2⟩
      have k02 : Kp p H H2 := k01.trans (Kp.same s2)
      refine ⟨_, rfl, _, rfl, p, rfl, P2, fun v1 H3 k3 P3 a1 b1 => ?_⟩
      refine ⟨_, rfl, p, rfl, P3, fun v2 H4 k4 P4 a2 b2 => ?_⟩
      refine ⟨_, rfl, p, 4, rfl, P4, by decide, by decide, fun v3 H5 k5 P5 a3 b3 => ?_⟩
      have k25 : Kp p H2 H5 := k3.trans (k4.trans k5)
      have es5 := k25 _ _ nsa es
      have hlpos : 0 < ss.length := List.length_pos_iff.mpr hss
      refine ⟨_, rfl, _, rfl, _, rfl, _, rfl, _, _, rfl, .inl (SqL.of es5), p, _, rfl, P5, by rw [List.length_map]; omega, by rw [List.length_map]; omega, fun v4 H6 k6 P6 a4 b4 => ?_⟩
      rw [List.length_map] at b4
      have hk : v4.toNat < ss.length := by omega
      refine ⟨_, _, _, .int ss[v4.toNat], rfl, rfl, SqL.of (k6 _ _ nsa es5), at_of (j := v4.toNat) (by omega) (by rw [List.getElem?_map, List.getElem?_eq_getElem hk]; rfl), (by show 6 ≤ sizeLine; decide), fun t3 nt3 => ?_⟩
      exact q t3 ⟨num, v1, v2, v3, .act _ ss[v4.toNat]⟩ _ (k02.trans (k25.trans (k6.trans (Kp.new nt3 _)))) (P6.new nt3 _) upd_same rfl rfl fun n => ⟨⟨a1, b1⟩, ⟨a2, b2⟩, ⟨a3, by show v3 ≤ 3; omega⟩, hcase _ (List.getElem_mem hk)⟩
end
end Deed

namespace Deed
open PySem PySem.Spec PyProof.Rows L2 LamX
theorem okE_snoc {n : Nat} {es : List En} {e : En} {num : Int} (hok : BkOk n es) (hlt : ∀ x ∈ es, x.num < num) (hnum : e.num = num) (h0 : 0 ≤ num) (h1 : num ≤ 30) (hEn : EnOk n (dn es) (an es) e) : BkOk n (es ++ [e]) := by
  have hd : ∀ x ∈ dn es, x ∈ dn (es ++ [e]) := fun x hx => by rw [dn_snoc]; exact List.mem_append_left _ hx
  have ha : ∀ x ∈ an es, x ∈ an (es ++ [e]) := fun x hx => by rw [an_snoc]; exact List.mem_append_left _ hx
  refine ⟨?_, fun e' he' => ?_, fun e' he' => ?_⟩
  · rw [List.map_append]
    refine List.nodup_append.mpr ⟨hok.nd, List.pairwise_singleton _ _, fun x hx y hy => ?_⟩
    obtain ⟨e', he', rfl⟩ := List.mem_map.mp hx
    have hy' : y = e.num := by simpa using hy
    rw [hy', hnum]
    exact Int.ne_of_lt (hlt e' he')
  · rcases List.mem_append.mp he' with he' | he'
    · exact hok.rng e' he'
    · rw [List.mem_singleton.mp he', hnum]
      omega
  · rcases List.mem_append.mp he' with he' | he'
    · exact (hok.ok e' he').mono hd ha
    · rw [List.mem_singleton.mp he']
      exact hEn.mono hd ha
theorem Kp.none {p q : Addr} {H H' : Hp} (k : Kp p H H') (n : q ≠ p) (h : H' q = none) : H q = none := by
  cases z : H q with
  | none => rfl
  | some o => rw [k _ _ n z] at h; cases h
section
variable {P : Program} {w : World} {K : PySem.W.Frag} {mg : Str → Option Value} {base : Heap}
abbrev sBook : Stmt := topS 17
abbrev nBook : List Str := ["_law_pen_here", "_law_most", "_law_folk_here", "_law_step", "_law_deeds", "_law_acts", "_law_entries", "_law_shift", "_law_k", "_law_number", "_law_age"]
abbrev pBook : List Str := ["_law_pen_here", "_law_most"]
theorem scBook : FnScope nBook pBook (defScope sBook) := ⟨rfl, rfl, rfl, by decide +kernel, rfl, by decide +kernel, by decide +kernel⟩
def spBook : Sp := fun vs H Q _ => ∃ (p : Addr) (most : Int), vs = [.ref p, .int most] ∧ PenAt H p ∧ 0 ≤ most ∧ most ≤ 16 ∧
  ∀ b fk t n age zs H', Kp p H H' → PenAt H' p → BookAt H' b fk t n age zs → (zs.length : Int) ≤ most → Q (.ref b) H'
theorem ok_book {f : Addr} {fd : FuncData} {k : Nat} (F : Fun K "_law_book" "_law_book" sBook f fd) (C__law_draw : CDraw P w K mg base k) (C__law_folk : CallOk P w K mg base k "_law_folk" pFolk spFolk) (C__law_deed : CallOk P w K mg base k "_law_deed" pDeed (spDeed K)) (C__law_act : CallOk P w K mg base k "_law_act" pAct (spAct K)) (C__law_mixed : CallOk P w K mg base k "_law_mixed" ["_law_pen_here", "_law_some"] (spMixed K)) (m_int : mg "int" = none) (m_range : mg "range" = none) (m_tuple : mg "tuple" = none) : FnOk P w K mg base CX0 (k + 1) f fd pBook spBook := by
  refine F.ok scBook (fun vs H Q E h => ?_) (fun cdv A outer s H vs Q E hr h => ?_)
  · obtain ⟨p, m, rfl, _⟩ := h
    rfl
  · obtain ⟨p, most, rfl, hP, hm0, hm1, q⟩ := h
    have nd := scBook.nd
    refine ⟨_, pss_cons (ps_par (i := 2) (j := 3) (by rfl) nd rfl rfl (by decide) rfl rfl (pa_cons (pe_call C__law_folk.ok hr (by rfl) C__law_folk.g C__law_folk.kp C__law_folk.b .nil pass0 (pa_cons (pv 0) (pa_cons pe_int pa_nil))) (pa_cons (pe_op op_add pe_int (pe_call C__law_draw.ok hr (by rfl) C__law_draw.g C__law_draw.kp C__law_draw.b .nil pass0 (pa_cons (pv 0) (pa_cons pe_int pa_nil)))) pa_nil)) (by rfl))
      (pss_cons (ps_par3 (i := 4) (j := 5) (l := 6) (by rfl) nd rfl rfl rfl (by decide) (by decide) (by decide) rfl rfl rfl (pa_cons (pe_lst pa_nil) (pa_cons (pe_lst pa_nil) (pa_cons (pe_lst pa_nil) pa_nil))) (by rfl))
      (pss_cons (ps_set (i := 7) nd rfl (.inl rfl) (pe_op op_mul (pe_call C__law_draw.ok hr (by rfl) C__law_draw.g C__law_draw.kp C__law_draw.b .nil pass0 (pa_cons (pv 0) (pa_cons pe_int pa_nil))) (pe_callTy call_int1 (by rfl) m_int (by decide +kernel) (pa_cons (pe_cmpR op_eq (pv 3) pe_int (nomark _)) pa_nil))))
      (pss_cons (ps_for PassesOwn.never rfl (pi_range1 rfl m_range (pa_cons (pe_call C__law_draw.ok hr (by rfl) C__law_draw.g C__law_draw.kp C__law_draw.b .nil pass0 (pa_cons (pv 0) (pa_cons (pe_op op_add (pv 1) pe_int) pa_nil))) pa_nil)) (pg_name (i := 8) nd rfl (.inl rfl))
        (pss_cons (ps_set (i := 9) nd rfl (.inl rfl) (pe_op op_add (pe_op op_mul (pv 8) (pv 3)) (pv 7)))
      (pss_one (ps_if (PW.pt (pw_or (pt_cmpR (op_eqD hr.units) (pv 4) (pe_lst pa_nil) (nomark _)) (pw_or1 (pt_cmpR op_lt (pe_call C__law_draw.ok hr (by rfl) C__law_draw.g C__law_draw.kp C__law_draw.b .nil pass0 (pa_cons (pv 0) (pa_cons pe_int pa_nil))) pe_int (nomark _))))) (pss_cons (ps_expr (pe_bm PySem.F.plainAttrs_list PySem.F.slot_list_append PySem.F.type_list_append mt_append (pv 6) (pa_cons (pe_call C__law_deed.ok hr (by rfl) C__law_deed.g C__law_deed.kp C__law_deed.b .nil pass0 (pa_cons (pv 0) (pa_cons (pv 9) (pa_cons (pv 2) (pa_cons (pv 4) pa_nil))))) pa_nil)))
      (pss_one (ps_expr (pe_bm PySem.F.plainAttrs_list PySem.F.slot_list_append PySem.F.type_list_append mt_append (pv 4) (pa_cons (pv 9) pa_nil))))) (pss_cons (ps_expr (pe_bm PySem.F.plainAttrs_list PySem.F.slot_list_append PySem.F.type_list_append mt_append (pv 6) (pa_cons (pe_call C__law_act.ok hr (by rfl) C__law_act.g C__law_act.kp C__law_act.b .nil pass0 (pa_cons (pv 0) (pa_cons (pv 9) (pa_cons (pv 4) (pa_cons (pv 5) pa_nil))))) pa_nil)))
      (pss_one (ps_expr (pe_bm PySem.F.plainAttrs_list PySem.F.slot_list_append PySem.F.type_list_append mt_append (pv 5) (pa_cons (pv 9) pa_nil)))))))))
      (pss_cons (ps_set (i := 10) nd rfl (.inl rfl) (pe_ix ix_list (pe_lst (pa_cons pe_int (pa_cons (pe_call C__law_draw.ok hr (by rfl) C__law_draw.g C__law_draw.kp C__law_draw.b .nil pass0 (pa_cons (pv 0) (pa_cons pe_int pa_nil))) (pa_cons (pe_call C__law_draw.ok hr (by rfl) C__law_draw.g C__law_draw.kp C__law_draw.b .nil pass0 (pa_cons (pv 0) (pa_cons pe_int pa_nil))) pa_nil)))) (pe_call C__law_draw.ok hr (by rfl) C__law_draw.g C__law_draw.kp C__law_draw.b .nil pass0 (pa_cons (pv 0) (pa_cons pe_int pa_nil))) (fun _ _ => rfl)))
      (pss_one (ps_ret (pe_tup (pa_cons (pv 2) (pa_cons (pv 10) (pa_cons (pe_callTy call_tuple_of (by rfl) m_tuple (by decide +kernel) (pa_cons (pe_call C__law_mixed.ok hr (by rfl) C__law_mixed.g C__law_mixed.kp C__law_mixed.b .nil pass0 (pa_cons (pv 0) (pa_cons (pv 6) pa_nil))) pa_nil)) pa_nil)))))))))), ?_⟩
    refine ⟨_, rfl, p, 2, rfl, hP, by decide, by decide, fun fk n H1 k1 P1 F1 hn2 hn6 => ?_⟩
    have hn2' : 2 ≤ n := by omega
    refine ⟨_, rfl, p, 2, rfl, P1, by decide, by decide, fun st0 H2 k2 P2 a2 b2 => ⟨_, _, rfl, rfl, _, _, rfl, ?_⟩⟩
    have F2 := F1.kp k2 P1
    have k12 := k1.trans k2
    refine ⟨Nat.zero_le _, fun ld hld => ?_⟩
    have nld : ld ≠ p := P2.free hld
    have hldH : H ld = none := k12.none nld hld
    refine ⟨Nat.zero_le _, fun la hla => ?_⟩
    have Pd := P2.new hld (.lst [])
    have nla : la ≠ p := Pd.free hla
    have nda : ld ≠ la := fun z => by rw [← z, upd_same] at hla; cases hla
    have hlaH : H la = none := (k12.trans (Kp.new hld _)).none nla hla
    refine ⟨Nat.zero_le _, fun lf hlf => ⟨_, _, _, rfl, ?_⟩⟩
    have Pa := Pd.new hla (.lst [])
    have nlf : lf ≠ p := Pa.free hlf
    have naf : la ≠ lf := fun z => by rw [← z, upd_same] at hlf; cases hlf
    have ndf : ld ≠ lf := fun z => by rw [← z, upd_ne nda, upd_same] at hlf; cases hlf
    have hlfH : H lf = none := (k12.trans ((Kp.new hld _).trans (Kp.new hla _))).none nlf hlf
    have k3 : Kp p H2 (upd (upd (upd H2 ld (.lst [])) la (.lst [])) lf (.lst [])) := ((Kp.new hld _).trans (Kp.new hla _)).trans (Kp.new hlf _)
    have P3 := Pa.new hlf (.lst [])
    have e3d : (upd (upd (upd H2 ld (.lst [])) la (.lst [])) lf (.lst [])) ld = some (.lst []) := by rw [upd_ne ndf, upd_ne nda, upd_same]
    have e3a : (upd (upd (upd H2 ld (.lst [])) la (.lst [])) lf (.lst [])) la = some (.lst []) := by rw [upd_ne naf, upd_same]
    have e3f : (upd (upd (upd H2 ld (.lst [])) la (.lst [])) lf (.lst [])) lf = some (.lst []) := upd_same
    generalize (upd (upd (upd H2 ld (.lst [])) la (.lst [])) lf (.lst [])) = H3 at k3 P3 e3d e3a e3f
    -- the shift
    refine ⟨_, rfl, p, 15, rfl, P3, by decide, by decide, fun sh H3' k3' P3' a3 b3 => ?_⟩
    refine ⟨_, rfl, rfl, .inr ⟨_, rfl, ?_⟩⟩
    refine ⟨_, _, rfl, rfl, .inl ⟨by omega, by omega⟩, ?_⟩
    obtain ⟨sf, esf, hsf⟩ : ∃ sf : Int, sh * (if decide (V.int (1 + st0) = V.int 1) = true then 1 else 0) = sf ∧ 0 ≤ sf ∧ ∀ i : Int, 0 ≤ i → i < 16 → i * (1 + st0) + sf ≤ 30 ∧ 0 ≤ i * (1 + st0) + sf := by
      have hst : st0 = 0 ∨ st0 = 1 := by omega
      rcases hst with rfl | rfl
      · exact ⟨sh, by simp, by omega, fun i h1 h2 => by omega⟩
      · exact ⟨0, by simp, by omega, fun i h1 h2 => by omega⟩
    dsimp only
    rw [esf]
    have k03 := k12.trans (k3.trans k3')
    refine ⟨_, rfl, _, rfl, _, _, rfl, rfl, p, most + 1, rfl, P3', by omega, by omega, fun many H4 k4 P4 a4 b4 => ?_⟩
    refine ⟨_, rfl, by omega, by omega, ?_⟩
    have k34 := k3'.trans k4
    refine for_range (lo := 0) (n := many.toNat) (fun i σ H' => ∃ y8 y9 y10, ∃ (zs : List (Addr × En)), σ = [some (.ref p), some (.int most), some (.ref fk), some (.int (1 + st0)), some (.ref ld), some (.ref la), some (.ref lf), some (.int sf), y8, y9, y10] ∧ Kp p H H' ∧ PenAt H' p ∧ FolkAt H' fk n ∧
        H' ld = some (.lst ((dn (ens zs)).map V.int)) ∧ H' la = some (.lst ((an (ens zs)).map V.int)) ∧ H' lf = some (.lst (refs zs)) ∧ (∀ z ∈ zs, EntAt H' z.1 z.2) ∧ zs.length = i ∧ BkOk n (ens zs) ∧ (∀ e ∈ ens zs, e.num < (i : Int) * (1 + st0) + sf))
      ⟨none, none, none, [], rfl, k03.trans k4, P4, ((F2.kp k3 P2).kp k3' P3).kp k4 P3', k34 _ _ nld e3d, k34 _ _ nla e3a, k34 _ _ nlf e3f, (fun _ h => nomatch h), rfl, ⟨List.nodup_nil, (fun _ h => nomatch h), (fun _ h => nomatch h)⟩, (fun _ h => nomatch h)⟩ ?_ ?_
    · rintro i σ H' hi ⟨y8, y9, y10, zs, rfl, k', P', F', ed, ea, ef, hent, hlen, hok, hlt⟩
      have hel : (ens zs).length = i := by rw [List.length_map, hlen]
      have hdl := dn_len (ens zs)
      have hal := an_len (ens zs)
      obtain ⟨hn1, hn0⟩ := hsf.2 (i : Int) (by omega) (by omega)
      have hst : 0 ≤ st0 ∧ st0 ≤ 1 := ⟨a2, by omega⟩
      refine ⟨_, rfl, _, rfl, _, _, rfl, rfl, .inl ⟨by omega, by omega⟩, _, rfl, _, _, rfl, rfl, ?_⟩
      dsimp only
      rw [show (0 + (i : Int)) * (1 + st0) + sf = (i : Int) * (1 + st0) + sf by rw [Int.zero_add]]
      have hnext : (i : Int) * (1 + st0) + sf < ((i : Nat) + 1 : Int) * (1 + st0) + sf := by
        rw [Int.add_mul]
        omega
      generalize hnm : (i : Int) * (1 + st0) + sf = num at hn1 hn0 hlt hnext
      have hdn : ∀ d ∈ dn (ens zs), d < num := fun d hd => by
        obtain ⟨e, he, rfl⟩ := List.mem_map.mp (dn_sub _ _ hd)
        exact hlt e he
      have han : ∀ d ∈ an (ens zs), d < num := fun d hd => by
        obtain ⟨e, he, rfl⟩ := List.mem_map.mp (an_sub _ _ hd)
        exact hlt e he
      refine ⟨_, rfl, Nat.zero_le _, fun l5 nl5 => ?_⟩
      have s5 := same_new nl5 (.lst [])
      have el5 : (upd H' l5 (.lst [])) l5 = some (.lst (([] : List Int).map V.int)) := upd_same
      generalize upd H' l5 (.lst []) = H5 at s5 el5
      have P5 : PenAt H5 p := by
        obtain ⟨x1, x2, x3, x4, z1, z2⟩ := P'
        exact ⟨x1, x2, x3, x4, s5 _ _ z1, z2⟩
      have k5 : Kp p H' H5 := Kp.same s5
      refine ⟨.list ((dn (ens zs)).map PyData.int), .list (([] : List Int).map PyData.int), .lst (SqL.of (s5 _ _ ed)) (dp_ints _), .lst (SqL.of el5) (dp_ints _), shaped_ints _, shaped_ints _, _, rfl, ?_⟩
      rw [eqv_ints]
      -- behind an entry at a, of a deed or an act, at the heap H6
      have fin : ∀ (a : Addr) (e : En) (H6 : Hp), Kp p H' H6 → PenAt H6 p → EntAt H6 a e → e.num = num → EnOk n (dn (ens zs)) (an (ens zs)) e →
          (H6 lf = some (.lst (refs zs)) ∧ ∀ (lx : Addr) (o : List V), (lx = ld ∨ lx = la) → (e.isDeed = true → lx = ld ∧ o = (dn (ens zs)).map V.int ++ [.int num]) → (e.isDeed = false → lx = la ∧ o = (an (ens zs)).map V.int ++ [.int num]) →
            (upd H6 lf (.lst (refs zs ++ [.ref a]))) lx = some (.lst (if e.isDeed then (dn (ens zs)).map V.int else (an (ens zs)).map V.int)) ∧
            ∃ (zs' : List (Addr × En)), Kp p H (upd (upd H6 lf (.lst (refs zs ++ [.ref a]))) lx (.lst o)) ∧ PenAt (upd (upd H6 lf (.lst (refs zs ++ [.ref a]))) lx (.lst o)) p ∧ FolkAt (upd (upd H6 lf (.lst (refs zs ++ [.ref a]))) lx (.lst o)) fk n ∧
        (upd (upd H6 lf (.lst (refs zs ++ [.ref a]))) lx (.lst o)) ld = some (.lst ((dn (ens zs')).map V.int)) ∧ (upd (upd H6 lf (.lst (refs zs ++ [.ref a]))) lx (.lst o)) la = some (.lst ((an (ens zs')).map V.int)) ∧ (upd (upd H6 lf (.lst (refs zs ++ [.ref a]))) lx (.lst o)) lf = some (.lst (refs zs')) ∧ (∀ z ∈ zs', EntAt (upd (upd H6 lf (.lst (refs zs ++ [.ref a]))) lx (.lst o)) z.1 z.2) ∧ zs'.length = i + 1 ∧ BkOk n (ens zs') ∧ (∀ e ∈ ens zs', e.num < ((i : Nat) + 1 : Int) * (1 + st0) + sf)) := by
        intro a e H6 k6 P6 E6 hnum hEn
        have kT6 := k6.tup P'
        have ed6 := k6 _ _ nld ed
        have ea6 := k6 _ _ nla ea
        have ef6 := k6 _ _ nlf ef
        refine ⟨ef6, fun lx o hlx hD hA => ?_⟩
        have nlxf : lx ≠ lf := by rcases hlx with h | h <;> rw [h] <;> assumption
        have nlxp : lx ≠ p := by rcases hlx with h | h <;> rw [h] <;> assumption
        have hlxH : H lx = none := by rcases hlx with h | h <;> rw [h] <;> assumption
        have kT7 := KpT.lst ef6 (.lst (refs zs ++ [.ref a]))
        have P7 := P6.put nlf (.lst (refs zs ++ [.ref a]))
        have k7 := (k'.trans k6).over hlfH (.lst (refs zs ++ [.ref a]))
        have ed7 := (show (upd H6 lf (.lst (refs zs ++ [.ref a]))) ld = H6 ld from upd_ne ndf).trans ed6
        have ea7 := (show (upd H6 lf (.lst (refs zs ++ [.ref a]))) la = H6 la from upd_ne naf).trans ea6
        have ef7 := (show (upd H6 lf (.lst (refs zs ++ [.ref a]))) lf = some (.lst (refs zs ++ [.ref a])) from upd_same)
        have E7 := E6.kp kT7
        have F7 := (F'.kpT kT6).kpT kT7
        have hent7 : ∀ z ∈ zs, EntAt (upd H6 lf (.lst (refs zs ++ [.ref a]))) z.1 z.2 := fun z hz => ((hent z hz).kp kT6).kp kT7
        generalize (upd H6 lf (.lst (refs zs ++ [.ref a]))) = H7 at kT7 P7 k7 ed7 ea7 ef7 E7 F7 hent7
        have elx : H7 lx = some (.lst (if e.isDeed then (dn (ens zs)).map V.int else (an (ens zs)).map V.int)) := by
          cases hd : e.isDeed with
          | true => rw [(hD hd).1, ed7]; rfl
          | false => rw [(hA hd).1, ea7]; rfl
        refine ⟨elx, zs ++ [(a, e)], k7.over hlxH _, P7.put nlxp _, F7.kpT (KpT.lst elx _), ?_, ?_, ?_, fun z hz => ?_, ?_, ?_, fun e' he' => ?_⟩
        · rw [show ens (zs ++ [(a, e)]) = ens zs ++ [e] by simp [ens], dn_snoc]
          cases hd : e.isDeed with
          | true =>
            obtain ⟨h1, h2⟩ := hD hd
            rw [h1, h2, upd_same, if_pos rfl, List.map_append, hnum]
            rfl
          | false =>
            obtain ⟨h1, h2⟩ := hA hd
            rw [h1, upd_ne nda, if_neg (by decide), List.append_nil]
            exact ed7
        · rw [show ens (zs ++ [(a, e)]) = ens zs ++ [e] by simp [ens], an_snoc]
          cases hd : e.isDeed with
          | true =>
            obtain ⟨h1, h2⟩ := hD hd
            rw [h1, upd_ne nda.symm, if_pos rfl, List.append_nil]
            exact ea7
          | false =>
            obtain ⟨h1, h2⟩ := hA hd
            rw [h1, h2, upd_same, if_neg (by decide), List.map_append, hnum]
            rfl
        · rw [upd_ne nlxf.symm, ef7]
          simp [refs]
        · rcases List.mem_append.mp hz with hz | hz
          · exact (hent7 z hz).kp (KpT.lst elx _)
          · rw [List.mem_singleton.mp hz]
            exact E7.kp (KpT.lst elx _)
        · rw [List.length_append, hlen]
          rfl
        · rw [show ens (zs ++ [(a, e)]) = ens zs ++ [e] by simp [ens]]
          exact okE_snoc hok hlt hnum hn0 hn1 hEn
        · rw [show ens (zs ++ [(a, e)]) = ens zs ++ [e] by simp [ens]] at he'
          rcases List.mem_append.mp he' with he' | he'
          · have := hlt e' he'
            omega
          · rw [List.mem_singleton.mp he', hnum]
            exact hnext
      refine (Classical.em (dn (ens zs) = [])).elim (fun hd0 => ?D1) (fun hd0 => ?D2)
      case' D1 =>
        rw [decide_eq_true hd0]
        refine iteT ?_
        refine iteT ?_
        obtain ⟨H5b, k5b, P5b⟩ : ∃ H5b, Kp p H' H5b ∧ PenAt H5b p ∧ H5b = H5 := ⟨H5, k5, P5, rfl⟩
        obtain ⟨P5b, rfl⟩ := P5b
      case' D2 =>
        rw [decide_eq_false hd0]
        refine iteF ?_
        refine ⟨_, rfl, p, 5, rfl, P5, by decide, by decide, fun v5 H5b k5b0 P5b a5 b5 => ⟨_, _, rfl, rfl, _, rfl, ?_⟩⟩
        have k5b : Kp p H' H5b := k5.trans k5b0
        refine (Classical.em (v5 < 2)).elim (fun h52 => ?D3) (fun h52 => ?D4)
        case' D3 =>
          rw [decide_eq_true h52]
          refine iteT ?_
        case' D4 =>
          rw [decide_eq_false h52]
          refine iteF ?_
      case D4 =>
        have ef5 := k5b _ _ nlf ef
        refine ⟨_, rfl, .inl ⟨rfl, _, SqL.of ef5⟩, _, rfl, _, rfl, _, rfl, _, rfl, p, ld, la, num, dn (ens zs), an (ens zs), rfl, P5b, k5b _ _ nld ed, nld, k5b _ _ nla ea, nla, hd0, by omega, by omega, hdn, han, fun a e H6 k6 P6 E6 hnum hnd hEn => ?_⟩
        obtain ⟨f1, f2⟩ := fin a e H6 (k5b.trans k6) P6 E6 hnum (hEn n)
        refine ⟨lf, _, _, rfl, rfl, f1, small1000 (by rw [List.length_map]; omega), ?_⟩
        obtain ⟨f3, zs', f4⟩ := f2 la ((an (ens zs)).map V.int ++ [.int num]) (.inr rfl) (fun z => by rw [hnd] at z; cases z) (fun _ => ⟨rfl, rfl⟩)
        rw [hnd] at f3
        refine ⟨_, rfl, .inl ⟨rfl, _, SqL.of f3⟩, _, rfl, la, _, _, rfl, rfl, f3, small1000 (by show ((an (ens zs)).map V.int).length ≤ 1000; rw [List.length_map]; omega), ?_⟩
        exact ⟨_, _, _, zs', rfl, f4⟩
      all_goals
        have ef5 := k5b _ _ nlf ef
        refine ⟨_, rfl, .inl ⟨rfl, _, SqL.of ef5⟩, _, rfl, _, rfl, _, rfl, _, rfl, p, fk, ld, num, n, dn (ens zs), rfl, P5b, F'.kpT (k5b.tup P'), hn2', hn6, k5b _ _ nld ed, nld, dn_nodup hok.nd, by omega, hdn, fun a e H6 k6 P6 E6 hnum hnd hEn => ?_⟩
        obtain ⟨f1, f2⟩ := fin a e H6 (k5b.trans k6) P6 E6 hnum (hEn _)
        refine ⟨lf, _, _, rfl, rfl, f1, small1000 (by rw [List.length_map]; omega), ?_⟩
        obtain ⟨f3, zs', f4⟩ := f2 ld ((dn (ens zs)).map V.int ++ [.int num]) (.inl rfl) (fun _ => ⟨rfl, rfl⟩) (fun z => by rw [hnd] at z; cases z)
        rw [hnd] at f3
        refine ⟨_, rfl, .inl ⟨rfl, _, SqL.of f3⟩, _, rfl, ld, _, _, rfl, rfl, f3, small1000 (by show ((dn (ens zs)).map V.int).length ≤ 1000; rw [List.length_map]; omega), ?_⟩
        exact ⟨_, _, _, zs', rfl, f4⟩
    · rintro σ H' ⟨y8, y9, y10, zs, rfl, k', P', F', ed, ea, ef, hent, hlen, hok, hlt⟩
      refine ⟨_, rfl, p, 30, rfl, P', by decide, by decide, fun v1 H5 k5 P5 a5 b5 => ?_⟩
      refine ⟨_, rfl, p, 10000, rfl, P5, by decide, by decide, fun v2 H6 k6 P6 a6 b6 => ?_⟩
      refine ⟨(by show 3 ≤ sizeLine; decide), fun l6 nl6 => ?_⟩
      refine ⟨_, rfl, p, 3, rfl, P6.new nl6 _, by decide, by decide, fun v3 H7 k7 P7 a7 b7 => ?_⟩
      obtain ⟨_, g8, age, rfl, a8, b8⟩ := pick (xs := [.int 0, .int v1, .int v2]) (Within 0 9999) a7 b7 (am1 ⟨_, rfl, by omega, by omega⟩ (am1 ⟨_, rfl, by omega, by omega⟩ (am1 ⟨_, rfl, by omega, by omega⟩ am0)))
      refine ⟨l6, _, _, _, rfl, rfl, SqL.of (k7 _ _ (P6.free nl6) upd_same), g8, ?_⟩
      have k57 : Kp p H' H7 := k5.trans (k6.trans ((Kp.new nl6 _).trans k7))
      have hl16 : zs.length ≤ 16 := by omega
      refine ⟨_, rfl, _, rfl, _, rfl, _, rfl, p, lf, _, rfl, P7, .inl (SqL.of (k57 _ _ nlf ef)), by rw [List.length_map]; omega, fun lm ys H8 k8 P8 nlm elm pm => ?_⟩
      obtain ⟨zs', rfl, pm2⟩ := perm_pairs (fun z : Addr × En => V.ref z.1) pm zs rfl
      refine ⟨lm, _, rfl, .inl ⟨SqL.of elm, fun t7 nt7 => ?_⟩⟩
      have k9 : Kp p H8 _ := Kp.new nt7 (.tup (refs zs'))
      have P9 := P8.new nt7 (.tup (refs zs'))
      have e9 : (upd H8 t7 (.tup (refs zs'))) t7 = some (.tup (refs zs')) := upd_same
      refine ⟨(by show 3 ≤ sizeLine; decide), fun t8 nt8 => ?_⟩
      have k10 : Kp p _ _ := Kp.new nt8 (.tup [.ref fk, .int age, .ref t7])
      have kA := (k57.trans (k8.trans (k9.trans k10)))
      have kAT := kA.tup P'
      refine q t8 fk t7 n age zs' _ (k'.trans kA) (P9.new nt8 _) ⟨upd_same, F'.kpT kAT, hn2', hn6, a8, b8, k10.tup P9 _ _ e9, fun z hz => (hent z (pm2.mem_iff.mp hz)).kp kAT, hok.perm (pm2.map _), by rw [pm2.length_eq]; exact hl16⟩ ?_
      rw [pm2.length_eq, hlen]
      omega
end
end Deed

namespace Deed
open PySem PySem.Spec PySem.W PyProof.Rows L2 LamX
/-! ### sorted(e, key=lambda x: (x[i], x[j])) of a list or tuple of tuples -/
section
variable {prog : Program} {w : World} {A : Around} {E : Value → Shared → Prop} {s : Shared}
/-- by keys that are data of one kind -/
theorem sortedD {β : Type} {l f : Addr} {vs : List Value} {bs : List β} {R : Value → β → Prop} {Q : Value → Shared → Prop} (kd : β → PyData) (hal : ∀ b b', alike (kd b) (kd b') = true) (hsr : Sortable (bs.map kd)) (hdp : ∀ b, PyData.depth (kd b) ≤ 8)
    (hl : s.heap.IsList l vs.toArray ∨ s.heap.IsTuple l vs.toArray) (e : EachIs R vs bs) (hL : bs.length ≤ sizeLine) (hu : A.units + 74 < cLine)
    (turn : ∀ (v : Value) (x : β), R v x → x ∈ bs → ∀ (h : Heap) (tk : Nat), (∀ b o, s.heap.get? b = some o → h.get? b = some o) →
      wpAny (model prog w) A.in1.in1 (call (.ref f) [v]) (KeyPure (kd x) { s with heap := h, toks := tk }) (fun _ _ => False) { s with heap := h, toks := tk })
    (h : ∀ out c h' tk, (∀ b o, s.heap.get? b = some o → h'.get? b = some o) → h'.get? (s.heap.objs.size + 1) = some (seqObj "list" (List.toArray out) c) → out.length = bs.length → EachIs R out (bs.mergeSort (dataLe false kd)) →
      Q (.ref (s.heap.objs.size + 1)) { s with heap := h', toks := tk }) :
    wpAny (model prog w) A (call (.builtin "sorted") [.ref l] [(Str.ofString "key", .ref f)]) Q E s := by
  have hv : vs.length ≤ sizeLine := by rw [e.length]; exact hL
  have up : ∀ {g : Heap}, KeepsBut (s.heap.objs.size + 1) (copyHeap s.heap vs) g → ∀ b o, s.heap.get? b = some o → g.get? b = some o := fun kp b o z =>
    kp b o (Nat.ne_of_lt (Nat.lt_succ_of_lt (Heap.lt_size z))) (copyHeap_old z)
  have ez : ((s.heap.push (seqObj "list" #[] 0)).update s.heap.objs.size (Obj.mapSeq (· ++ vs.toArray))).objs.size = s.heap.objs.size + 1 := by rw [Heap.size_update, size_push']
  refine call_function_entry_kw kind_sorted plain_sorted entry_sorted (ksk_s1 _ _) ?_
  unfold Builtin.«sorted»
  refine wpAny_bind (m := checkCount "sorted" 1 1 _) (wpAny_pure (?_))
  refine wpAny_bind (collectS hl hv ?_)
  refine wpAny_bind (wpAny_newList (?_) hv)
  show wpAny _ _ _ _ _ { s with heap := copyHeap s.heap vs }
  rw [ez]
  refine wpAny_bind (wpAny_holding (wpAny_call_entry_kw slot_list_sort ⟨_, copyHeap_at s.heap vs, rfl⟩ entry_list_sort (?body) (ksk_l1 _ _)))
  case body =>
    show wpAny (model prog w) A.in1.in1 (Builtin.«list.sort» ⟨[.ref (s.heap.objs.size + 1)], [(Str.ofString "key", .ref f)]⟩) _ _ _
    rw [ksk_t1]
    refine keyH_tree (kz := bs.map kd) (s := { s with heap := copyHeap s.heap vs }) (copyHeap_at s.heap vs) (by rw [List.length_map]; exact e.length.symm) hv (AllAlike.of hal) hsr (fun d hd => ?dep)
      (keyH_turns (k := kd) (s := { s with heap := copyHeap s.heap vs }) e fun v x hR hx h tk kp => turn v x hR hx h tk (up kp)) fun h' tk out c kp hD ko => ?fin
    case dep =>
      obtain ⟨x, _, rfl⟩ := List.mem_map.mp hd
      show A.units + 1 + 1 + PyData.depth (kd x) < cLine
      have := hdp x
      omega
    case fin =>
      exact ⟨_, rfl, wpAny_pure ⟨_, rfl, h out c h' tk (up kp) hD ((ko.length (by rw [List.length_map]; exact e.length.symm)).trans e.length) (keyedOut_each kd ko e)⟩⟩
/-- an item of a tuple, in a lambda's frame -/
theorem lam_item {env : Env} {t : Addr} {x : Str} {ix : Expr} {p1 p3 : Pos} {scope : Scope} {items : Array Value} {i : Nat} {kk : Int} {u : Tok} {Q : Value → Shared → Prop}
    (hsc : env.scope = scope) (hloc : wpAny (model prog w) A (eval (.Name x p1) env) (fun v s' => v = .ref t ∧ s' = s) E s)
    (hix : ∀ Q' : Value → Shared → Prop, (∀ u tk, Q' (.int (i : Nat) u) { s with toks := tk }) → wpAny (model prog w) A (eval ix env) Q' E s)
    (hpl : PlainIx ix) (hi : i < 2 ^ 62) (ht : s.heap.IsTuple t items) (hx : items[i]? = some (.int kk u)) (hq : ∀ tk, Q (.int kk u) { s with toks := tk }) :
    wpAny (model prog w) A (eval (.Subscript (.Name x p1) ix p3) env) Q E s := by
  refine Subscript_ (wpAny_mono hloc (fun v s' hv => ?_) fun _ _ z => z)
  obtain ⟨rfl, rfl⟩ := hv
  refine hix _ fun u' tk' => ?_
  have hsz : i < items.size := by
    rcases Nat.lt_or_ge i items.size with z | z
    · exact z
    · rw [Array.getElem?_eq_none (by omega)] at hx
      cases hx
  refine subscriptTail_builtinR (x := .int kk u) (s := { s' with toks := tk' }) (show Heap.IsTuple ({ s' with toks := tk' } : Shared).heap t items from ht).typeIs slot_tuple_getitem.lookup (getItem_tuple (j := i) (Q := fun r s'' => r = .int kk u ∧ Q r s'') ht (by omega) (by omega) (seqIndex_of (by omega) (by omega)) hx ⟨rfl, hq tk'⟩) (hpl _ _)
end
end Deed

namespace Deed
open PySem PySem.Spec PySem.W PyProof.Rows L2 LamX
section
variable {prog : Program} {w : World} {A : Around} {E : Value → Shared → Prop} {s : Shared}
theorem lam_key2 {f c' t : Addr} {x q : Str} {params : Arguments} {ix jx : Expr} {scope : Scope} {cl : List (Str × Addr)} {pm ctv : Value} {p1 p2 p3 p4 tp : Pos} {nk : Nat} {items : Array Value} {i j : Nat} {ki kj : Int} {ui uj : Tok} {mg : Str → Option Value}
    (of : s.heap.get? f = some (kla_obj "<lambda>" q params (.Tuple [.Subscript (.Name x p1) ix p3, .Subscript (.Name x p2) jx p4] nk tp) scope cl pm c' ctv)) (hcd : s.heap.CodeRec (.ref c') q) (hroom : A.depth < recursionLimit) (lim : s.heap.NoLimit) (ns : s.heap.Ns mainGlobals mg)
    (hk : scope.kind = .function) (hco : scope.isCoroutine = false) (hgen : scope.isGenerator = false) (hcell : ∀ y ∈ scope.names, y.2 ≠ .cell) (hloc : scope.names.lookup x = some .local)
    (hbind : ∀ v : Value, bindArgs (kla_fn "<lambda>" q params (.Tuple [.Subscript (.Name x p1) ix p3, .Subscript (.Name x p2) jx p4] nk tp) scope cl pm (.ref c') ctv) ⟨[v], []⟩ = pure [(x, v)])
    (hix : ∀ (env : Env) (A : Around) (E : Value → Shared → Prop) (s' : Shared) (Q : Value → Shared → Prop), env.scope = scope → env.globals = mainGlobals → s'.heap.Ns mainGlobals mg → (∀ u tk, Q (.int (i : Nat) u) { s' with toks := tk }) → wpAny (model prog w) A (eval ix env) Q E s')
    (hjx : ∀ (env : Env) (A : Around) (E : Value → Shared → Prop) (s' : Shared) (Q : Value → Shared → Prop), env.scope = scope → env.globals = mainGlobals → s'.heap.Ns mainGlobals mg → (∀ u tk, Q (.int (j : Nat) u) { s' with toks := tk }) → wpAny (model prog w) A (eval jx env) Q E s')
    (hst : ∀ (env : Env), starEach [.Subscript (.Name x p1) ix p3, .Subscript (.Name x p2) jx p4] env = (false, eval (.Subscript (.Name x p1) ix p3) env) :: starEach [.Subscript (.Name x p2) jx p4] env)
    (hst2 : ∀ (env : Env), starEach [.Subscript (.Name x p2) jx p4] env = (false, eval (.Subscript (.Name x p2) jx p4) env) :: starEach [] env)
    (hpi : PlainIx ix) (hpj : PlainIx jx) (hi62 : i < 2 ^ 62) (hj62 : j < 2 ^ 62) (hd : (x == ("__debug__" : Str)) = false) (ht : s.heap.IsTuple t items) (hi : items[i]? = some (.int ki ui)) (hj : items[j]? = some (.int kj uj)) :
    wpAny (model prog w) A (call (.ref f) [.ref t]) (KeyPure (.tuple [.int ki, .int kj]) s) (fun _ _ => False) s := by
  refine wpAny_call (kla_callFunE hroom of rfl hco hgen rfl hcd ?_)
  rw [hbind]
  refine wpAny_pure (wpAny_newFunctionEnv hcell (fun y hy => ?_) (fun h₁ hns hsb => ⟨lim.fresh _ hsb, ?_⟩) hk)
  · rw [List.mem_singleton.mp hy]
    exact hloc
  have kp : ∀ b o, s.heap.get? b = some o → h₁.get? b = some o := fun b o z => hsb.extBut b o (Nat.ne_of_lt (Heap.lt_size z)) (Heap.get?_push_of_some _ z)
  have ht1 : h₁.IsTuple t items := by
    obtain ⟨o, z1, z2, z3⟩ := ht
    exact ⟨o, kp _ _ z1, z2, z3⟩
  refine kla_codeExpr (PySem.wpAny_Tuple_spliced (spliced_more ?_ (hst _)))
  refine lam_item (scope := scope) ?a1 ?a2 ?a3 hpi hi62 ht1 hi fun tk => ?_
  case a1 => rfl
  case a2 => exact wpAny_Name (wpAny_loadName_local hk hloc hns (v := .ref t) (by simp) ⟨rfl, rfl⟩) hd
  case a3 => exact fun Q' hq' => hix _ _ _ _ _ rfl rfl (ns.keeps kp) hq'
  refine spliced_more ?_ (hst2 _)
  refine lam_item (scope := scope) ?a1 ?a2 ?a3 hpj hj62 ht1 hj fun tk2 => ?_
  case a1 => rfl
  case a2 => exact wpAny_Name (wpAny_loadName_local hk hloc hns (v := .ref t) (by simp) ⟨rfl, rfl⟩) hd
  case a3 => exact fun Q' hq' => hjx _ _ _ _ _ rfl rfl (ns.keeps kp) hq'
  refine spliced_none ?_
  refine ⟨by show 2 ≤ sizeLine; decide, ?_⟩
  refine ⟨_, _, rfl, fun b o z => Heap.get?_push_of_some _ (kp b o z), ?_⟩
  exact Reads.tuple (as := []) (Heap.get?_push_size _ rfl) rfl rfl (ReadsAll.cons (as := []) (bs := []) (.int _ _) (ReadsAll.cons (as := []) (bs := []) (.int _ _) .nil))
end
/-- sorted(e, key=lambda x: (x[i], x[j])): some arrangement by the keys, at a new address; a table may have grown -/
def tSortP (K : PySem.W.Frag) (T : List (Addr × Str)) (i j : Nat) (te : TA) : TE := fun σ H Q => te σ H fun vs H1 => ∃ (a : Addr) (xs : List V) (ki kj : V → Int), vs = [.ref a] ∧ (SqL K H1 a xs ∨ SqT K H1 a xs) ∧ (∀ y ∈ xs, ∃ t zs, y = .ref t ∧ H1 t = some (.tup zs) ∧ zs[i]? = some (.int (ki y)) ∧ zs[j]? = some (.int (kj y))) ∧ Tabs T H1 ∧
  ∀ p ys H2, ExtN H1 H2 → Tabs T H2 → H2 p = none → ys.Perm xs → ys.Pairwise (fun u v => ki u < ki v ∨ (ki u = ki v ∧ kj u ≤ kj v)) → Q (.ref p) (upd H2 p (.lst ys))
section
variable {X : Cx}
theorem pe_sortP {T : List (Addr × Str)} {c P : Addr} {k i j nk : Nat} {e ix jx : Expr} {te : TA} {x : Str} {params : Arguments} {scope : Scope} {p p1 p2 p3 p4 tp lpos kpos pos : Pos}
    (hg : Gl X "sorted") (hm : X.mg "sorted" = none) (ha : PA X [e] te) (hr : Room (k + 1) X.A) (TB : TabB X.base X.mg c P) (hcode : X.env.code = .ref c) (hmT : (P, X.env.qual ++ "<lambda>") ∈ T) (hu : ∀ p ∈ T, p.1 = P → p.2 = X.env.qual ++ "<lambda>")
    (hdef : defaultsOf params X.env = ([], [])) (hfree : ∀ y ∈ scope.names, y.2 ≠ .free)
    (hk : scope.kind = .function) (hco : scope.isCoroutine = false) (hgen : scope.isGenerator = false) (hcell : ∀ y ∈ scope.names, y.2 ≠ .cell) (hloc : scope.names.lookup x = some .local)
    (hbind : ∀ (q : Str) (cl : List (Str × Addr)) (pm cv ctv v : Value), bindArgs (kla_fn "<lambda>" q params (.Tuple [.Subscript (.Name x p1) ix p3, .Subscript (.Name x p2) jx p4] nk tp) scope cl pm cv ctv) ⟨[v], []⟩ = pure [(x, v)])
    (hix : ∀ (env : Env) (A : Around) (E : Value → Shared → Prop) (s' : Shared) (Q : Value → Shared → Prop), env.scope = scope → env.globals = mainGlobals → s'.heap.Ns mainGlobals X.mg → (∀ u tk, Q (.int (i : Nat) u) { s' with toks := tk }) → wpAny (model X.prog X.w) A (eval ix env) Q E s')
    (hjx : ∀ (env : Env) (A : Around) (E : Value → Shared → Prop) (s' : Shared) (Q : Value → Shared → Prop), env.scope = scope → env.globals = mainGlobals → s'.heap.Ns mainGlobals X.mg → (∀ u tk, Q (.int (j : Nat) u) { s' with toks := tk }) → wpAny (model X.prog X.w) A (eval jx env) Q E s')
    (hst : ∀ (env : Env), starEach [.Subscript (.Name x p1) ix p3, .Subscript (.Name x p2) jx p4] env = (false, eval (.Subscript (.Name x p1) ix p3) env) :: starEach [.Subscript (.Name x p2) jx p4] env)
    (hst2 : ∀ (env : Env), starEach [.Subscript (.Name x p2) jx p4] env = (false, eval (.Subscript (.Name x p2) jx p4) env) :: starEach [] env)
    (hpi : PlainIx ix) (hpj : PlainIx jx) (hi62 : i < 2 ^ 62) (hj62 : j < 2 ^ 62) (hd : (x == ("__debug__" : Str)) = false)
    (h1 : backTo pos (starEach [e] X.env) = (false, eval e X.env) :: backTo pos (starEach [] X.env) := by rfl) (h2 : (backTo pos (starEach [e] X.env)).any (·.1) = false := by rfl) :
    PE X (.Call (.Name "sorted" p) [e] [⟨some "key", .Lambda params (.Tuple [.Subscript (.Name x p1) ix p3, .Subscript (.Name x p2) jx p4] nk tp) scope lpos, kpos⟩] pos) (tSortP X.K T i j te) := by
  refine ⟨fun pins s σ H Q I h => ?_⟩
  refine wpAny_Call_Name_kw (ld_blt I hg hm (show bootBuiltins "sorted" = some (.builtin "sorted") by decide +kernel) ?_)
  refine callWith_kw (thn (ha.run pos pins s σ H _ I h) fun us s1 ⟨vs, H1, I1, r1, q1⟩ => ?_) h1 h2 rfl rfl
  obtain ⟨a, xs, ki, kj, rfl, hS, hxs, hT, q⟩ := q1
  obtain rfl := Vals.ref1 r1
  show wpAny _ _ (evalAll [(do let v ← eval (.Lambda params (.Tuple [.Subscript (.Name x p1) ix p3, .Subscript (.Name x p2) jx p4] nk tp) scope lpos) X.env; standAt pos; pure v)]) _ _ s1
  refine wpAny_evalAll_cons (wpAny_bind (lam_make2 I1 TB hcode hmT hu hT hdef (fun y hy e => absurd e (hfree y hy)) fun f c' pm ctv H2 s2 I2 eN T2 hf hfn hfr hco' => wpAny_bind (wpAny_standAt (wpAny_pure (wpAny_evalAll_nil ?_)))))
  have seqs : ∃ its, Vals xs its ∧ xs.length ≤ sizeLine ∧ (s2.heap.IsList a its.toArray ∨ s2.heap.IsTuple a its.toArray) := by
    rcases hS with hS | hS
    · have hS2 : SqL X.K H2 a xs := by
        rcases hS with (z | ⟨o, z⟩) | z
        · exact .inl (.inl (eN _ _ z fun ps z' => by cases z'))
        · exact .inl (.inr ⟨o, eN _ _ z fun ps z' => by cases z'⟩)
        · exact .inr z
      obtain ⟨its, rv, hl, hz⟩ := I2.list hS2
      exact ⟨its, rv, hz, .inl hl.isList⟩
    · have hS2 : SqT X.K H2 a xs := by
        rcases hS with (z | ⟨o, z⟩) | z
        · exact .inl (.inl (eN _ _ z fun ps z' => by cases z'))
        · exact .inl (.inr ⟨o, eN _ _ z fun ps z' => by cases z'⟩)
        · exact .inr z
      obtain ⟨its, rv, hl, hz⟩ := I2.tuple hS2
      exact ⟨its, rv, hz, .inr hl⟩
  obtain ⟨its, rv, hz, hl⟩ := seqs
  have hun := hr.un
  have hdp := hr.dp
  show wpAny (model X.prog X.w) X.A (call (.builtin "sorted") [.ref a] [(Str.ofString "key", .ref f)]) _ _ s2
  refine sortedD (R := fun u y => RelV y u) (fun y => PyData.tuple [.int (ki y), .int (kj y)]) (fun b b' => by simp [alike, alikeAll]) (Sortable.tuples fun b => ⟨_, _, rfl⟩) (fun b => by simp [PyData.depth, PyData.depthAll]) hl (each_vals rv) hz (by omega) (fun u y hR hy h tk kp => ?_) fun out ep h' tk kp hD hlen eo => ?_
  · obtain ⟨t, zs, rfl, ht, hzi, hzj⟩ := hxs y hy
    obtain rfl : u = Value.ref t := hR
    have ht2 := eN _ _ ht fun ps z' => by cases z'
    obtain ⟨_, its2, r2, o, ho, hc, n, hd2⟩ := I2.hok _ _ ht2
    obtain ⟨oc, vs, tt, c1, c2, c3⟩ := (I2.hok c' _ hco').1
    obtain ⟨v1, g1, tk1, rfl⟩ : ∃ v1, its2[i]? = some v1 ∧ ∃ t1, v1 = .int (ki (.ref t)) t1 := by
      obtain ⟨v1, g1, r1⟩ := r2.get hzi
      exact ⟨v1, g1, r1⟩
    obtain ⟨v2, g2, tk2, rfl⟩ : ∃ v2, its2[j]? = some v2 ∧ ∃ t2, v2 = .int (kj (.ref t)) t2 := by
      obtain ⟨v2, g2, r2'⟩ := r2.get hzj
      exact ⟨v2, g2, r2'⟩
    refine lam_key2 (i := i) (j := j) (ui := tk1) (uj := tk2) (s := { s2 with heap := h, toks := tk }) (kp _ _ hf) ⟨c', oc, vs, tt, rfl, kp _ _ c1, c2, c3⟩ ?_ (I2.nolimit.keeps kp) ((I2.mod.glob.keeps I2.bk).keeps kp) hk hco hgen hcell hloc (fun v => hbind _ _ _ _ _ v) hix hjx hst hst2 hpi hpj hi62 hj62 hd ⟨o, kp _ _ ho, hc, n, hd2⟩ (by simpa using g1) (by simpa using g2)
    show X.A.depth < recursionLimit
    omega
  · rw [dataLe_ii] at eo
    have hp : (xs.mergeSort fun a b => decide (ki a < ki b ∨ (ki a = ki b ∧ kj a ≤ kj b))).Perm xs := List.mergeSort_perm _ _
    have hs : (xs.mergeSort fun a b => decide (ki a < ki b ∨ (ki a = ki b ∧ kj a ≤ kj b))).Pairwise (fun u v => ki u < ki v ∨ (ki u = ki v ∧ kj u ≤ kj v)) := by
      have := List.pairwise_mergeSort (le := fun a b => decide (ki a < ki b ∨ (ki a = ki b ∧ kj a ≤ kj b))) (fun a b c h1 h2 => by simp only [decide_eq_true_eq] at *; omega) (fun a b => by simp only [Bool.or_eq_true, decide_eq_true_eq]; omega) xs
      exact this.imp fun h => of_decide_eq_true h
    refine ⟨.ref _, _, I2.laid (t' := tk) kp (Nat.le_succ _) (show ObjOk X.prog X.w _ h' _ (.lst (xs.mergeSort fun a b => decide (ki a < ki b ∨ (ki a = ki b ∧ kj a ≤ kj b)))) from ⟨by rw [hp.length_eq]; exact hz, out, ep, vals_each eo, hD⟩), rfl, q _ _ H2 eN T2 (I2.hok.fresh (Nat.le_succ _)) hp hs⟩
end
end Deed

namespace Deed
open PySem PySem.Spec PyProof.Rows L2 LamX
theorem Tabs.kp {T : List (Addr × Str)} {H H' : Hp} {p : Addr} (t : Tabs T H) (k : Kp p H H') (P : PenAt H p) : Tabs T H' := fun q hq => by
  obtain ⟨ps, h1, h2, h3⟩ := t q hq
  refine ⟨ps, k _ _ (P.ne h1 fun _ z => by cases z) h1, h2, fun pos cv hc => ?_⟩
  obtain ⟨c, e1, e2⟩ := h3 pos cv hc
  exact ⟨c, e1, k _ _ (P.ne e2 fun _ z => by unfold CodeO at z; cases z) e2⟩
theorem ExtN.sqL {K : PySem.W.Frag} {H H' : Hp} {a : Addr} {xs : List V} (e : ExtN H H') (h : SqL K H a xs) : SqL K H' a xs := by
  rcases h with (z | ⟨o, z⟩) | z
  · exact .inl (.inl (e _ _ z fun ps z' => by cases z'))
  · exact .inl (.inr ⟨o, e _ _ z fun ps z' => by cases z'⟩)
  · exact .inr z
theorem ExtN.pen {H H' : Hp} {p : Addr} (e : ExtN H H') (h : PenAt H p) : PenAt H' p := by
  obtain ⟨x1, x2, x3, x4, z1, z2⟩ := h
  exact ⟨x1, x2, x3, x4, e _ _ z1 fun ps z => (by cases z), z2⟩
/-- with a pen that is new -/
theorem ExtN.kp {H H1 H2 : Hp} {p : Addr} (e : ExtN H H1) (n : H p = none) (k : Kp p H1 H2) : ExtN H H2 := fun b o z h => k b o (ne_of_none z n) (e b o z h)
theorem ExtN.put {H H' : Hp} {p : Addr} (e : ExtN H H') (f : Fresh H p) (o : HO) : ExtN H (upd H' p o) := fun b u z h => by
  rw [upd_ne (f.ne z h)]
  exact e b u z h
theorem rising_one : ∀ {l m : List Int}, l.Pairwise (· < ·) → m.Pairwise (· < ·) → (∀ x, x ∈ l ↔ x ∈ m) → l = m
  | [], [], _, _, _ => rfl
  | [], y :: m, _, _, h => absurd ((h y).mpr List.mem_cons_self) (by simp)
  | x :: l, [], _, _, h => absurd ((h x).mp List.mem_cons_self) (by simp)
  | x :: l, y :: m, h1, h2, h => by
    have a1 := List.pairwise_cons.mp h1
    have a2 := List.pairwise_cons.mp h2
    have exy : x = y := by
      have m1 := (h x).mp List.mem_cons_self
      have m2 := (h y).mpr List.mem_cons_self
      rcases List.mem_cons.mp m1 with e | e
      · exact e
      · rcases List.mem_cons.mp m2 with e' | e'
        · exact e'.symm
        · have := a1.1 y e'
          have := a2.1 x e
          omega
    subst exy
    congr 1
    refine rising_one a1.2 a2.2 fun z => ?_
    constructor
    · intro hz
      rcases List.mem_cons.mp ((h z).mp (List.mem_cons_of_mem _ hz)) with e | e
      · have := a1.1 z hz
        omega
      · exact e
    · intro hz
      rcases List.mem_cons.mp ((h z).mpr (List.mem_cons_of_mem _ hz)) with e | e
      · have := a2.1 z hz
        omega
      · exact e
/-- the picked numbers of an arrangement by numbers -/
def picked (φ : En → Bool) (zs : List (Addr × En)) : List Int := (zs.filter fun z => φ z.2).map fun z => z.2.num
theorem picked_up {φ : En → Bool} {zs : List (Addr × En)} (h : zs.Pairwise (fun a b => a.2.num < b.2.num)) : (picked φ zs).Pairwise (· < ·) := by
  unfold picked
  exact List.pairwise_map.mpr (h.filter _)
theorem mem_picked {φ : En → Bool} {zs : List (Addr × En)} {x : Int} : x ∈ picked φ zs ↔ ∃ z ∈ zs, φ z.2 = true ∧ z.2.num = x := by
  unfold picked
  simp only [List.mem_map, List.mem_filter]
  constructor
  · rintro ⟨z, ⟨h1, h2⟩, h3⟩
    exact ⟨z, h1, h2, h3⟩
  · rintro ⟨z, h1, h2, h3⟩
    exact ⟨z, ⟨h1, h2⟩, h3⟩
theorem picked_len (φ : En → Bool) (zs : List (Addr × En)) : (picked φ zs).length ≤ zs.length := by
  unfold picked
  rw [List.length_map]
  exact List.length_filter_le _ _
/-- two arrangements of the same entries -/
theorem picked_one {φ : En → Bool} {zs zs' : List (Addr × En)} (h : zs.Pairwise (fun a b => a.2.num < b.2.num)) (h' : zs'.Pairwise (fun a b => a.2.num < b.2.num)) (e : ∀ x, x ∈ ens zs ↔ x ∈ ens zs') : picked φ zs = picked φ zs' := by
  refine rising_one (picked_up h) (picked_up h') fun x => ?_
  rw [mem_picked, mem_picked]
  constructor
  · rintro ⟨z, h1, h2, h3⟩
    obtain ⟨z', h4, h5⟩ := List.mem_map.mp ((e z.2).mp (List.mem_map.mpr ⟨z, h1, rfl⟩))
    exact ⟨z', h4, by rw [h5]; exact h2, by rw [h5]; exact h3⟩
  · rintro ⟨z, h1, h2, h3⟩
    obtain ⟨z', h4, h5⟩ := List.mem_map.mp ((e z.2).mpr (List.mem_map.mpr ⟨z, h1, rfl⟩))
    exact ⟨z', h4, by rw [h5]; exact h2, by rw [h5]; exact h3⟩
theorem ens_perm {zs zs' : List (Addr × En)} (h : zs'.Perm zs) : ∀ x, x ∈ ens zs' ↔ x ∈ ens zs := fun x => (h.map _).mem_iff
end Deed

namespace Deed
open PySem PySem.Spec PyProof.Rows L2 LamX
/-! ### acts in force: the mathematics -/
def En.of (e : En) : Int := match e.kd with
  | .deed _ _ _ _ => -1
  | .act _ o => o
def isOpen (d k : Int) (e : En) : Bool := decide (e.day ≤ d) && decide (e.wri ≤ k)
/-- an entry of the word x that is of the number n -/
def isOn (x : Str) (n : Int) (e : En) : Bool := decide (e.word = x) && decide (e.of = n)
def frcF (es : List En) (d k : Int) : Nat → En → Bool
  | 0, _ => false
  | f + 1, e => isOpen d k e && es.all fun u => !(isOn "undone" e.num u && frcF es d k f u)
def frc (es : List En) (d k : Int) (e : En) : Bool := frcF es d k (31 - e.num).toNat e
theorem EnOk.of_lt {n : Nat} {ds as : List Int} {e : En} (h : EnOk n ds as e) (hd : e.isDeed = false) : e.of < e.num ∧ ((e.word = "undone" ∧ e.of ∈ as) ∨ ((e.word = "paid" ∨ e.word = "void") ∧ e.of ∈ ds)) := by
  unfold En.isDeed at hd
  unfold En.of En.word
  cases hk : e.kd with
  | deed g t rs ws =>
    rw [hk] at hd
    cases hd
  | act x o =>
    have h4 := h.2.2.2
    rw [hk] at h4
    exact ⟨h4.2, h4.1⟩
theorem isOn_act {n : Nat} {ds as : List Int} {e : En} {x : Str} {m : Int} (h : EnOk n ds as e) (hx : x ≠ "deed") (ho : isOn x m e = true) : e.isDeed = false ∧ e.word = x ∧ e.of = m := by
  unfold isOn at ho
  rw [Bool.and_eq_true] at ho
  have h1 := of_decide_eq_true ho.1
  have h2 := of_decide_eq_true ho.2
  refine ⟨?_, h1, h2⟩
  cases hd : e.isDeed with
  | false => rfl
  | true => exact absurd ((h.word.mpr hd).symm.trans h1) (fun z => hx z.symm)
theorem frcF_one {n : Nat} {es : List En} (hB : BkOk n es) (d k : Int) : ∀ (f g : Nat) (e : En), e ∈ es → (31 - e.num).toNat ≤ f → (31 - e.num).toNat ≤ g → frcF es d k f e = frcF es d k g e := by
  intro f
  induction f with
  | zero =>
    intro g e he hf _
    have := hB.rng e he
    omega
  | succ f ih =>
    intro g e he hf hg
    have re := hB.rng e he
    cases g with
    | zero => omega
    | succ g =>
      show (isOpen d k e && es.all fun u => !(isOn "undone" e.num u && frcF es d k f u)) = (isOpen d k e && es.all fun u => !(isOn "undone" e.num u && frcF es d k g u))
      congr 1
      have key : ∀ u ∈ es, (isOn "undone" e.num u && frcF es d k f u) = (isOn "undone" e.num u && frcF es d k g u) := fun u hu => by
        cases ho : isOn "undone" e.num u with
        | false => rfl
        | true =>
          obtain ⟨h1, h2, h3⟩ := isOn_act (hB.ok u hu) (by decide) ho
          have lt := ((hB.ok u hu).of_lt h1).1
          rw [ih g u hu (by omega) (by omega)]
      rw [Bool.eq_iff_iff, List.all_eq_true, List.all_eq_true]
      constructor
      · intro h u hu
        rw [← key u hu]
        exact h u hu
      · intro h u hu
        rw [key u hu]
        exact h u hu
theorem frcF_eq {n : Nat} {es : List En} (hB : BkOk n es) (d k : Int) {f : Nat} {e : En} (he : e ∈ es) (hf : (31 - e.num).toNat ≤ f) : frcF es d k f e = frc es d k e := frcF_one hB d k _ _ e he hf (Nat.le_refl _)
/-- in force: open, and no undone of it in force -/
theorem frc_eq {n : Nat} {es : List En} (hB : BkOk n es) (d k : Int) {e : En} (he : e ∈ es) : frc es d k e = (isOpen d k e && es.all fun u => !(isOn "undone" e.num u && frc es d k u)) := by
  have re := hB.rng e he
  rw [← frcF_eq hB d k (f := 31) he (by omega)]
  show (isOpen d k e && es.all fun u => !(isOn "undone" e.num u && frcF es d k 30 u)) = _
  congr 1
  have key : ∀ u ∈ es, (isOn "undone" e.num u && frcF es d k 30 u) = (isOn "undone" e.num u && frc es d k u) := fun u hu => by
    cases ho : isOn "undone" e.num u with
    | false => rfl
    | true =>
      obtain ⟨h1, h2, h3⟩ := isOn_act (hB.ok u hu) (by decide) ho
      have lt := ((hB.ok u hu).of_lt h1).1
      rw [frcF_eq hB d k hu (by omega)]
  rw [Bool.eq_iff_iff, List.all_eq_true, List.all_eq_true]
  constructor
  · intro h u hu
    rw [← key u hu]
    exact h u hu
  · intro h u hu
    rw [key u hu]
    exact h u hu
theorem frc_open {n : Nat} {es : List En} (hB : BkOk n es) {d k : Int} {e : En} (he : e ∈ es) (h : frc es d k e = true) : isOpen d k e = true := by
  rw [frc_eq hB d k he, Bool.and_eq_true] at h
  exact h.1
theorem num_inj {n : Nat} {es : List En} (hB : BkOk n es) {e e' : En} (he : e ∈ es) (he' : e' ∈ es) (h : e.num = e'.num) : e = e' := by
  obtain ⟨i1, hi1, ei1⟩ := List.mem_iff_getElem.mp he
  obtain ⟨i2, hi2, ei2⟩ := List.mem_iff_getElem.mp he'
  have h1 : (es.map (·.num))[i1]? = some e.num := by rw [List.getElem?_map, List.getElem?_eq_getElem hi1, ei1]; rfl
  have h2 : (es.map (·.num))[i2]? = some e.num := by rw [List.getElem?_map, List.getElem?_eq_getElem hi2, ei2, h]; rfl
  have h3 := nd_ix hB.nd h1 h2
  subst h3
  rw [← ei1, ← ei2]
end Deed

namespace Deed
open PySem PySem.Spec PyProof.Rows L2 LamX
/-- all but the pen and the tables is as it was -/
def XP (p : Addr) (H H' : Hp) : Prop := ∀ b o, b ≠ p → H b = some o → (∀ ps, o ≠ .tbl ps) → H' b = some o
theorem XP.refl (p : Addr) (H : Hp) : XP p H H := fun _ _ _ h _ => h
theorem XP.trans {p : Addr} {H H1 H2 : Hp} (a : XP p H H1) (b : XP p H1 H2) : XP p H H2 := fun c o n h t => b c o n (a c o n h t) t
theorem XP.ofN {p : Addr} {H H' : Hp} (e : ExtN H H') : XP p H H' := fun b o _ h t => e b o h t
theorem XP.ofK {p : Addr} {H H' : Hp} (k : Kp p H H') : XP p H H' := fun b o n h _ => k b o n h
theorem XP.ofS {p : Addr} {H H' : Hp} (s : Same H H') : XP p H H' := fun b o _ h _ => s b o h
theorem XP.tup {p : Addr} {H H' : Hp} (x : XP p H H') (P : PenAt H p) : KpT H H' := fun b xs e => x _ _ (P.ne e fun _ z => by cases z) e fun ps z => by cases z
theorem XP.toN {p : Addr} {H0 H H' : Hp} (e : ExtN H0 H) (n : H0 p = none) (x : XP p H H') : ExtN H0 H' := fun b o h t => x b o (ne_of_none h n) (e b o h t) t
/-- how many cells are looked at -/
theorem turns3 (m : Nat) : ∃ tn : Int, (if (if 3 < (m : Int) then 3 else (m : Int)) > 1 then (if 3 < (m : Int) then 3 else (m : Int)) else 1) = tn ∧ 0 ≤ tn ∧ tn ≤ 3 := ⟨_, rfl, by split <;> split <;> omega, by split <;> split <;> omega⟩
end Deed

namespace Deed
open PySem PySem.Spec PyProof.Rows L2 LamX
/-! ### hands' turns -/
abbrev T3 := Int × Int × Int
def stepH (acc : List T3) (e : En) : List T3 := match acc.getLast? with
  | some q => if q.1 = e.hand then acc.dropLast ++ [(e.hand, q.2.1, e.num)] else acc ++ [(e.hand, e.num, e.num)]
  | none => acc ++ [(e.hand, e.num, e.num)]
theorem stepH_nil (e : En) : stepH [] e = [(e.hand, e.num, e.num)] := rfl
theorem stepH_same {i : List T3} {q : T3} {e : En} (h : q.1 = e.hand) : stepH (i ++ [q]) e = i ++ [(e.hand, q.2.1, e.num)] := by
  unfold stepH
  rw [List.getLast?_concat]
  dsimp only
  rw [if_pos h, List.dropLast_concat]
theorem stepH_new {i : List T3} {q : T3} {e : En} (h : q.1 ≠ e.hand) : stepH (i ++ [q]) e = (i ++ [q]) ++ [(e.hand, e.num, e.num)] := by
  unfold stepH
  rw [List.getLast?_concat]
  dsimp only
  rw [if_neg h]
def turnsH (l : List En) : List T3 := l.foldl stepH []
theorem turnsH_snoc (l : List En) (e : En) : turnsH (l ++ [e]) = stepH (turnsH l) e := by
  unfold turnsH
  rw [List.foldl_append]
  rfl
theorem stepH_last (acc : List T3) (e : En) : ∃ i f l, stepH acc e = i ++ [(e.hand, f, l)] := by
  rcases List.eq_nil_or_concat acc with h | ⟨i, q, h⟩
  · rw [h, stepH_nil]
    exact ⟨[], _, _, rfl⟩
  · rw [List.concat_eq_append] at h
    rw [h]
    by_cases hq : q.1 = e.hand
    · rw [stepH_same hq]
      exact ⟨_, _, _, rfl⟩
    · rw [stepH_new hq]
      exact ⟨_, _, _, rfl⟩
theorem stepH_len (acc : List T3) (e : En) : (stepH acc e).length ≤ acc.length + 1 := by
  rcases List.eq_nil_or_concat acc with h | ⟨i, q, h⟩
  · rw [h, stepH_nil]
    simp
  · rw [List.concat_eq_append] at h
    rw [h]
    by_cases hq : q.1 = e.hand
    · rw [stepH_same hq]
      simp
    · rw [stepH_new hq]
      simp
theorem turnsH_len (l : List En) : (turnsH l).length ≤ l.length := by
  have key : ∀ (l : List En) (acc : List T3), (l.foldl stepH acc).length ≤ acc.length + l.length := by
    intro l
    induction l with
    | nil => intro acc; simp
    | cons e r ih =>
      intro acc
      have h1 := ih (stepH acc e)
      have h2 := stepH_len acc e
      rw [List.foldl_cons, List.length_cons]
      omega
  have := key l []
  unfold turnsH
  simpa using this
def Lex (a b : En) : Prop := a.wri < b.wri ∨ (a.wri = b.wri ∧ a.num < b.num)
theorem lex_one : ∀ {l m : List En}, l.Pairwise Lex → m.Pairwise Lex → (∀ x, x ∈ l ↔ x ∈ m) → l = m
  | [], [], _, _, _ => rfl
  | [], b :: m, _, _, h => absurd ((h b).mpr List.mem_cons_self) (by simp)
  | a :: l, [], _, _, h => absurd ((h a).mp List.mem_cons_self) (by simp)
  | a :: l, b :: m, h1, h2, h => by
    rw [List.pairwise_cons] at h1 h2
    have e : a = b := by
      rcases List.mem_cons.mp ((h a).mp List.mem_cons_self) with e | ha
      · exact e
      · rcases List.mem_cons.mp ((h b).mpr List.mem_cons_self) with e | hb
        · exact e.symm
        · have h3 := h2.1 a ha
          have h4 := h1.1 b hb
          unfold Lex at h3 h4
          omega
    subst e
    have := lex_one h1.2 h2.2 fun x => by
      constructor
      · intro hx
        rcases List.mem_cons.mp ((h x).mp (List.mem_cons_of_mem _ hx)) with e | hm
        · have := h1.1 x hx
          rw [e] at this
          unfold Lex at this
          omega
        · exact hm
      · intro hx
        rcases List.mem_cons.mp ((h x).mpr (List.mem_cons_of_mem _ hx)) with e | hm
        · have := h2.1 x hx
          rw [e] at this
          unfold Lex at this
          omega
        · exact hm
    rw [this]
/-- the entries of es by the days on which they were written -/
structure ByW (es L : List En) : Prop where
  up : L.Pairwise Lex
  mem : ∀ x, x ∈ L ↔ x ∈ es
theorem ByW.one {es L L' : List En} (h : ByW es L) (h' : ByW es L') : L = L' := lex_one h.up h'.up fun x => by rw [h.mem, h'.mem]
theorem lex_of {n : Nat} {es : List En} (hB : BkOk n es) {L : List En} (hp : L.Perm es) (h : L.Pairwise fun a b => a.wri < b.wri ∨ (a.wri = b.wri ∧ a.num ≤ b.num)) : ByW es L := by
  refine ⟨?_, fun x => hp.mem_iff⟩
  have hn : (L.map (·.num)).Nodup := ((hp.map _).nodup_iff).mpr hB.nd
  rw [List.nodup_iff_pairwise_ne, List.pairwise_map] at hn
  refine (List.Pairwise.and h hn).imp fun h => ?_
  obtain ⟨h1, h2⟩ := h
  unfold Lex
  omega
def oftenH (l : List T3) : List Int := ((List.range 4).map fun i : Nat => (i : Int)).filter fun h => decide (1 < (l.map (·.1)).count h)
/-! ### in the heap -/
def T3At (H : Hp) (p : Addr) (l : List T3) : Prop := ∃ zs : List (Addr × T3), H p = some (.lst (zs.map fun z => V.ref z.1)) ∧ zs.map (·.2) = l ∧ ∀ z ∈ zs, H z.1 = some (.tup [.int z.2.1, .int z.2.2.1, .int z.2.2.2])
theorem T3At.extN {H H' : Hp} {p : Addr} {l : List T3} (h : T3At H p l) (e : ExtN H H') : T3At H' p l := by
  obtain ⟨zs, h1, h2, h3⟩ := h
  exact ⟨zs, e _ _ h1 (fun ps z => by cases z), h2, fun z hz => e _ _ (h3 z hz) (fun ps z => by cases z)⟩
def t3Data (l : List T3) : PyData := .list (l.map fun q => .tuple [.int q.1, .int q.2.1, .int q.2.2])
theorem T3At.dp {K : PySem.W.Frag} {H : Hp} {p : Addr} {l : List T3} (h : T3At H p l) : Dp K H (.ref p) (t3Data l) := by
  obtain ⟨zs, h1, rfl, h3⟩ := h
  refine .lst (SqL.of h1) ?_
  clear h1
  induction zs with
  | nil => exact .nil
  | cons z r ih => exact .cons (.tup (SqT.of (h3 z List.mem_cons_self)) (.cons (.int _) (.cons (.int _) (.cons (.int _) .nil)))) (ih fun x hx => h3 x (List.mem_cons_of_mem _ hx))
theorem t3_lay : ∀ l : List T3, PyData.canLayAll0 (l.map fun q => PyData.tuple [.int q.1, .int q.2.1, .int q.2.2]) = true
  | [] => by simp [PyData.canLayAll0]
  | q :: r => by simp [PyData.canLayAll0, PyData.canLay0, t3_lay r]
theorem t3_depth : ∀ l : List T3, PyData.depthAll (l.map fun q => PyData.tuple [.int q.1, .int q.2.1, .int q.2.2]) ≤ 4
  | [] => by simp [PyData.depthAll]
  | q :: r => by
    have h := t3_depth r
    simp only [List.map_cons, PyData.depthAll, PyData.depth]
    omega
theorem t3_shaped (l : List T3) : SeqAt.shaped (t3Data l) = true := by
  have h1 := t3_depth l
  show (PyData.canLay0 (t3Data l) && decide (PyData.depth (t3Data l) ≤ 64)) = true
  rw [Bool.and_eq_true]
  refine ⟨by unfold t3Data; simp only [PyData.canLay0]; exact t3_lay l, decide_eq_true ?_⟩
  unfold t3Data
  simp only [PyData.depth]
  omega
theorem t3_refl (l : List T3) : PyData.eqv (t3Data l) (t3Data l) = true := SeqAt.eqv_refl _ (SeqAt.canLay_of_shaped (t3_shaped l))
theorem ixN_last (n : Nat) : ixN (n + 1) (-1) = some n := by
  unfold ixN
  rw [if_neg (by omega), if_pos (by omega)]
  congr 1
  omega
end Deed

namespace Deed
open PySem PySem.Spec PyProof.Rows L2 LamX
theorem EntAt.items {H : Hp} {a : Addr} {e : En} (h : EntAt H a e) : ∃ xs, H a = some (.tup xs) ∧ xs[0]? = some (.int e.num) ∧ xs[2]? = some (.int e.wri) := by
  unfold EntAt at h
  cases hk : e.kd with
  | deed g t rs ws =>
    rw [hk] at h
    obtain ⟨r, w, h1, _⟩ := h
    exact ⟨_, h1, rfl, rfl⟩
  | act x o =>
    rw [hk] at h
    exact ⟨_, h, rfl, rfl⟩
/-- the keys of the entry at v -/
def intOf : Option V → Int
  | some (.int i) => i
  | _ => 0
def itemsAt (H : Hp) (v : V) : List V := match v with
  | .ref a => match H a with
    | some (.tup xs) => xs
    | _ => []
  | _ => []
def wriAt (H : Hp) (v : V) : Int := intOf (itemsAt H v)[2]?
def numAt (H : Hp) (v : V) : Int := intOf (itemsAt H v)[0]?
theorem EntAt.keys {H : Hp} {a : Addr} {e : En} (h : EntAt H a e) : wriAt H (.ref a) = e.wri ∧ numAt H (.ref a) = e.num := by
  obtain ⟨xs, ex, h0, h2⟩ := h.items
  constructor
  · simp [wriAt, itemsAt, intOf, ex, h2]
  · simp [numAt, itemsAt, intOf, ex, h0]
section
variable {P : Program} {w : World} {K : PySem.W.Frag} {mg : Str → Option Value} {base : Heap} {T : List (Addr × Str)}
abbrev sTurnsOf : Stmt := topS 5
abbrev nTurnsOf : List Str := ["book", "turns", "entry", "hand", "number"]
abbrev pTurnsOf : List Str := ["book"]
theorem scTurnsOf : FnScope nTurnsOf pTurnsOf (defScope sTurnsOf) := ⟨rfl, rfl, rfl, by decide +kernel, rfl, by decide +kernel, by decide +kernel⟩
def qTur : Str := "turns_of.<locals>.<lambda>"
def spTurnsOf (T : List (Addr × Str)) : Sp := fun vs H Q _ => ∃ (b fk t : Addr) (n : Nat) (age : Int) (zs : List (Addr × En)), vs = [.ref b] ∧ BookAt H b fk t n age zs ∧ Tabs T H ∧
  ∀ (p : Addr) (L : List En) (H' : Hp), ExtN H H' → Tabs T H' → Fresh H p → ByW (ens zs) L → T3At H' p (turnsH L) → Q (.ref p) H'
theorem T3At.app {H : Hp} {l tp : Addr} {us : List (Addr × T3)} {pr : T3} (el : H l = some (.lst (us.map fun z => V.ref z.1))) (hz : ∀ z ∈ us, H z.1 = some (.tup [.int z.2.1, .int z.2.2.1, .int z.2.2.2])) (ntp : H tp = none) :
    (upd H tp (.tup [.int pr.1, .int pr.2.1, .int pr.2.2])) l = some (.lst (us.map fun z => V.ref z.1)) ∧ T3At (upd (upd H tp (.tup [.int pr.1, .int pr.2.1, .int pr.2.2])) l (.lst ((us.map fun z => V.ref z.1) ++ [.ref tp]))) l (us.map (·.2) ++ [pr]) := by
  have nlt : tp ≠ l := fun z => by rw [z, el] at ntp; cases ntp
  refine ⟨by rw [upd_ne nlt.symm]; exact el, us ++ [(tp, pr)], ?_, ?_, fun z hzz => ?_⟩
  · rw [upd_same, List.map_append]
    rfl
  · rw [List.map_append]
    rfl
  · rcases List.mem_append.mp hzz with h | h
    · have h1 := hz z h
      rw [upd_ne (fun w => by rw [w, el] at h1; cases h1), upd_ne (ne_of_none h1 ntp)]
      exact h1
    · rw [List.mem_singleton.mp h, upd_ne nlt, upd_same]
theorem T3At.put {H : Hp} {l tp : Addr} {us : List (Addr × T3)} {u : Addr × T3} {pr : T3} (el : H l = some (.lst ((us ++ [u]).map fun z => V.ref z.1))) (hz : ∀ z ∈ us ++ [u], H z.1 = some (.tup [.int z.2.1, .int z.2.2.1, .int z.2.2.2])) (ntp : H tp = none) :
    (upd H tp (.tup [.int pr.1, .int pr.2.1, .int pr.2.2])) l = some (.lst ((us ++ [u]).map fun z => V.ref z.1)) ∧ T3At (upd (upd H tp (.tup [.int pr.1, .int pr.2.1, .int pr.2.2])) l (.lst (((us ++ [u]).map fun z => V.ref z.1).set us.length (.ref tp)))) l (us.map (·.2) ++ [pr]) := by
  have nlt : tp ≠ l := fun z => by rw [z, el] at ntp; cases ntp
  refine ⟨by rw [upd_ne nlt.symm]; exact el, us ++ [(tp, pr)], ?_, ?_, fun z hzz => ?_⟩
  · rw [upd_same, List.map_append, List.map_append]
    congr 2
    have e1 : us.length = (us.map fun z => V.ref z.1).length := by rw [List.length_map]
    rw [e1, List.set_append_right _ _ (Nat.le_refl _), Nat.sub_self]
    rfl
  · rw [List.map_append]
    rfl
  · rcases List.mem_append.mp hzz with h | h
    · have h1 := hz z (List.mem_append_left _ h)
      rw [upd_ne (fun w => by rw [w, el] at h1; cases h1), upd_ne (ne_of_none h1 ntp)]
      exact h1
    · rw [List.mem_singleton.mp h, upd_ne nlt, upd_same]
theorem ok_turnsOf {f c tb : Addr} {fd : FuncData} {k : Nat} (F : Fun K "turns_of" "turns_of" sTurnsOf f fd) (hc : fd.code = .ref c) (TB : TabB base mg c tb) (ms : mg "sorted" = none) (iHAND : MgInt mg "HAND" 3) (iNUMBER : MgInt mg "NUMBER" 0) (iWRITTEN : MgInt mg "WRITTEN" 2) (hmT : (tb, qTur) ∈ T) (hu : ∀ p ∈ T, p.1 = tb → p.2 = qTur) :
    FnOk P w K mg base CX0 (k + 2) f fd pTurnsOf (spTurnsOf T) := by
  refine okC F hc scTurnsOf (fun vs H Q E h => ?_) (fun A outer s H vs Q E hr h => ?_)
  · obtain ⟨b, fk, t, n, age, zs, rfl, _⟩ := h
    rfl
  · obtain ⟨b, fk, t, n, age, zs, rfl, hB, hT, q⟩ := h
    have nd := scTurnsOf.nd
    refine ⟨_, pss_cons (ps_set (i := 1) nd rfl (.inl rfl) (pe_lst pa_nil))
      (pss_cons (ps_for PassesOwn.never rfl (pi_list (pe_sortP (T := T) (c := c) (P := tb) (k := k) (i := 2) (j := 0) (by rfl) ms (pa_cons (pe_ix ix_tup (pv 0) pe_int (fun _ _ => rfl)) pa_nil) hr TB rfl hmT hu rfl (by decide +kernel) rfl rfl rfl (by decide +kernel) rfl (fun _ _ _ _ _ _ => rfl) (fun env A E s' Q he hg hn hq => ?ix) (fun env A E s' Q he hg hn hq => ?jx) (fun _ => rfl) (fun _ => rfl) (fun _ _ => rfl) (fun _ _ => rfl) (by decide) (by decide) (by decide))) (pg_name (i := 2) nd rfl (.inl rfl))
        (pss_cons (ps_par (i := 3) (j := 4) (by rfl) nd rfl rfl (by decide) rfl rfl (pa_cons (pe_ix ix_tup (pv 2) (pe_num (by rfl) iHAND) (fun _ _ => rfl)) (pa_cons (pe_ix ix_tup (pv 2) (pe_num (by rfl) iNUMBER) (fun _ _ => rfl)) pa_nil)) (by rfl))
      (pss_one (ps_if (PW.pt (pw_and (pt_truth (pv 1) (fun _ => rfl)) (pw_and1 (pt_cmpR op_eq (pe_ix ix_tup (pe_ix ix_list (pv 1) (pe_un un_neg pe_int) (fun _ _ => rfl)) pe_int (fun _ _ => rfl)) (pv 3) (nomark _))))) (pss_one (ps_asg (pe_tup (pa_cons (pv 3) (pa_cons (pe_ix ix_tup (pe_ix ix_list (pv 1) (pe_un un_neg pe_int) (fun _ _ => rfl)) pe_int (fun _ _ => rfl)) (pa_cons (pv 4) pa_nil)))) (pg_sub (pv 1) (pe_un un_neg pe_int) set_list))) (pss_one (ps_expr (pe_bm PySem.F.plainAttrs_list PySem.F.slot_list_append PySem.F.type_list_append mt_append (pv 1) (pa_cons (pe_tup (pa_cons (pv 3) (pa_cons (pv 4) (pa_cons (pv 4) pa_nil)))) pa_nil))))))))
      (pss_one (ps_ret (pv 1)))), ?_⟩
    case ix =>
      obtain ⟨tk, hN⟩ := iWRITTEN
      refine Calls.Name_function_global (by rw [he]) (by unfold Env.kindOf; rw [he]; rfl) (Calls.loadGlobal_global (by rw [hg]; exact hn) hN (hq tk s'.toks))
    case jx =>
      obtain ⟨tk, hN⟩ := iNUMBER
      refine Calls.Name_function_global (by rw [he]) (by unfold Env.kindOf; rw [he]; rfl) (Calls.loadGlobal_global (by rw [hg]; exact hn) hN (hq tk s'.toks))
    refine ⟨Nat.zero_le _, fun l nl => ?_⟩
    have s0 := same_new nl (.lst [])
    have e0 : (upd H l (.lst [])) l = some (.lst []) := upd_same
    generalize upd H l (.lst []) = H0 at s0 e0
    have hB0 := hB.kp (Same.tup s0)
    refine ⟨_, rfl, b, _, 2, _, rfl, rfl, SqT.of hB0.at_, atI_nat (j := 2) rfl, t, refs zs, wriAt H0, numAt H0, rfl, .inr (SqT.of hB0.ents), fun y hy => ?_, hT.ext s0, fun p ys H2 eN T2 np pm so => ?_⟩
    · obtain ⟨z, hz, rfl⟩ := List.mem_map.mp hy
      obtain ⟨xs, ex, x0, x2⟩ := (hB0.ent z hz).items
      obtain ⟨k1, k2⟩ := (hB0.ent z hz).keys
      exact ⟨z.1, xs, rfl, ex, by rw [k1]; exact x2, by rw [k2]; exact x0⟩
    obtain ⟨zs', rfl, hp⟩ := perm_pairs (fun z : Addr × En => V.ref z.1) pm zs rfl
    have hby : ByW (ens zs) (ens zs') := by
      refine lex_of hB.ok (hp.map _) ?_
      rw [List.pairwise_map] at so ⊢
      refine so.imp_of_mem fun ha hb h => ?_
      obtain ⟨a1, a2⟩ := (hB0.ent _ (hp.mem_iff.mp ha)).keys
      obtain ⟨b1, b2⟩ := (hB0.ent _ (hp.mem_iff.mp hb)).keys
      rw [a1, a2, b1, b2] at h
      exact h
    have s3 := same_new np (.lst (refs zs'))
    have ep : (upd H2 p (.lst (refs zs'))) p = some (.lst (refs zs')) := upd_same
    have npl : p ≠ l := fun z => by rw [z, eN _ _ e0 fun ps z => by cases z] at np; cases np
    generalize upd H2 p (.lst (refs zs')) = H3 at s3 ep
    have e03 : ExtN H0 H3 := eN.trans (.of s3)
    have e13 : ExtN H H3 := (ExtN.of s0).trans e03
    have hl16 : zs'.length ≤ 16 := by rw [hp.length_eq]; exact hB.len
    have fl : Fresh H l := fun o z => by rw [nl] at z; cases z
    refine ⟨p, rfl, ⟨_, SqL.of ep⟩, ?_⟩
    refine for_list (K := K) (a := p) (xs := refs zs') (fun i σ H' => ∃ y2 y3 y4, σ = [some (.ref b), some (.ref l), y2, y3, y4] ∧ ExtN H H' ∧ Tabs T H' ∧ KpT H3 H' ∧ H' p = some (.lst (refs zs')) ∧ T3At H' l (turnsH ((ens zs').take i))) ⟨_, _, _, rfl, e13, T2.ext s3, KpT.refl _, ep, [], e03 _ _ e0 (fun ps z => by cases z), rfl, fun _ h => nomatch h⟩ (fun i σ H' _ h => ?_) ?_ ?_
    · obtain ⟨_, _, _, _, _, _, _, e, _⟩ := h
      exact SqL.of e
    · rintro i x σ H4 hx ⟨y2, y3, y4, rfl, e4, T4, k4, ep4, us, el, eu, hus⟩
      obtain ⟨z, hz, rfl⟩ := ref_at hx
      have hzm : z ∈ zs := hp.mem_iff.mp (List.mem_of_getElem? hz)
      obtain ⟨xs, ex, g0, g1, g2, g3, _⟩ := ((hB0.ent z hzm).kp ((ExtN.tup e03).trans k4)).tup
      have hzi : (ens zs')[i]? = some z.2 := by rw [List.getElem?_map, hz]; rfl
      have hlen : us.length ≤ 16 := by
        have h1 := congrArg List.length eu
        rw [List.length_map] at h1
        have h2 := turnsH_len ((ens zs').take i)
        rw [List.length_take, List.length_map] at h2
        omega
      refine ⟨_, rfl, z.1, _, _, _, rfl, rfl, SqT.of ex, g3, _, rfl, z.1, _, _, _, rfl, rfl, SqT.of ex, g0, _, _, rfl, ?_⟩
      refine ⟨_, rfl, _, .inl ⟨_, SqL.of el, rfl⟩, ?_⟩
      rw [take_more hzi, turnsH_snoc, ← eu]
      -- behind the store of a list o at l, a tuple new at tp
      have fin : ∀ (tp : Addr) (o : List V) (q3 : T3) (zz : List T3), H4 tp = none → (upd H4 tp (.tup [.int q3.1, .int q3.2.1, .int q3.2.2])) l = some (.lst (us.map fun z => V.ref z.1)) → T3At (upd (upd H4 tp (.tup [.int q3.1, .int q3.2.1, .int q3.2.2])) l (.lst o)) l zz → stepH (us.map (·.2)) z.2 = zz →
          ∃ y2 y3 y4, [some (V.ref b), some (V.ref l), some (V.ref z.1), some (V.int z.2.hand), some (V.int z.2.num)] = [some (V.ref b), some (V.ref l), y2, y3, y4] ∧ ExtN H (upd (upd H4 tp (.tup [.int q3.1, .int q3.2.1, .int q3.2.2])) l (.lst o)) ∧ Tabs T (upd (upd H4 tp (.tup [.int q3.1, .int q3.2.1, .int q3.2.2])) l (.lst o)) ∧ KpT H3 (upd (upd H4 tp (.tup [.int q3.1, .int q3.2.1, .int q3.2.2])) l (.lst o)) ∧ (upd (upd H4 tp (.tup [.int q3.1, .int q3.2.1, .int q3.2.2])) l (.lst o)) p = some (.lst (refs zs')) ∧ T3At (upd (upd H4 tp (.tup [.int q3.1, .int q3.2.1, .int q3.2.2])) l (.lst o)) l (stepH (us.map (·.2)) z.2) := by
        intro tp o q3 zz ntp el5 ht hs
        refine ⟨_, _, _, rfl, ExtN.put (e4.trans (ExtN.new ntp _)) fl _, Tabs.put (Tabs.new T4 ntp _) el5 _, (k4.trans (ExtN.tup (ExtN.new ntp _))).trans (KpT.lst el5 _), ?_, by rw [hs]; exact ht⟩
        rw [upd_ne npl, upd_ne (ne_of_none ep4 ntp)]
        exact ep4
      rcases List.eq_nil_or_concat us with h0 | ⟨ui, u, h0⟩
      · subst h0
        refine iteF ?_
        refine iteF ?_
        refine ⟨_, rfl, .inl ⟨rfl, _, SqL.of el⟩, _, rfl, _, rfl, _, rfl, (by show 3 ≤ sizeLine; decide), fun tp ntp => ?_⟩
        obtain ⟨b1, b2⟩ := T3At.app (pr := (z.2.hand, z.2.num, z.2.num)) el hus ntp
        exact ⟨l, _, _, rfl, rfl, b1, small1000 (by rw [List.length_map]; omega), fin tp _ (z.2.hand, z.2.num, z.2.num) _ ntp b1 b2 rfl⟩
      · rw [List.concat_eq_append] at h0
        have elast : us.map (fun z => V.ref z.1) = ui.map (fun z => V.ref z.1) ++ [.ref u.1] := by rw [h0, List.map_append]; rfl
        have eul := hus u (by rw [h0]; simp)
        rw [show (us.map fun z => V.ref z.1).isEmpty = false by rw [elast]; simp]
        refine iteT ?_
        refine ⟨_, rfl, _, rfl, l, _, -1, .ref u.1, rfl, rfl, SqL.of el, by rw [elast]; exact atI_last _ _, u.1, _, 0, _, rfl, rfl, SqT.of eul, atI_nat (j := 0) rfl, _, rfl, rfl, _, rfl, ?_⟩
        by_cases hh : u.2.1 = z.2.hand
        · rw [decide_eq_true (show V.int u.2.1 = V.int z.2.hand by rw [hh])]
          refine iteT ?_
          refine ⟨_, rfl, _, rfl, _, rfl, l, _, -1, .ref u.1, rfl, rfl, SqL.of el, by rw [elast]; exact atI_last _ _, u.1, _, 1, _, rfl, rfl, SqT.of eul, atI_nat (j := 1) rfl, _, rfl, (by show 3 ≤ sizeLine; decide), fun tp ntp => ?_⟩
          have el' := el
          have hus' := hus
          rw [h0] at el' hus'
          obtain ⟨b1, b2⟩ := T3At.put (pr := (z.2.hand, u.2.2.1, z.2.num)) el' hus' ntp
          rw [← h0] at b1 b2
          refine ⟨_, rfl, _, rfl, l, _, -1, ui.length, rfl, rfl, b1, ?_, ?_⟩
          · rw [List.length_map, h0, List.length_append]
            exact ixN_last _
          · refine fin tp _ (z.2.hand, u.2.2.1, z.2.num) _ ntp b1 b2 ?_
            rw [h0, List.map_append]
            exact stepH_same hh
        · rw [decide_eq_false (show ¬ V.int u.2.1 = V.int z.2.hand from fun z => hh (by injection z))]
          refine iteF ?_
          refine ⟨_, rfl, .inl ⟨rfl, _, SqL.of el⟩, _, rfl, _, rfl, _, rfl, (by show 3 ≤ sizeLine; decide), fun tp ntp => ?_⟩
          obtain ⟨b1, b2⟩ := T3At.app (pr := (z.2.hand, z.2.num, z.2.num)) el hus ntp
          refine ⟨l, _, _, rfl, rfl, b1, small1000 (by rw [List.length_map]; omega), fin tp _ (z.2.hand, z.2.num, z.2.num) _ ntp b1 b2 ?_⟩
          rw [h0, List.map_append]
          exact stepH_new hh
    · rintro σ H4 ⟨y2, y3, y4, rfl, e4, T4, k4, ep4, hL⟩
      rw [show (refs zs').length = (ens zs').length by rw [List.length_map, List.length_map], List.take_length] at hL
      exact ⟨_, rfl, q l (ens zs') H4 e4 T4 fl hby hL⟩
end
end Deed

namespace Deed
open PySem PySem.Spec PyProof.Rows L2 LamX
section
variable {P : Program} {w : World} {K : PySem.W.Frag} {mg : Str → Option Value} {base : Heap} {T : List (Addr × Str)}
abbrev sOften : Stmt := topS 6
abbrev nOften : List Str := ["book", "hands", "hand", "first", "last"]
abbrev pOften : List Str := ["book"]
theorem scOften : FnScope nOften pOften (defScope sOften) := ⟨rfl, rfl, rfl, by decide +kernel, rfl, by decide +kernel, by decide +kernel⟩
def spOften (T : List (Addr × Str)) : Sp := fun vs H Q _ => ∃ (b fk t : Addr) (n : Nat) (age : Int) (zs : List (Addr × En)), vs = [.ref b] ∧ BookAt H b fk t n age zs ∧ Tabs T H ∧
  ∀ (p : Addr) (L : List En) (H' : Hp), ExtN H H' → Tabs T H' → Fresh H p → ByW (ens zs) L → H' p = some (.lst ((oftenH (turnsH L)).map V.int)) → Q (.ref p) H'
theorem ok_often {f : Addr} {fd : FuncData} {k : Nat} (F : Fun K "often_hands" "often_hands" sOften f fd) (C_turns_of : CallOk P w K mg base k "turns_of" pTurnsOf (spTurnsOf T)) (m_range : mg "range" = none) (iLAST_HAND : MgInt mg "LAST_HAND" 3) : FnOk P w K mg base CX0 (k + 1) f fd pOften (spOften T) := by
  refine F.ok scOften (fun vs H Q E h => ?_) (fun cdv A outer s H vs Q E hr h => ?_)
  · obtain ⟨b, fk, t, n, age, zs, rfl, _⟩ := h
    rfl
  · obtain ⟨b, fk, t, n, age, zs, rfl, hB, hT, q⟩ := h
    have nd := scOften.nd
    refine ⟨_, pss_cons (ps_set (i := 1) nd rfl (.inr rfl) (pe_lc (own := [("hand", 2), ("first", 3), ("last", 4)]) (g := gTup K 3 (gCons (gName 2) (gCons (gName 3) (gCons (gName 4) gNil)))) (by rfl) nd (pi_list (pe_call C_turns_of.ok hr (by rfl) C_turns_of.g C_turns_of.kp C_turns_of.b .nil pass0 (pa_cons (pv 0) pa_nil))) (blkOk_by (own := [("hand", 2), ("first", 3), ("last", 4)]) (N := nOften) (sc := defScope sOften) (by decide +kernel)) (fun _ _ _ _ _ => (pg_tup (by rfl) (pgs_cons (pg_name (i := 2) nd rfl (.inl rfl)) (pgs_cons (pg_name (i := 3) nd rfl (.inl rfl)) (pgs_cons (pg_name (i := 4) nd rfl (.inl rfl)) pgs_nil))))) (fun _ _ _ _ _ => pts_nil)
          (fun _ _ _ _ _ => (pv 2))))
      (pss_one (ps_ret (pe_lc (own := [("hand", 2)]) (g := gName 2) (by rfl) nd (pi_range1 rfl m_range (pa_cons (pe_op op_add (pe_num (by rfl) iLAST_HAND) pe_int) pa_nil)) (blkOk_by (own := [("hand", 2)]) (N := nOften) (sc := defScope sOften) (by decide +kernel)) (fun _ _ _ _ _ => (pg_name (i := 2) nd rfl (.inl rfl))) (fun _ _ _ _ _ => (pts_one (show PT _ _ (tTest (tOp (rI0 fun i j => .bl (decide (i > j))) (tBM K "list" (rCntI K) (tVar 1) (tCons (tVar 2) tNil)) (tC (.int 1)))) from pt_cmpR op_gt (pe_bm PySem.F.plainAttrs_list PySem.F.slot_list_count PySem.F.type_list_count mt_lcount (pv 1) (pa_cons (pv 2) pa_nil)) pe_int (nomark _))))
          (fun _ _ _ _ _ => (pv 2))))), ?_⟩
    refine ⟨_, rfl, b, fk, t, n, age, zs, rfl, hB, hT, fun p L H1 e1 T1 f1 hby hp => ?_⟩
    obtain ⟨us, ep, eu, hus⟩ := hp
    have hul : us.length ≤ 1000 := by
      have h1 := congrArg List.length eu
      have h2 := turnsH_len L
      have h3 : L.length ≤ 16 := by
        have h4 := nodup_len (l := L.map (·.num)) (m := (ens zs).map (·.num)) (by
          rw [List.nodup_iff_pairwise_ne, List.pairwise_map]
          have hpw := hby.up
          refine List.Pairwise.imp_of_mem ?_ hpw
          intro a c ha hc hl hz
          have := num_inj hB.ok ((hby.mem a).mp ha) ((hby.mem c).mp hc) hz
          rw [this] at hl
          unfold Lex at hl
          omega) fun x hx => by
            obtain ⟨u, hu, rfl⟩ := List.mem_map.mp hx
            exact List.mem_map.mpr ⟨u, (hby.mem u).mp hu, rfl⟩
        rw [List.length_map, List.length_map, List.length_map] at h4
        have := hB.len
        omega
      rw [List.length_map] at h1
      omega
    refine ⟨p, rfl, ⟨_, SqL.of ep⟩, fun M1 nM1 => ?_⟩
    refine lc_sameM (walk_list (xs := us.map fun z => V.ref z.1)) us (fun y => .int y.2.1) (by rw [List.length_map]) hul nM1 (fun H s => SqL.of (s _ _ ep)) ?_ ?_
    · rintro i y x H3 H4 hy s3 ⟨rfl, hx⟩ Q1 q1
      rw [List.getElem?_map, hy] at hx
      injection hx with hx
      subst hx
      exact ⟨y.1, _, rfl, SqT.of (s3 _ _ (hus y (List.mem_of_getElem? hy))), rfl, _, _, rfl, _, _, rfl, _, _, rfl, rfl, rfl, _, rfl, q1 _ (same_refl _)⟩
    intro H2 s2 eM
    have eM' : H2 M1 = some (.lst (((turnsH L).map (·.1)).map V.int)) := by
      rw [eM, ← eu, List.map_map, List.map_map]
      rfl
    refine ⟨_, _, rfl, rfl, _, rfl, by decide, by decide, fun M2 nM2 => ?_⟩
    refine lc_sameV (walk_range (lo := 0) (n := (4 : Int).toNat)) ((List.range 4).map fun i : Nat => (i : Int)) (fun h => decide (1 < ((turnsH L).map (·.1)).count h)) V.int rfl (by decide) nM2 (fun _ _ => trivial) ?_ ?_
    · rintro i y x H3 H4 hy s3 ⟨rfl, hx⟩ Q1 Q0 q1 q0
      have ey : y = 0 + (i : Int) := by
        rw [List.getElem?_map] at hy
        cases hr : (List.range 4)[i]? with
        | none => rw [hr] at hy; cases hy
        | some j =>
          rw [hr] at hy
          injection hy with hy
          obtain ⟨h1, h2⟩ := List.getElem?_eq_some_iff.mp hr
          rw [List.getElem_range] at h2
          have hy2 : ((j : Nat) : Int) = y := hy
          omega
      have hx2 : x = V.int y := by rw [ey]; exact hx
      rw [hx2]
      refine ⟨rfl, _, rfl, .inl ⟨rfl, _, SqL.of (s3 _ _ eM')⟩, _, rfl, M1, _, y, rfl, rfl, SqL.of (s3 _ _ eM'), _, _, rfl, rfl, _, rfl, ?_⟩
      refine ite2 (fun c => ?_) (fun c => ?_)
      · refine ⟨_, rfl, q1 (decide_eq_true ?_) _ (same_refl _)⟩
        have := of_decide_eq_true c
        omega
      · refine q0 (decide_eq_false fun z => c (decide_eq_true ?_)) _ (same_refl _)
        omega
    intro H3 s3 eM3
    refine q M2 L H3 (e1.trans (.of (s2.trans s3))) (T1.ext (s2.trans s3)) (Fresh.of (e1.trans (.of s2)) nM2) hby eM3
end
end Deed

namespace Deed
open PySem PySem.Spec PyProof.Rows L2 LamX
/-! ### books that are near -/
abbrev coreE (e : En) : Int × Int × Kd := (e.num, e.day, e.kd)
theorem core_dn (es : List En) : dn es = ((es.map coreE).filter fun c => match c.2.2 with | .deed _ _ _ _ => true | .act _ _ => false).map (·.1) := by
  unfold dn
  rw [List.filter_map, List.map_map]
  rfl
theorem core_an (es : List En) : an es = ((es.map coreE).filter fun c => !(match c.2.2 with | .deed _ _ _ _ => true | .act _ _ => false)).map (·.1) := by
  unfold an
  rw [List.filter_map, List.map_map]
  rfl
def Fits (e : En) : Prop := (0 ≤ e.wri ∧ e.wri ≤ 9999) ∧ (0 ≤ e.hand ∧ e.hand ≤ 3)
theorem core_ok {n : Nat} {es es' : List En} (h : BkOk n es) (hc : es'.map coreE = es.map coreE) (hf : ∀ e ∈ es', Fits e) : BkOk n es' := by
  have hd : dn es' = dn es := by rw [core_dn, core_dn, hc]
  have ha : an es' = an es := by rw [core_an, core_an, hc]
  have hn : es'.map (·.num) = es.map (·.num) := by
    have h1 := congrArg (List.map (·.1)) hc
    rw [List.map_map, List.map_map] at h1
    exact h1
  have hm : ∀ e' ∈ es', ∃ e ∈ es, coreE e = coreE e' := fun e' he' => by
    have : coreE e' ∈ es.map coreE := by rw [← hc]; exact List.mem_map.mpr ⟨e', he', rfl⟩
    exact List.mem_map.mp this
  refine ⟨by rw [hn]; exact h.nd, fun e' he' => ?_, fun e' he' => ?_⟩
  · obtain ⟨e, he, hq⟩ := hm e' he'
    have : e.num = e'.num := congrArg (·.1) hq
    rw [← this]
    exact h.rng e he
  · obtain ⟨e, he, hq⟩ := hm e' he'
    have h1 : e.num = e'.num := congrArg (·.1) hq
    have h2 : e.day = e'.day := congrArg (·.2.1) hq
    have h3 : e.kd = e'.kd := congrArg (·.2.2) hq
    have h4 := h.ok e he
    obtain ⟨f1, f2⟩ := hf e' he'
    rw [hd, ha]
    unfold EnOk at h4 ⊢
    rw [h1, h2, h3] at h4
    exact ⟨h4.1, f1, f2, h4.2.2.2⟩
section
variable {P : Program} {w : World} {K : PySem.W.Frag} {mg : Str → Option Value} {base : Heap} {T : List (Addr × Str)}
abbrev sLNear : Stmt := topS 18
abbrev nLNear : List Str := ["_law_pen_here", "_law_book_here", "_law_rows", "_law_entry"]
abbrev pLNear : List Str := ["_law_pen_here", "_law_book_here"]
theorem scLNear : FnScope nLNear pLNear (defScope sLNear) := ⟨rfl, rfl, rfl, by decide +kernel, rfl, by decide +kernel, by decide +kernel⟩
def spLNear : Sp := fun vs H Q _ => ∃ (p b fk t : Addr) (n : Nat) (age : Int) (zs : List (Addr × En)), vs = [.ref p, .ref b] ∧ PenAt H p ∧ BookAt H b fk t n age zs ∧ ∀ b' t' zs' H', Kp p H H' → PenAt H' p → BookAt H' b' fk t' n age zs' → Q (.ref b') H'
theorem ok_lNear {f : Addr} {fd : FuncData} {k : Nat} (F : Fun K "_law_near" "_law_near" sLNear f fd) (C__law_draw : CDraw P w K mg base k) (m_tuple : mg "tuple" = none) : FnOk P w K mg base CX0 (k + 1) f fd pLNear spLNear := by
  refine F.ok scLNear (fun vs H Q E h => ?_) (fun cdv A outer s H vs Q E hr h => ?_)
  · obtain ⟨p, b, fk, t, n, age, zs, rfl, _⟩ := h
    rfl
  · obtain ⟨p, b, fk, t, n, age, zs, rfl, hP, hB, q⟩ := h
    have nd := scLNear.nd
    refine ⟨_, pss_cons (ps_set (i := 2) nd rfl (.inl rfl) (pe_lst pa_nil))
      (pss_cons (ps_for PassesOwn.never rfl (pi_tup (pe_ix ix_tup (pv 1) pe_int (fun _ _ => rfl))) (pg_name (i := 3) nd rfl (.inl rfl))
        (pss_one (ps_expr (pe_bm PySem.F.plainAttrs_list PySem.F.slot_list_append PySem.F.type_list_append mt_append (pv 2) (pa_cons (pe_op op_catT (pe_op op_catT (pe_slice sl_tup (pv 3) po_none (po_some pe_int)) (pe_tup (pa_cons (pe_call C__law_draw.ok hr (by rfl) C__law_draw.g C__law_draw.kp C__law_draw.b .nil pass0 (pa_cons (pv 0) (pa_cons pe_int pa_nil))) (pa_cons (pe_call C__law_draw.ok hr (by rfl) C__law_draw.g C__law_draw.kp C__law_draw.b .nil pass0 (pa_cons (pv 0) (pa_cons (pe_op op_add pe_int (pe_call C__law_draw.ok hr (by rfl) C__law_draw.g C__law_draw.kp C__law_draw.b .nil pass0 (pa_cons (pv 0) (pa_cons pe_int pa_nil)))) pa_nil))) pa_nil)))) (pe_slice sl_tup (pv 3) (po_some pe_int) po_none)) pa_nil)))))
      (pss_one (ps_ret (pe_tup (pa_cons (pe_ix ix_tup (pv 1) pe_int (fun _ _ => rfl)) (pa_cons (pe_ix ix_tup (pv 1) pe_int (fun _ _ => rfl)) (pa_cons (pe_callTy call_tuple_of (by rfl) m_tuple (by decide +kernel) (pa_cons (pv 2) pa_nil)) pa_nil))))))), ?_⟩
    refine ⟨Nat.zero_le _, fun l nl => ?_⟩
    have nlp : l ≠ p := hP.free nl
    have k0 : Kp p H _ := Kp.new nl (.lst [])
    have P0 := hP.new nl (.lst [])
    have e0 : (upd H l (.lst [])) l = some (.lst []) := upd_same
    generalize upd H l (.lst []) = H0 at k0 P0 e0
    have hB0 := hB.kp (k0.tup hP)
    refine ⟨_, rfl, b, _, _, _, rfl, rfl, SqT.of hB0.at_, (atI_nat (j := 2) rfl), t, rfl, ⟨_, SqT.of hB0.ents⟩, ?_⟩
    refine for_tup (K := K) (a := t) (xs := refs zs) (fun i σ H' => ∃ y3, ∃ zs' : List (Addr × En), σ = [some (.ref p), some (.ref b), some (.ref l), y3] ∧ Kp p H H' ∧ PenAt H' p ∧ H' l = some (.lst (refs zs')) ∧ (∀ z ∈ zs', EntAt H' z.1 z.2) ∧ (ens zs').map coreE = ((ens zs).take i).map coreE ∧ ∀ e ∈ ens zs', Fits e) ⟨_, [], rfl, k0, P0, e0, (fun _ h => nomatch h), rfl, (fun _ h => nomatch h)⟩ (fun i σ H' _ h => ?_) ?_ ?_
    · obtain ⟨_, _, _, k', _⟩ := h
      exact SqT.of (k'.tup hP _ _ hB.ents)
    · rintro i x σ H1 hx ⟨y3, zs', rfl, k1, P1, el, hent, hcore, hfit⟩
      obtain ⟨z, hz, rfl⟩ := ref_at hx
      have hzm : z ∈ zs := List.mem_of_getElem? hz
      have hE := (hB.ent z hzm).kp (k1.tup hP)
      have hlen : zs'.length ≤ 16 := by
        have h1 := congrArg List.length hcore
        rw [List.length_map, List.length_map, List.length_map, List.length_take, List.length_map] at h1
        have := hB.len
        omega
      have hzi : (ens zs)[i]? = some z.2 := by rw [List.getElem?_map, hz]; rfl
      have hday := (hB.ok.ok z.2 (List.mem_map.mpr ⟨z, hzm, rfl⟩)).1
      -- behind the append of the new entry
      have fin : ∀ (H9 : Hp) (a : Addr) (e' : En), Kp p H1 H9 → PenAt H9 p → EntAt H9 a e' → coreE e' = coreE z.2 → Fits e' →
          H9 l = some (.lst (refs zs')) ∧ ∃ y3, ∃ zs'' : List (Addr × En), [some (V.ref p), some (V.ref b), some (V.ref l), some (V.ref z.1)] = [some (V.ref p), some (V.ref b), some (V.ref l), y3] ∧ Kp p H (upd H9 l (.lst (refs zs' ++ [.ref a]))) ∧ PenAt (upd H9 l (.lst (refs zs' ++ [.ref a]))) p ∧ (upd H9 l (.lst (refs zs' ++ [.ref a]))) l = some (.lst (refs zs'')) ∧ (∀ z ∈ zs'', EntAt (upd H9 l (.lst (refs zs' ++ [.ref a]))) z.1 z.2) ∧ (ens zs'').map coreE = ((ens zs).take (i + 1)).map coreE ∧ ∀ e ∈ ens zs'', Fits e := by
        intro H9 a e' k9 P9 E9 hc9 hf9
        have el9 := k9 _ _ nlp el
        refine ⟨el9, _, zs' ++ [(a, e')], rfl, (k1.trans k9).over nl _, P9.put nlp _, ?_, fun y hy => ?_, ?_, fun e he => ?_⟩
        · rw [upd_same]
          simp [refs]
        · rcases List.mem_append.mp hy with hy | hy
          · exact ((hent y hy).kp (k9.tup P1)).kp (KpT.lst el9 _)
          · rw [List.mem_singleton.mp hy]
            exact E9.kp (KpT.lst el9 _)
        · rw [show ens (zs' ++ [(a, e')]) = ens zs' ++ [e'] by simp [ens], List.map_append, hcore, take_more hzi, List.map_append]
          show _ ++ [coreE e'] = _ ++ [coreE z.2]
          rw [hc9]
        · rw [show ens (zs' ++ [(a, e')]) = ens zs' ++ [e'] by simp [ens]] at he
          rcases List.mem_append.mp he with he | he
          · exact hfit e he
          · rw [List.mem_singleton.mp he]
            exact hf9
      cases hk : z.2.kd with
      | deed g t0 rs ws =>
        unfold EntAt at hE
        rw [hk] at hE
        obtain ⟨r, w0, ea, er, ew⟩ := hE
        refine ⟨_, rfl, .inl ⟨rfl, _, SqL.of el⟩, _, rfl, _, rfl, z.1, _, rfl, SqT.of ea, fun hw => absurd hw.2 (by show ¬ HT.sIx 9 9 (some 2) = 9; decide), fun s2 ns2 => ?_⟩
        rw [show cutV [V.int z.2.num, V.int z.2.day, V.int z.2.wri, V.int z.2.hand, V.str "deed", V.int g, V.int t0, V.ref r, V.ref w0] none (some 2) = [V.int z.2.num, V.int z.2.day] from rfl]
        have k2 : Kp p H1 _ := Kp.new ns2 (.tup [V.int z.2.num, V.int z.2.day])
        have P2 := P1.new ns2 (.tup [V.int z.2.num, V.int z.2.day])
        have es2 : (upd H1 s2 (.tup [V.int z.2.num, V.int z.2.day])) s2 = some (.tup [V.int z.2.num, V.int z.2.day]) := upd_same
        generalize upd H1 s2 (.tup [V.int z.2.num, V.int z.2.day]) = H2 at k2 P2 es2
        refine ⟨_, rfl, p, 4, rfl, P2, by decide, by decide, fun v1 H3 k3 P3 a3 b3 => ?_⟩
        refine ⟨_, rfl, _, rfl, p, 3, rfl, P3, by decide, by decide, fun v2 H4 k4 P4 a4 b4 => ⟨_, _, rfl, rfl, ?_⟩⟩
        refine ⟨p, 2 + v2, rfl, P4, by omega, by omega, fun v3 H5 k5 P5 a5 b5 => ?_⟩
        refine ⟨(by show 2 ≤ sizeLine; decide), fun t3 nt3 => ?_⟩
        have k6 : Kp p H5 _ := Kp.new nt3 (.tup [.int v1, .int v3])
        have P6 := P5.new nt3 (.tup [.int v1, .int v3])
        have et3 : (upd H5 t3 (.tup [.int v1, .int v3])) t3 = some (.tup [.int v1, .int v3]) := upd_same
        generalize upd H5 t3 (.tup [.int v1, .int v3]) = H6 at k6 P6 et3
        have k26 : Kp p H2 H6 := k3.trans (k4.trans (k5.trans k6))
        refine ⟨s2, t3, _, _, rfl, rfl, SqT.of (k26.tup P2 _ _ es2), SqT.of et3, List.cons_ne_nil _ _, (by show 4 ≤ sizeLine; decide), fun z0 => absurd z0 (List.cons_ne_nil _ _), fun _ t4 nt4 => ?_⟩
        have k7 : Kp p H6 _ := Kp.new nt4 (.tup ([V.int z.2.num, V.int z.2.day] ++ [.int v1, .int v3]))
        have P7 := P6.new nt4 (.tup ([V.int z.2.num, V.int z.2.day] ++ [.int v1, .int v3]))
        have et4 : (upd H6 t4 (.tup ([V.int z.2.num, V.int z.2.day] ++ [.int v1, .int v3]))) t4 = some (.tup ([V.int z.2.num, V.int z.2.day] ++ [.int v1, .int v3])) := upd_same
        generalize upd H6 t4 (.tup ([V.int z.2.num, V.int z.2.day] ++ [.int v1, .int v3])) = H7 at k7 P7 et4
        have k17 : Kp p H1 H7 := k2.trans (k26.trans k7)
        refine ⟨_, rfl, _, rfl, z.1, _, rfl, SqT.of (k17.tup P1 _ _ ea), fun hw => absurd hw.1 (by show ¬ HT.sIx 9 0 (some 4) = 0; decide), fun s5 ns5 => ?_⟩
        rw [show cutV [V.int z.2.num, V.int z.2.day, V.int z.2.wri, V.int z.2.hand, V.str "deed", V.int g, V.int t0, V.ref r, V.ref w0] (some 4) none = [V.str "deed", V.int g, V.int t0, V.ref r, V.ref w0] from rfl]
        have k8 : Kp p H7 _ := Kp.new ns5 (.tup [V.str "deed", V.int g, V.int t0, V.ref r, V.ref w0])
        have P8 := P7.new ns5 (.tup [V.str "deed", V.int g, V.int t0, V.ref r, V.ref w0])
        have es5 : (upd H7 s5 (.tup [V.str "deed", V.int g, V.int t0, V.ref r, V.ref w0])) s5 = some (.tup [V.str "deed", V.int g, V.int t0, V.ref r, V.ref w0]) := upd_same
        generalize upd H7 s5 (.tup [V.str "deed", V.int g, V.int t0, V.ref r, V.ref w0]) = H8 at k8 P8 es5
        refine ⟨t4, s5, _, _, rfl, rfl, SqT.of (k8.tup P7 _ _ et4), SqT.of es5, List.cons_ne_nil _ _, (by show 9 ≤ sizeLine; decide), fun z0 => absurd z0 (List.cons_ne_nil _ _), fun _ t6 nt6 => ?_⟩
        have k9 : Kp p H8 (upd H8 t6 (.tup (([V.int z.2.num, V.int z.2.day] ++ [.int v1, .int v3]) ++ [V.str "deed", V.int g, V.int t0, V.ref r, V.ref w0]))) := Kp.new nt6 _
        have k19 := k17.trans (k8.trans k9)
        obtain ⟨f1, f2⟩ := fin _ t6 ⟨z.2.num, z.2.day, v1, v3, .deed g t0 rs ws⟩ k19 (P8.new nt6 _) ⟨r, w0, upd_same, k19.tup P1 _ _ er, k19.tup P1 _ _ ew⟩ (by show (z.2.num, z.2.day, Kd.deed g t0 rs ws) = (z.2.num, z.2.day, z.2.kd); rw [hk]) ⟨⟨by show 0 ≤ v1; omega, by show v1 ≤ 9999; omega⟩, ⟨by show 0 ≤ v3; omega, by show v3 ≤ 3; omega⟩⟩
        exact ⟨l, _, _, rfl, rfl, f1, small1000 (by rw [List.length_map]; omega), f2⟩
      | act x0 o0 =>
        unfold EntAt at hE
        rw [hk] at hE
        have ea : H1 z.1 = some (.tup [.int z.2.num, .int z.2.day, .int z.2.wri, .int z.2.hand, .str x0, .int o0]) := hE
        refine ⟨_, rfl, .inl ⟨rfl, _, SqL.of el⟩, _, rfl, _, rfl, z.1, _, rfl, SqT.of ea, fun hw => absurd hw.2 (by show ¬ HT.sIx 6 6 (some 2) = 6; decide), fun s2 ns2 => ?_⟩
        rw [show cutV [V.int z.2.num, V.int z.2.day, V.int z.2.wri, V.int z.2.hand, V.str x0, V.int o0] none (some 2) = [V.int z.2.num, V.int z.2.day] from rfl]
        have k2 : Kp p H1 _ := Kp.new ns2 (.tup [V.int z.2.num, V.int z.2.day])
        have P2 := P1.new ns2 (.tup [V.int z.2.num, V.int z.2.day])
        have es2 : (upd H1 s2 (.tup [V.int z.2.num, V.int z.2.day])) s2 = some (.tup [V.int z.2.num, V.int z.2.day]) := upd_same
        generalize upd H1 s2 (.tup [V.int z.2.num, V.int z.2.day]) = H2 at k2 P2 es2
        refine ⟨_, rfl, p, 4, rfl, P2, by decide, by decide, fun v1 H3 k3 P3 a3 b3 => ?_⟩
        refine ⟨_, rfl, _, rfl, p, 3, rfl, P3, by decide, by decide, fun v2 H4 k4 P4 a4 b4 => ⟨_, _, rfl, rfl, ?_⟩⟩
        refine ⟨p, 2 + v2, rfl, P4, by omega, by omega, fun v3 H5 k5 P5 a5 b5 => ?_⟩
        refine ⟨(by show 2 ≤ sizeLine; decide), fun t3 nt3 => ?_⟩
        have k6 : Kp p H5 _ := Kp.new nt3 (.tup [.int v1, .int v3])
        have P6 := P5.new nt3 (.tup [.int v1, .int v3])
        have et3 : (upd H5 t3 (.tup [.int v1, .int v3])) t3 = some (.tup [.int v1, .int v3]) := upd_same
        generalize upd H5 t3 (.tup [.int v1, .int v3]) = H6 at k6 P6 et3
        have k26 : Kp p H2 H6 := k3.trans (k4.trans (k5.trans k6))
        refine ⟨s2, t3, _, _, rfl, rfl, SqT.of (k26.tup P2 _ _ es2), SqT.of et3, List.cons_ne_nil _ _, (by show 4 ≤ sizeLine; decide), fun z0 => absurd z0 (List.cons_ne_nil _ _), fun _ t4 nt4 => ?_⟩
        have k7 : Kp p H6 _ := Kp.new nt4 (.tup ([V.int z.2.num, V.int z.2.day] ++ [.int v1, .int v3]))
        have P7 := P6.new nt4 (.tup ([V.int z.2.num, V.int z.2.day] ++ [.int v1, .int v3]))
        have et4 : (upd H6 t4 (.tup ([V.int z.2.num, V.int z.2.day] ++ [.int v1, .int v3]))) t4 = some (.tup ([V.int z.2.num, V.int z.2.day] ++ [.int v1, .int v3])) := upd_same
        generalize upd H6 t4 (.tup ([V.int z.2.num, V.int z.2.day] ++ [.int v1, .int v3])) = H7 at k7 P7 et4
        have k17 : Kp p H1 H7 := k2.trans (k26.trans k7)
        refine ⟨_, rfl, _, rfl, z.1, _, rfl, SqT.of (k17.tup P1 _ _ ea), fun hw => absurd hw.1 (by show ¬ HT.sIx 6 0 (some 4) = 0; decide), fun s5 ns5 => ?_⟩
        rw [show cutV [V.int z.2.num, V.int z.2.day, V.int z.2.wri, V.int z.2.hand, V.str x0, V.int o0] (some 4) none = [V.str x0, V.int o0] from rfl]
        have k8 : Kp p H7 _ := Kp.new ns5 (.tup [V.str x0, V.int o0])
        have P8 := P7.new ns5 (.tup [V.str x0, V.int o0])
        have es5 : (upd H7 s5 (.tup [V.str x0, V.int o0])) s5 = some (.tup [V.str x0, V.int o0]) := upd_same
        generalize upd H7 s5 (.tup [V.str x0, V.int o0]) = H8 at k8 P8 es5
        refine ⟨t4, s5, _, _, rfl, rfl, SqT.of (k8.tup P7 _ _ et4), SqT.of es5, List.cons_ne_nil _ _, (by show 6 ≤ sizeLine; decide), fun z0 => absurd z0 (List.cons_ne_nil _ _), fun _ t6 nt6 => ?_⟩
        have k9 : Kp p H8 (upd H8 t6 (.tup (([V.int z.2.num, V.int z.2.day] ++ [.int v1, .int v3]) ++ [V.str x0, V.int o0]))) := Kp.new nt6 _
        have k19 := k17.trans (k8.trans k9)
        obtain ⟨f1, f2⟩ := fin _ t6 ⟨z.2.num, z.2.day, v1, v3, .act x0 o0⟩ k19 (P8.new nt6 _) upd_same (by show (z.2.num, z.2.day, Kd.act x0 o0) = (z.2.num, z.2.day, z.2.kd); rw [hk]) ⟨⟨by show 0 ≤ v1; omega, by show v1 ≤ 9999; omega⟩, ⟨by show 0 ≤ v3; omega, by show v3 ≤ 3; omega⟩⟩
        exact ⟨l, _, _, rfl, rfl, f1, small1000 (by rw [List.length_map]; omega), f2⟩
    · rintro σ H1 ⟨y3, zs', rfl, k1, P1, el, hent, hcore, hfit⟩
      rw [show (refs zs).length = (ens zs).length by rw [List.length_map, List.length_map], List.take_length] at hcore
      have hB1 := hB.kp (k1.tup hP)
      refine ⟨_, rfl, b, _, _, _, rfl, rfl, SqT.of hB1.at_, (atI_nat (j := 0) rfl), _, rfl, b, _, _, _, rfl, rfl, SqT.of hB1.at_, (atI_nat (j := 1) rfl), _, rfl, l, _, rfl, .inl ⟨SqL.of el, fun t7 nt7 => ?_⟩⟩
      have k2 : Kp p H1 _ := Kp.new nt7 (.tup (refs zs'))
      have P2 := P1.new nt7 (.tup (refs zs'))
      have e2 : (upd H1 t7 (.tup (refs zs'))) t7 = some (.tup (refs zs')) := upd_same
      generalize upd H1 t7 (.tup (refs zs')) = H2 at k2 P2 e2
      refine ⟨(by show 3 ≤ sizeLine; decide), fun t8 nt8 => ?_⟩
      have k3 : Kp p H2 (upd H2 t8 (.tup [.ref fk, .int age, .ref t7])) := Kp.new nt8 _
      have k13 := (k2.trans k3).tup P1
      refine q t8 t7 zs' _ (k1.trans (k2.trans k3)) (P2.new nt8 _) ⟨upd_same, hB1.folk.kpT k13, hB.n2, hB.n6, hB.age0, hB.age1, k3.tup P2 _ _ e2, fun z hz => (hent z hz).kp k13, core_ok hB.ok hcore hfit, ?_⟩
      have h1 := congrArg List.length hcore
      rw [List.length_map, List.length_map, List.length_map, List.length_map] at h1
      have := hB.len
      omega
end
end Deed

namespace Deed
open PySem PySem.Spec PyProof.Rows L2 LamX
def rTupOf (K : PySem.W.Frag) : List V → Hp → VK → Prop := fun xs H Q => ∃ p ys, xs = [.ref p] ∧ ((SqL K H p ys ∧ ∀ l, H l = none → Q (.ref l) (upd H l (.tup ys))) ∨ (SqT K H p ys ∧ Q (.ref p) H))
theorem tuple_ofK {X : Cx} {K : PySem.W.Frag} (h : X.K = K) : CallR X (.type "tuple") (rTupOf K) := h ▸ call_tuple_of
section
variable {J : It} {n : Nat} {G : Hp → Prop} {Y : Nat → Hp → V → Hp → Prop} {g : TG} {te : TE} {vs : List Nat} {σ : L2.St} {H1 : Hp} {D : Addr} {Qd : Hp → Prop} {α : Type}
theorem lc_sameTM (w : Walk J n G Y) (ys : List α) (v : α → List V) (hn : ys.length = n) (hlen : ys.length ≤ 1000) (nD : H1 D = none) (hG : ∀ H, Same H1 H → G H)
    (hs : ∀ i y x H H', ys[i]? = some y → Same H1 H → Y i H x H' → ∀ (Q1 : V → Hp → Prop), (∀ t H4, Same H H4 → H4 t = some (.tup (v y)) → Q1 (.ref t) H4) → g x (wipe σ vs) H' fun σ2 H2 => wipe σ2 vs = wipe σ vs ∧ te σ2 H2 Q1)
    (hd : ∀ H (zs : List (Addr × α)), Same H1 H → H D = some (.lst (zs.map fun z => .ref z.1)) → zs.map (·.2) = ys → (∀ z ∈ zs, H z.1 = some (.tup (v z.2))) → Qd H) : LcGoal J g tYes te vs σ H1 D Qd := by
  refine lc_sameT w ys (fun _ => true) v hn hlen nD hG (fun i y x H H' hy h1 hY Q1 Q0 q1 q0 => ?_) (fun H zs h1 e ez hz => hd H zs h1 e (by rw [ez, List.filter_eq_self.mpr fun _ _ => rfl]) hz)
  exact hs i y x H H' hy h1 hY Q1 (fun t H4 s4 e4 => q1 rfl t H4 s4 e4)
end
theorem code3 (a b c : Int) : TS.code 10000 [a, b, c] = a * 100000000 + (b * 10000 + c) := by
  simp [TS.code]
/-- lists of three, in a list -/
structure L3At (H0 H : Hp) (l : Addr) (us : List (Addr × T3)) : Prop where
  at_ : H l = some (.lst (us.map fun u => V.ref u.1))
  row : ∀ u ∈ us, H u.1 = some (.lst [.int u.2.1, .int u.2.2.1, .int u.2.2.2])
  nd : (us.map (·.1)).Nodup
  fr : ∀ u ∈ us, H0 u.1 = none ∧ u.1 ≠ l
theorem L3At.add {H0 H : Hp} {l lx : Addr} {us : List (Addr × T3)} (h : L3At H0 H l us) (nx : H lx = none) (n0 : H0 lx = none) (q : T3) :
    (upd H lx (.lst [.int q.1, .int q.2.1, .int q.2.2])) l = some (.lst (us.map fun u => V.ref u.1)) ∧ L3At H0 (upd (upd H lx (.lst [.int q.1, .int q.2.1, .int q.2.2])) l (.lst ((us.map fun u => V.ref u.1) ++ [.ref lx]))) l (us ++ [(lx, q)]) := by
  have nlx : l ≠ lx := fun z => by rw [← z, h.at_] at nx; cases nx
  refine ⟨by rw [upd_ne nlx]; exact h.at_, ⟨by rw [upd_same, List.map_append]; rfl, fun u hu => ?_, ?_, fun u hu => ?_⟩⟩
  · rcases List.mem_append.mp hu with hu | hu
    · have h1 := h.row u hu
      rw [upd_ne (h.fr u hu).2, upd_ne (ne_of_none h1 nx)]
      exact h1
    · rw [List.mem_singleton.mp hu, upd_ne nlx.symm, upd_same]
  · rw [List.map_append, List.nodup_append]
    refine ⟨h.nd, List.pairwise_singleton _ _, fun a ha c hc z => ?_⟩
    obtain ⟨u, hu, rfl⟩ := List.mem_map.mp ha
    have : c = lx := by simpa using hc
    rw [this] at z
    have h1 := h.row u hu
    rw [z, nx] at h1
    cases h1
  · rcases List.mem_append.mp hu with hu | hu
    · exact h.fr u hu
    · rw [List.mem_singleton.mp hu]
      exact ⟨n0, nlx.symm⟩
theorem L3At.set {H0 H : Hp} {l : Addr} {us : List (Addr × T3)} {u : Addr × T3} (h : L3At H0 H l (us ++ [u])) (x : Int) : L3At H0 (upd H u.1 (.lst [.int u.2.1, .int u.2.2.1, .int x])) l (us ++ [(u.1, (u.2.1, u.2.2.1, x))]) := by
  have hu := h.fr u (by simp)
  have hn := h.nd
  rw [List.map_append, List.nodup_append] at hn
  refine ⟨by rw [upd_ne hu.2.symm, h.at_, List.map_append, List.map_append]; rfl, fun y hy => ?_, by rw [List.map_append, List.nodup_append]; exact hn, fun y hy => ?_⟩
  · rcases List.mem_append.mp hy with hy | hy
    · rw [upd_ne fun z => hn.2.2 y.1 (List.mem_map.mpr ⟨y, hy, rfl⟩) u.1 (by simp) z]
      exact h.row y (List.mem_append_left _ hy)
    · rw [List.mem_singleton.mp hy, upd_same]
  · rcases List.mem_append.mp hy with hy | hy
    · exact h.fr y (List.mem_append_left _ hy)
    · rw [List.mem_singleton.mp hy]
      exact hu
section
variable {P : Program} {w : World} {K : PySem.W.Frag} {mg : Str → Option Value} {base : Heap} {T : List (Addr × Str)}
abbrev sLTurns : Stmt := topS 19
abbrev nLTurns : List Str := ["_law_book_here", "_law_found", "_law_last", "_law_written", "_law_number", "_law_hand", "_law_entry", "_law_row"]
abbrev pLTurns : List Str := ["_law_book_here"]
theorem scLTurns : FnScope nLTurns pLTurns (defScope sLTurns) := ⟨rfl, rfl, rfl, by decide +kernel, rfl, by decide +kernel, by decide +kernel⟩
def spLTurns : Sp := fun vs H Q _ => ∃ (b fk t : Addr) (n : Nat) (age : Int) (zs : List (Addr × En)), vs = [.ref b] ∧ BookAt H b fk t n age zs ∧ ∀ (p : Addr) (L : List En) (H' : Hp), Same H H' → H p = none → ByW (ens zs) L → T3At H' p (turnsH L) → Q (.ref p) H'
theorem ok_lTurns {f : Addr} {fd : FuncData} {k : Nat} (F : Fun K "_law_turns" "_law_turns" sLTurns f fd) (m_sorted : mg "sorted" = none) (m_tuple : mg "tuple" = none) : FnOk P w K mg base CX0 (k + 1) f fd pLTurns spLTurns := by
  refine F.ok scLTurns (fun vs H Q E h => ?_) (fun cdv A outer s H vs Q E hr h => ?_)
  · obtain ⟨b, fk, t, n, age, zs, rfl, _⟩ := h
    rfl
  · obtain ⟨b, fk, t, n, age, zs, rfl, hB, q⟩ := h
    have nd := scLTurns.nd
    have hzl := hB.len
    refine ⟨_, pss_cons (ps_set (i := 1) nd rfl (.inl rfl) (pe_lst pa_nil))
      (pss_cons (ps_set (i := 2) nd rfl (.inl rfl) pe_non)
      (pss_cons (ps_for PassesOwn.never rfl (pi_list (pe_callB (show CallR _ (.builtin "sorted") (rSortU K 3 10000) from cr_sortT (by decide)) (by rfl) m_sorted (by decide +kernel) (pa_cons (pe_lc (own := [("_law_entry", 6)]) (g := gName 6) (by rfl) nd (pi_tup (pe_ix ix_tup (pv 0) pe_int (fun _ _ => rfl))) (blkOk_by (own := [("_law_entry", 6)]) (N := nLTurns) (sc := defScope sLTurns) (by decide +kernel)) (fun _ _ _ _ _ => (pg_name (i := 6) nd rfl (.inl rfl))) (fun _ _ _ _ _ => pts_nil)
          (fun _ _ _ _ _ => (pe_tup (pa_cons (pe_ix (ix_tupK (K := K) (by rfl)) (pv 6) pe_int (fun _ _ => rfl)) (pa_cons (pe_ix (ix_tupK (K := K) (by rfl)) (pv 6) pe_int (fun _ _ => rfl)) (pa_cons (pe_ix (ix_tupK (K := K) (by rfl)) (pv 6) pe_int (fun _ _ => rfl)) pa_nil)))))) pa_nil))) (pg_tup (by rfl) (pgs_cons (pg_name (i := 3) nd rfl (.inl rfl)) (pgs_cons (pg_name (i := 4) nd rfl (.inl rfl)) (pgs_cons (pg_name (i := 5) nd rfl (.inl rfl)) pgs_nil))))
        (pss_cons (ps_if (pt_cmpR op_ne (pv 5) (pv 2) (nomark _)) (pss_one (ps_expr (pe_bm PySem.F.plainAttrs_list PySem.F.slot_list_append PySem.F.type_list_append mt_append (pv 1) (pa_cons (pe_lst (pa_cons (pv 5) (pa_cons (pv 4) (pa_cons (pv 4) pa_nil)))) pa_nil)))) pss_nil)
      (pss_cons (ps_asg (pv 4) (pg_sub (pe_ix ix_list (pv 1) (pe_un un_neg pe_int) (fun _ _ => rfl)) pe_int set_list))
      (pss_one (ps_set (i := 2) nd rfl (.inl rfl) (pv 5))))))
      (pss_one (ps_ret (pe_lc (own := [("_law_row", 7)]) (g := gName 7) (by rfl) nd (pi_list (pv 1)) (blkOk_by (own := [("_law_row", 7)]) (N := nLTurns) (sc := defScope sLTurns) (by decide +kernel)) (fun _ _ _ _ _ => (pg_name (i := 7) nd rfl (.inl rfl))) (fun _ _ _ _ _ => pts_nil)
          (fun _ _ _ _ _ => (pe_callTy (tuple_ofK (K := K) (by rfl)) (by rfl) m_tuple (by decide +kernel) (pa_cons (pv 7) pa_nil)))))))), ?_⟩
    refine ⟨Nat.zero_le _, fun l nl => ?_⟩
    have s0 := same_new nl (.lst [])
    have e0 : (upd H l (.lst [])) l = some (.lst []) := upd_same
    generalize upd H l (.lst []) = H0 at s0 e0
    have hB0 := hB.kp (Same.tup s0)
    refine ⟨_, rfl, b, _, _, _, rfl, rfl, SqT.of hB0.at_, (atI_nat (j := 2) rfl), t, rfl, ⟨_, SqT.of hB0.ents⟩, fun M nM => ?_⟩
    refine lc_sameTM (walk_tup (xs := refs zs)) zs (fun z => [.int z.2.wri, .int z.2.num, .int z.2.hand]) (by rw [List.length_map]) (by omega) nM (fun H s => SqT.of (s _ _ hB0.ents)) ?_ ?_
    · rintro i y x H3 H4 hy s3 ⟨rfl, hx⟩ Q1 q1
      obtain ⟨z, hz, rfl⟩ := ref_at hx
      rw [hy] at hz
      injection hz with hz
      subst hz
      obtain ⟨xs, ex, g0, g1, g2, g3, _⟩ := ((hB0.ent y (List.mem_of_getElem? hy)).kp (Same.tup s3)).tup
      refine ⟨rfl, _, rfl, y.1, _, _, _, rfl, rfl, SqT.of ex, g2, _, rfl, y.1, _, _, _, rfl, rfl, SqT.of ex, g0, _, rfl, y.1, _, _, _, rfl, rfl, SqT.of ex, g3, (by show 3 ≤ sizeLine; decide), fun t4 nt4 => ?_⟩
      exact q1 t4 _ (same_new nt4 _) upd_same
    intro H2 ws s2 eM ews hws
    have hwl : ws.length = zs.length := by rw [← ews, List.length_map]
    have hbd : ∀ z ∈ zs, 0 ≤ z.2.wri ∧ z.2.wri ≤ 9999 ∧ 0 ≤ z.2.num ∧ z.2.num ≤ 30 ∧ 0 ≤ z.2.hand ∧ z.2.hand ≤ 3 := fun z hz => by
      have hm : z.2 ∈ ens zs := List.mem_map.mpr ⟨z, hz, rfl⟩
      have h1 := hB.ok.ok z.2 hm
      have h2 := hB.ok.rng z.2 hm
      exact ⟨h1.2.1.1, h1.2.1.2, h2.1, h2.2, h1.2.2.1.1, h1.2.2.1.2⟩
    have hwz : ∀ u ∈ ws, u.2 ∈ zs := fun u hu => by rw [← ews]; exact List.mem_map.mpr ⟨u, hu, rfl⟩
    refine ⟨M, _, rfl, SqL.of eM, by rw [List.length_map]; omega, fun x hx => ?_, fun ys q6 pm up nq6 => ?_⟩
    · obtain ⟨u, hu, rfl⟩ := List.mem_map.mp hx
      have hb := hbd u.2 (hwz u hu)
      refine ⟨[u.2.2.wri, u.2.2.num, u.2.2.hand], ⟨u.1, rfl, SqT.of (hws u hu)⟩, rfl, fun m hm => ?_⟩
      simp only [List.mem_cons, List.not_mem_nil, or_false] at hm
      rcases hm with rfl | rfl | rfl <;> omega
    obtain ⟨vs', rfl, pm2⟩ := perm_pairs (fun u : Addr × (Addr × En) => V.ref u.1) pm ws rfl
    have hvw : ∀ u ∈ vs', u ∈ ws := fun u hu => pm2.mem_iff.mp hu
    generalize hL : vs'.map (fun u => u.2.2) = L
    have hby : ByW (ens zs) L := by
      have hpL : L.Perm (ens zs) := by
        rw [← hL]
        have h1 : (vs'.map fun u => u.2.2).Perm (ws.map fun u => u.2.2) := pm2.map _
        have h2 : (ws.map fun u => u.2.2) = ens zs := by
          rw [← ews]
          simp [ens]
        rw [h2] at h1
        exact h1
      refine lex_of hB.ok hpL ?_
      rw [← hL, List.pairwise_map]
      rw [List.pairwise_map] at up
      refine List.Pairwise.imp_of_mem ?_ up
      intro a c ha hc hl
      have h1 := hl [a.2.2.wri, a.2.2.num, a.2.2.hand] [c.2.2.wri, c.2.2.num, c.2.2.hand] ⟨a.1, rfl, SqT.of (hws a (hvw a ha))⟩ ⟨c.1, rfl, SqT.of (hws c (hvw c hc))⟩
      rw [code3, code3] at h1
      have b1 := hbd a.2 (hwz a (hvw a ha))
      have b2 := hbd c.2 (hwz c (hvw c hc))
      omega
    have s3 := same_new nq6 (.lst (vs'.map fun u => V.ref u.1))
    have e6 : (upd H2 q6 (.lst (vs'.map fun u => V.ref u.1))) q6 = some (.lst (vs'.map fun u => V.ref u.1)) := upd_same
    generalize upd H2 q6 (.lst (vs'.map fun u => V.ref u.1)) = H3 at s3 e6
    have s03 : Same H H3 := s0.trans (s2.trans s3)
    have el3 : H3 l = some (.lst []) := s3 _ _ (s2 _ _ e0)
    have nlq : q6 ≠ l := fun z => by rw [z, s2 _ _ e0] at nq6; cases nq6
    have hvl : vs'.length ≤ 16 := by rw [pm2.length_eq, hwl]; exact hzl
    have hrow : ∀ u ∈ vs', H3 u.1 = some (.tup [.int u.2.2.wri, .int u.2.2.num, .int u.2.2.hand]) := fun u hu => s3 _ _ (hws u (hvw u hu))
    refine ⟨q6, rfl, ⟨_, SqL.of e6⟩, ?_⟩
    refine for_list (K := K) (a := q6) (xs := vs'.map fun u => V.ref u.1) (fun i σ H' => ∃ y3 y4 y5 y6 y7 lv, ∃ us : List (Addr × T3), σ = [some (.ref b), some (.ref l), some lv, y3, y4, y5, y6, y7] ∧ Same H H' ∧ Kp l H3 H' ∧ H' q6 = some (.lst (vs'.map fun u => V.ref u.1)) ∧ L3At H3 H' l us ∧ us.map (·.2) = turnsH (L.take i) ∧ (us = [] → lv = .non) ∧ (∀ ui u, us = ui ++ [u] → lv = .int u.2.1)) ⟨_, _, _, _, _, _, [], rfl, s03, Kp.refl _ _, e6, ⟨el3, fun _ h => (nomatch h), List.nodup_nil, fun _ h => (nomatch h)⟩, rfl, fun _ => rfl, fun ui u h => by cases ui <;> cases h⟩ (fun i σ H' _ h => ?_) ?_ ?_
    · obtain ⟨_, _, _, _, _, _, _, _, _, _, e, _⟩ := h
      exact SqL.of e
    · rintro i x σ H4 hx ⟨y3, y4, y5, y6, y7, lv, us, rfl, s4, k4, e4, hU, eus, hn0, hn1⟩
      rw [List.getElem?_map] at hx
      cases hv : vs'[i]? with
      | none => rw [hv] at hx; cases hx
      | some u0 =>
        rw [hv] at hx
        injection hx with hx
        subst hx
        have hum := List.mem_of_getElem? hv
        have hLi : L[i]? = some u0.2.2 := by rw [← hL, List.getElem?_map, hv]; rfl
        rw [take_more hLi, turnsH_snoc, ← eus]
        have ru := k4 _ _ (fun z => by have h1 := hrow u0 hum; rw [z, el3] at h1; cases h1) (hrow u0 hum)
        obtain ⟨e, he⟩ : ∃ e, u0.2.2 = e := ⟨_, rfl⟩
        rw [he] at ru ⊢
        have hul : us.length ≤ 16 := by
          have h1 := congrArg List.length eus
          rw [List.length_map] at h1
          have h2 := turnsH_len (L.take i)
          have h3 : L.length = vs'.length := by rw [← hL, List.length_map]
          rw [List.length_take] at h2
          omega
        refine ⟨u0.1, _, rfl, SqT.of ru, rfl, _, _, rfl, _, _, rfl, _, _, rfl, rfl, ?_⟩
        -- behind: the last row is ux at the heap H5; its third place is set
        have fin : ∀ (H5 : Hp) (ui : List (Addr × T3)) (ux : Addr × T3), Same H H5 → Kp l H3 H5 → H5 q6 = some (.lst (vs'.map fun u => V.ref u.1)) → L3At H3 H5 l (ui ++ [ux]) → ux.2.1 = e.hand → ui.map (·.2) ++ [(e.hand, ux.2.2.1, e.num)] = stepH (us.map (·.2)) e →
            Same H (upd H5 ux.1 (.lst [.int ux.2.1, .int ux.2.2.1, .int e.num])) ∧ Kp l H3 (upd H5 ux.1 (.lst [.int ux.2.1, .int ux.2.2.1, .int e.num])) ∧ (upd H5 ux.1 (.lst [.int ux.2.1, .int ux.2.2.1, .int e.num])) q6 = some (.lst (vs'.map fun u => V.ref u.1)) ∧ ∃ us' : List (Addr × T3), L3At H3 (upd H5 ux.1 (.lst [.int ux.2.1, .int ux.2.2.1, .int e.num])) l us' ∧ us'.map (·.2) = stepH (us.map (·.2)) e ∧ (us' = [] → V.int e.hand = .non) ∧ (∀ ui u, us' = ui ++ [u] → V.int e.hand = .int u.2.1) := by
          intro H5 ui ux s5 k5 e5 hU5 hh hst
          have hfr := hU5.fr ux (by simp)
          have hrx := hU5.row ux (by simp)
          refine ⟨same_put (none_back s03 hfr.1) s5 _, fun b0 o0 n0 h0 => by rw [upd_ne (ne_of_none h0 hfr.1)]; exact k5 b0 o0 n0 h0, ?_, ui ++ [(ux.1, (ux.2.1, ux.2.2.1, e.num))], hU5.set e.num, ?_, fun h => absurd h (by simp), fun ui' u' h => ?_⟩
          · rw [upd_ne (ne_of_none e6 hfr.1)]
            exact e5
          · rw [List.map_append, ← hst, ← hh]
            rfl
          · have := congrArg List.getLast? h
            rw [List.getLast?_concat, List.getLast?_concat] at this
            injection this with this
            rw [← this, hh]
        -- a new row
        have app : ∀ (lx : Addr), H4 lx = none → (upd H4 lx (.lst [.int e.hand, .int e.num, .int e.num])) l = some (.lst (us.map fun u => V.ref u.1)) ∧ Same H (upd (upd H4 lx (.lst [.int e.hand, .int e.num, .int e.num])) l (.lst ((us.map fun u => V.ref u.1) ++ [.ref lx]))) ∧ Kp l H3 (upd (upd H4 lx (.lst [.int e.hand, .int e.num, .int e.num])) l (.lst ((us.map fun u => V.ref u.1) ++ [.ref lx]))) ∧ (upd (upd H4 lx (.lst [.int e.hand, .int e.num, .int e.num])) l (.lst ((us.map fun u => V.ref u.1) ++ [.ref lx]))) q6 = some (.lst (vs'.map fun u => V.ref u.1)) ∧ L3At H3 (upd (upd H4 lx (.lst [.int e.hand, .int e.num, .int e.num])) l (.lst ((us.map fun u => V.ref u.1) ++ [.ref lx]))) l (us ++ [(lx, (e.hand, e.num, e.num))]) := by
          intro lx nlx
          have n3 : H3 lx = none := by
            cases hc : H3 lx with
            | none => rfl
            | some o =>
              by_cases hl : lx = l
              · rw [hl, hU.at_] at nlx; cases nlx
              · rw [k4 _ _ hl hc] at nlx; cases nlx
          obtain ⟨a1, a2⟩ := hU.add nlx n3 (e.hand, e.num, e.num)
          refine ⟨a1, same_put nl (s4.trans (same_new nlx _)) _, fun b0 o0 n0 h0 => by rw [upd_ne n0, upd_ne (ne_of_none (k4 _ _ n0 h0) nlx)]; exact k4 _ _ n0 h0, ?_, a2⟩
          rw [upd_ne nlq, upd_ne (ne_of_none e4 nlx)]
          exact e4
        rcases List.eq_nil_or_concat us with h0 | ⟨ui, u, h0⟩
        · obtain rfl := hn0 h0
          refine ⟨_, rfl, _, rfl, rfl, _, rfl, ?_⟩
          refine iteT ?_
          refine ⟨_, rfl, .inl ⟨rfl, _, SqL.of hU.at_⟩, _, rfl, _, rfl, _, rfl, (by show 3 ≤ sizeLine; decide), fun lx nlx => ?_⟩
          obtain ⟨a1, a2, a3, a4, a5⟩ := app lx nlx
          refine ⟨l, _, _, rfl, rfl, a1, small1000 (by rw [List.length_map]; omega), ?_⟩
          obtain ⟨b1, b2, b3, us', b4⟩ := fin _ us (lx, (e.hand, e.num, e.num)) a2 a3 a4 a5 rfl (by rw [h0]; rfl)
          refine ⟨_, rfl, _, rfl, _, rfl, l, _, -1, .ref lx, rfl, rfl, SqL.of a5.at_, by rw [List.map_append]; exact atI_last _ _, lx, _, 2, 2, rfl, rfl, a5.row (lx, (e.hand, e.num, e.num)) (by simp), rfl, ?_⟩
          exact ⟨_, rfl, _, _, _, _, _, _, us', rfl, b1, b2, b3, b4⟩
        · rw [List.concat_eq_append] at h0
          obtain rfl := hn1 ui u h0
          refine ⟨_, rfl, _, rfl, rfl, _, rfl, ?_⟩
          by_cases hh : u.2.1 = e.hand
          · rw [decide_eq_true (show V.int e.hand = V.int u.2.1 by rw [hh])]
            refine iteF ?_
            have hU' := hU
            rw [h0] at hU'
            obtain ⟨b1, b2, b3, us', b4⟩ := fin H4 ui u s4 k4 e4 hU' hh (by rw [h0, List.map_append]; exact (stepH_same hh).symm)
            refine ⟨_, rfl, _, rfl, _, rfl, l, _, -1, .ref u.1, rfl, rfl, SqL.of hU'.at_, by rw [List.map_append]; exact atI_last _ _, u.1, _, 2, 2, rfl, rfl, hU'.row u (by simp), rfl, ?_⟩
            exact ⟨_, rfl, _, _, _, _, _, _, us', rfl, b1, b2, b3, b4⟩
          · rw [decide_eq_false (show ¬ V.int e.hand = V.int u.2.1 from fun z => hh (by injection z with z; exact z.symm))]
            refine iteT ?_
            refine ⟨_, rfl, .inl ⟨rfl, _, SqL.of hU.at_⟩, _, rfl, _, rfl, _, rfl, (by show 3 ≤ sizeLine; decide), fun lx nlx => ?_⟩
            obtain ⟨a1, a2, a3, a4, a5⟩ := app lx nlx
            refine ⟨l, _, _, rfl, rfl, a1, small1000 (by rw [List.length_map]; omega), ?_⟩
            obtain ⟨b1, b2, b3, us', b4⟩ := fin _ us (lx, (e.hand, e.num, e.num)) a2 a3 a4 a5 rfl (by rw [h0, List.map_append]; exact (stepH_new hh).symm)
            refine ⟨_, rfl, _, rfl, _, rfl, l, _, -1, .ref lx, rfl, rfl, SqL.of a5.at_, by rw [List.map_append]; exact atI_last _ _, lx, _, 2, 2, rfl, rfl, a5.row (lx, (e.hand, e.num, e.num)) (by simp), rfl, ?_⟩
            exact ⟨_, rfl, _, _, _, _, _, _, us', rfl, b1, b2, b3, b4⟩
    · rintro σ H4 ⟨y3, y4, y5, y6, y7, lv, us, rfl, s4, k4, e4, hU, eus, hn0, hn1⟩
      rw [show (vs'.map fun u => V.ref u.1).length = L.length by rw [List.length_map, ← hL, List.length_map], List.take_length] at eus
      have hul : us.length ≤ 16 := by
        have h1 := congrArg List.length eus
        rw [List.length_map] at h1
        have h2 := turnsH_len L
        have h3 : L.length = vs'.length := by rw [← hL, List.length_map]
        omega
      refine ⟨_, rfl, l, rfl, ⟨_, SqL.of hU.at_⟩, fun M9 nM9 => ?_⟩
      refine lc_sameTM (walk_list (xs := us.map fun u => V.ref u.1)) us (fun u => [.int u.2.1, .int u.2.2.1, .int u.2.2.2]) (by rw [List.length_map]) (by omega) nM9 (fun H s => SqL.of (s _ _ hU.at_)) ?_ ?_
      · rintro i y x H5 H6 hy s5 ⟨rfl, hx⟩ Q1 q1
        rw [List.getElem?_map, hy] at hx
        injection hx with hx
        subst hx
        refine ⟨rfl, _, rfl, y.1, _, rfl, .inl ⟨SqL.of (s5 _ _ (hU.row y (List.mem_of_getElem? hy))), fun t8 nt8 => ?_⟩⟩
        exact q1 t8 _ (same_new nt8 _) upd_same
      intro H5 rs s5 eM9 ers hrs
      refine q M9 L H5 (s4.trans s5) (none_back s4 nM9) hby ⟨rs.map fun r => (r.1, r.2.2), ?_, ?_, fun r hr => ?_⟩
      · rw [eM9, List.map_map]
        rfl
      · rw [List.map_map, ← eus, ← ers, List.map_map]
        rfl
      · obtain ⟨r', hr', rfl⟩ := List.mem_map.mp hr
        exact hrs r' hr'
end
end Deed

namespace Deed
open PySem PySem.Spec PyProof.Rows L2 LamX
theorem count_filter {us : List (Addr × T3)} {l : List T3} (e : us.map (·.2) = l) (h : Int) : (us.filter fun y => decide (y.2.1 = h)).length = (l.map (·.1)).count h := by
  subst e
  induction us with
  | nil => rfl
  | cons u r ih =>
    rw [List.map_cons, List.map_cons, List.filter_cons, List.count_cons, ← ih]
    by_cases hu : u.2.1 = h
    · simp [hu]
    · simp [hu]
theorem ints_refl (l : List Int) : PyData.eqv (.list (l.map PyData.int)) (.list (l.map PyData.int)) = true := by rw [eqv_ints]; exact decide_eq_true rfl
section
variable {P : Program} {w : World} {K : PySem.W.Frag} {mg : Str → Option Value} {base : Heap} {T : List (Addr × Str)}
abbrev sLaw : Stmt := topS 20
abbrev nLaw : List Str := ["_law_script", "_law_k", "_law_pen_here", "_law_book_here", "_law_one", "_law_due", "_law_often", "_law_hand", "_law_turn", "_law_row", "_law_hands", "_law_mixed_here"]
abbrev pLaw : List Str := ["_law_script"]
theorem scLaw : FnScope nLaw pLaw (defScope sLaw) := ⟨rfl, rfl, rfl, by decide +kernel, rfl, by decide +kernel, by decide +kernel⟩
def spLaw (K : PySem.W.Frag) (T : List (Addr × Str)) : Sp := fun vs H Q _ => ∃ (a : Addr) (ns : List Int), vs = [.ref a] ∧ SqL K H a (ns.map V.int) ∧ ns.length ≤ 63 ∧ Tabs T H ∧ ∀ H', Q (.bl true) H'
theorem ok_law {f : Addr} {fd : FuncData} {k : Nat} (F : Fun K "law" "law" sLaw f fd) (C__law_cell_at : CallOk P w K mg base k "_law_cell_at" ["_law_script", "_law_k"] (spCell K)) (C__law_pen : CallOk P w K mg base k "_law_pen" ["_law_cell"] spPen) (C__law_book : CallOk P w K mg base k "_law_book" pBook spBook) (C__law_near : CallOk P w K mg base k "_law_near" pLNear spLNear) (C__law_turns : CallOk P w K mg base k "_law_turns" pLTurns spLTurns)
    (C_turns_of : CallOk P w K mg base k "turns_of" pTurnsOf (spTurnsOf T)) (C_often_hands : CallOk P w K mg base k "often_hands" pOften (spOften T)) (C__law_mixed : CallOk P w K mg base k "_law_mixed" ["_law_pen_here", "_law_some"] (spMixed K))
    (m_len : mg "len" = none) (m_min : mg "min" = none) (m_max : mg "max" = none) (m_range : mg "range" = none) (m_tuple : mg "tuple" = none) : FnOk P w K mg base CX0 (k + 1) f fd pLaw (spLaw K T) := by
  refine F.ok scLaw (fun vs H Q E h => ?_) (fun cdv A outer s H vs Q E hr h => ?_)
  · obtain ⟨a, ns, rfl, _⟩ := h
    rfl
  · obtain ⟨a, ns, rfl, hS, h63, hT, q⟩ := h
    have nd := scLaw.nd
    refine ⟨_, pss_cons (ps_for PassesOwn.never rfl (pi_range1 rfl m_range (pa_cons (pe_callB (call_max2 rfl) (by rfl) m_max (by decide +kernel) (pa_cons pe_int (pa_cons (pe_callB (call_min2 rfl) (by rfl) m_min (by decide +kernel) (pa_cons (pe_callB call_len_seq (by rfl) m_len (by decide +kernel) (pa_cons (pv 0) pa_nil)) (pa_cons pe_int pa_nil))) pa_nil))) pa_nil)) (pg_name (i := 1) nd rfl (.inl rfl))
        (pss_cons (ps_set (i := 2) nd rfl (.inl rfl) (pe_call C__law_pen.ok hr (by rfl) C__law_pen.g C__law_pen.kp C__law_pen.b .nil pass0 (pa_cons (pe_call C__law_cell_at.ok hr (by rfl) C__law_cell_at.g C__law_cell_at.kp C__law_cell_at.b .nil pass0 (pa_cons (pv 0) (pa_cons (pv 1) pa_nil))) pa_nil)))
      (pss_cons (ps_set (i := 3) nd rfl (.inl rfl) (pe_call C__law_book.ok hr (by rfl) C__law_book.g C__law_book.kp C__law_book.b .nil pass0 (pa_cons (pv 2) (pa_cons pe_int pa_nil))))
      (pss_one (ps_for PassesOwn.never rfl (pi_tup (pe_tup (pa_cons (pv 3) (pa_cons (pe_call C__law_near.ok hr (by rfl) C__law_near.g C__law_near.kp C__law_near.b .nil pass0 (pa_cons (pv 2) (pa_cons (pv 3) pa_nil))) pa_nil)))) (pg_name (i := 4) nd rfl (.inl rfl))
        (pss_cons (ps_set (i := 5) nd rfl (.inl rfl) (pe_call C__law_turns.ok hr (by rfl) C__law_turns.g C__law_turns.kp C__law_turns.b .nil pass0 (pa_cons (pv 4) pa_nil)))
      (pss_cons (ps_set (i := 6) nd rfl (.inl rfl) (pe_lst pa_nil))
      (pss_cons (ps_for PassesOwn.never rfl (pi_range1 rfl m_range (pa_cons pe_int pa_nil)) (pg_name (i := 7) nd rfl (.inr rfl))
        (pss_one (ps_if (pt_cmpR op_gt (pe_callB call_len_seq (by rfl) m_len (by decide +kernel) (pa_cons (pe_lc (own := [("_law_row", 9)]) (g := gName 9) (by rfl) nd (pi_list (pv 5)) (blkOk_by (own := [("_law_row", 9)]) (N := nLaw) (sc := defScope sLaw) (by decide +kernel)) (fun _ _ _ _ _ => (pg_name (i := 9) nd rfl (.inl rfl))) (fun _ _ _ _ _ => (pts_one (pt_cmpR op_eq (pe_ix (ix_tupK (K := K) (by rfl)) (pv 9) pe_int (fun _ _ => rfl)) (pv 7) (nomark _))))
          (fun _ _ _ _ _ => (pv 9))) pa_nil)) pe_int (nomark _)) (pss_one (ps_expr (pe_bm PySem.F.plainAttrs_list PySem.F.slot_list_append PySem.F.type_list_append mt_append (pv 6) (pa_cons (pv 7) pa_nil)))) pss_nil)))
      (pss_cons (ps_for PassesOwn.never rfl (pi_range1 rfl m_range (pa_cons pe_int pa_nil)) (pg_name (i := 8) nd rfl (.inl rfl))
        (pss_cons (ps_par (i := 9) (j := 10) (by rfl) nd rfl rfl (by decide) rfl rfl (pa_cons (pe_call C_turns_of.ok hr (by rfl) C_turns_of.g C_turns_of.kp C_turns_of.b .nil pass0 (pa_cons (pv 4) pa_nil)) (pa_cons (pe_call C_often_hands.ok hr (by rfl) C_often_hands.g C_often_hands.kp C_often_hands.b .nil pass0 (pa_cons (pv 4) pa_nil)) pa_nil)) (by rfl))
      (pss_cons (ps_if (PW.pt (pw_or (pt_cmpR (op_neD hr.units) (pv 9) (pv 5) (nomark _)) (pw_or1 (pt_cmpR (op_neD hr.units) (pv 10) (pv 6) (nomark _))))) (pss_one (ps_ret pe_bl)) pss_nil)
      (pss_cons (ps_expr (pe_bm PySem.F.plainAttrs_list PySem.F.slot_list_append PySem.F.type_list_append mt_append (pv 9) (pa_cons (pe_tup pa_nil) pa_nil)))
      (pss_one (ps_expr (pe_bm PySem.F.plainAttrs_list PySem.F.slot_list_append PySem.F.type_list_append mt_append (pv 10) (pa_cons pe_int pa_nil))))))))
      (pss_cons (ps_set (i := 11) nd rfl (.inl rfl) (pe_tup (pa_cons (pe_ix ix_tup (pv 4) pe_int (fun _ _ => rfl)) (pa_cons (pe_ix ix_tup (pv 4) pe_int (fun _ _ => rfl)) (pa_cons (pe_callTy call_tuple_of (by rfl) m_tuple (by decide +kernel) (pa_cons (pe_call C__law_mixed.ok hr (by rfl) C__law_mixed.g C__law_mixed.kp C__law_mixed.b .nil pass0 (pa_cons (pv 2) (pa_cons (pe_ix ix_tup (pv 4) pe_int (fun _ _ => rfl)) pa_nil))) pa_nil)) pa_nil)))))
      (pss_one (ps_if (PW.pt (pw_or (pt_cmpR (op_neD hr.units) (pe_call C_turns_of.ok hr (by rfl) C_turns_of.g C_turns_of.kp C_turns_of.b .nil pass0 (pa_cons (pv 11) pa_nil)) (pv 5) (nomark _)) (pw_or1 (pt_cmpR (op_neD hr.units) (pe_call C_often_hands.ok hr (by rfl) C_often_hands.g C_often_hands.kp C_often_hands.b .nil pass0 (pa_cons (pv 11) pa_nil)) (pv 6) (nomark _))))) (pss_one (ps_ret pe_bl)) pss_nil))))))))))))
      (pss_one (ps_ret pe_bl)), ?_⟩
    have hl : (ns.map V.int).length = ns.length := List.length_map _
    refine ⟨_, rfl, a, _, rfl, .inl hS, _, _, rfl, _, _, rfl, ?_⟩
    rw [hl]
    obtain ⟨tn, etn, ht0, ht3⟩ := turns3 ns.length
    rw [etn]
    refine ⟨_, rfl, by omega, by omega, ?_⟩
    refine for_range (lo := 0) (n := tn.toNat) (fun i σ H' => ∃ y1 y2 y3 y4 y5 y6 y7 y8 y9 y10 y11, σ = [some (.ref a), y1, y2, y3, y4, y5, y6, y7, y8, y9, y10, y11] ∧ ExtN H H' ∧ Tabs T H') ⟨_, _, _, _, _, _, _, _, _, _, _, rfl, ExtN.refl H, hT⟩ ?_ (fun σ H' _ => q H')
    rintro i σ H' hi ⟨y1, y2, y3, y4, y5, y6, y7, y8, y9, y10, y11, rfl, eN, T'⟩
    refine ⟨_, rfl, _, rfl, a, ns, _, rfl, ExtN.sqL eN hS, by omega, fun cv => ?_⟩
    refine ⟨cv, rfl, fun p H1 s1 np P1 => ?_⟩
    have T1 : Tabs T H1 := T'.ext s1
    refine ⟨_, rfl, p, 16, rfl, P1, by decide, by decide, fun b fk t n age zs H2 k2 P2 hB2 _ => ?_⟩
    have T2 : Tabs T H2 := Tabs.kp T1 k2 P1
    have e2 : ExtN H' H2 := ExtN.kp (ExtN.of s1) np k2
    refine ⟨_, rfl, _, rfl, _, rfl, p, b, fk, t, n, age, zs, rfl, P2, hB2, fun b' t' zs' H3 k3 P3 hB3' => ?_⟩
    have T3' : Tabs T H3 := Tabs.kp T2 k3 P2
    refine ⟨(by show 2 ≤ sizeLine; decide), fun tt ntt => ?_⟩
    have s4 := same_new ntt (.tup [.ref b, .ref b'])
    have ett : (upd H3 tt (.tup [.ref b, .ref b'])) tt = some (.tup [.ref b, .ref b']) := upd_same
    generalize upd H3 tt (.tup [.ref b, .ref b']) = H4 at s4 ett
    have P4 : PenAt H4 p := ExtN.pen (.of s4) P3
    have T4 := T3'.ext s4
    have e3 : ExtN H' H3 := fun b0 o0 h0 ht => k3 b0 o0 (ne_of_none h0 np) (e2 b0 o0 h0 ht)
    have e4 : ExtN H' H4 := e3.trans (.of s4)
    have hB4 := (hB2.kp (k3.tup P2)).kp (Same.tup s4)
    have hB4' := hB3'.kp (Same.tup s4)
    refine ⟨tt, rfl, ⟨_, SqT.of ett⟩, ?_⟩
    refine for_tup (K := K) (a := tt) (xs := [.ref b, .ref b']) (fun j σ H' => ∃ y4 y5 y6 y7 y8 y9 y10 y11, σ = [some (.ref a), some (.int (0 + (i : Int))), some (.ref p), some (.ref b), y4, y5, y6, y7, y8, y9, y10, y11] ∧ XP p H4 H' ∧ PenAt H' p ∧ Tabs T H') ⟨_, _, _, _, _, _, _, _, rfl, XP.refl _ _, P4, T4⟩ (fun j σ H' _ h => ?_) ?_ ?_
    · obtain ⟨_, _, _, _, _, _, _, _, _, x5, _⟩ := h
      exact SqT.of (x5.tup P4 _ _ ett)
    · rintro j x σ H5 hx ⟨z4, z5, z6, z7, z8, z9, z10, z11, rfl, x5, P5, T5⟩
      obtain ⟨c, ct, ws, rfl, hC4⟩ : ∃ c ct ws, x = .ref c ∧ BookAt H4 c fk ct n age ws := by
        have hm := List.mem_of_getElem? hx
        simp only [List.mem_cons, List.not_mem_nil, or_false] at hm
        rcases hm with h | h
        · exact ⟨b, t, zs, h, hB4⟩
        · exact ⟨b', t', zs', h, hB4'⟩
      have hC5 := hC4.kp (x5.tup P4)
      refine ⟨_, rfl, c, fk, ct, n, age, ws, rfl, hC5, fun du L H6 s6 ndu hby hdu => ?_⟩
      obtain ⟨us, edu, eus, hus⟩ := id hdu
      have hul : us.length ≤ 1000 := by
        have h1 := congrArg List.length eus
        rw [List.length_map] at h1
        have h2 := turnsH_len L
        have h3 : L.length ≤ 16 := by
          have h4 := nodup_len (l := L.map (·.num)) (m := (ens ws).map (·.num)) (by
            rw [List.nodup_iff_pairwise_ne, List.pairwise_map]
            refine List.Pairwise.imp_of_mem ?_ hby.up
            intro a c ha hc hl hz
            have := num_inj hC5.ok ((hby.mem a).mp ha) ((hby.mem c).mp hc) hz
            rw [this] at hl
            unfold Lex at hl
            omega) fun x hx => by
              obtain ⟨u, hu, rfl⟩ := List.mem_map.mp hx
              exact List.mem_map.mpr ⟨u, (hby.mem u).mp hu, rfl⟩
          rw [List.length_map, List.length_map, List.length_map] at h4
          have := hC5.len
          omega
        omega
      refine ⟨Nat.zero_le _, fun lo nlo => ?_⟩
      have s7 := same_new nlo (.lst [])
      have elo : (upd H6 lo (.lst [])) lo = some (.lst []) := upd_same
      generalize upd H6 lo (.lst []) = H7 at s7 elo
      -- which hands have several
      refine ⟨4, rfl, by decide, by decide, ?_⟩
      refine for_range (lo := 0) (n := (4 : Int).toNat) (fun j2 σ H' => ∃ y7 y8 y9 y10 y11, σ = [some (.ref a), some (.int (0 + (i : Int))), some (.ref p), some (.ref b), some (.ref c), some (.ref du), some (.ref lo), y7, y8, y9, y10, y11] ∧ Same H6 H' ∧ H' lo = some (.lst (((((List.range 4).map fun i : Nat => (i : Int)).take j2).filter fun h => decide (1 < ((turnsH L).map (·.1)).count h)).map V.int))) ⟨_, _, _, _, _, rfl, s7, elo⟩ ?_ ?_
      · rintro j2 σ H8 hj2 ⟨w7, w8, w9, w10, w11, rfl, s8, elo8⟩
        have edu8 := s8 _ _ edu
        refine ⟨_, rfl, du, rfl, ⟨_, SqL.of edu8⟩, fun M nM => ?_⟩
        refine lc_sameV (walk_list (xs := us.map fun z => V.ref z.1)) us (fun y => decide (y.2.1 = 0 + (j2 : Int))) (fun y => .ref y.1) (by rw [List.length_map]) hul nM (fun H s => SqL.of (s _ _ edu8)) ?_ ?_
        · rintro i3 y x H9 H10 hy s9 ⟨rfl, hx⟩ Q1 Q0 q1 q0
          rw [List.getElem?_map, hy] at hx
          injection hx with hx
          subst hx
          refine ⟨rfl, _, rfl, y.1, _, _, _, rfl, rfl, SqT.of (s9 _ _ (s8 _ _ (hus y (List.mem_of_getElem? hy)))), (atI_nat (j := 0) rfl), _, rfl, rfl, _, rfl, ?_⟩
          refine ite2 (fun c => ?_) (fun c => ?_)
          · exact ⟨_, rfl, q1 (decide_eq_true (by have := of_decide_eq_true c; injection this)) _ (same_refl _)⟩
          · exact q0 (decide_eq_false fun z => c (decide_eq_true (by rw [z]))) _ (same_refl _)
        intro H9 s9 eM
        have hcnt := count_filter eus (0 + (j2 : Int))
        refine ⟨M, _, rfl, .inl (SqL.of eM), _, _, rfl, rfl, _, rfl, ?_⟩
        rw [List.length_map, hcnt]
        have hj4 : j2 < 4 := hj2
        have hnx : ((List.range 4).map fun i : Nat => (i : Int))[j2]? = some (0 + (j2 : Int)) := by
          rw [List.getElem?_map, List.getElem?_range hj4]
          simp
        rw [take_filter hnx]
        have elo9 := s9 _ _ elo8
        refine ite2 (fun c => ?_) (fun c => ?_)
        · have hc : decide (1 < ((turnsH L).map (·.1)).count (0 + (j2 : Int))) = true := decide_eq_true (by have := of_decide_eq_true c; omega)
          rw [hc]
          refine ⟨_, rfl, .inl ⟨rfl, _, SqL.of elo9⟩, _, rfl, lo, _, _, rfl, rfl, elo9, small1000 ?_, ?_⟩
          · rw [List.length_map]
            have h1 := List.length_filter_le (fun h => decide (1 < ((turnsH L).map (·.1)).count h)) (((List.range 4).map fun i : Nat => (i : Int)).take j2)
            rw [List.length_take, List.length_map, List.length_range] at h1
            omega
          · refine ⟨_, _, _, _, _, rfl, same_put nlo (s8.trans s9) _, ?_⟩
            rw [upd_same, List.map_append]
            rfl
        · have hc : decide (1 < ((turnsH L).map (·.1)).count (0 + (j2 : Int))) = false := decide_eq_false (fun z => c (decide_eq_true (by omega)))
          rw [hc]
          refine ⟨_, _, _, _, _, rfl, s8.trans s9, ?_⟩
          rw [elo9]
          simp
      rintro σ H8 ⟨w7, w8, w9, w10, w11, rfl, s8, elo8⟩
      have elo8' : H8 lo = some (.lst ((oftenH (turnsH L)).map V.int)) := elo8
      have hol : (oftenH (turnsH L)).length ≤ 4 := by
        have h1 := List.length_filter_le (fun h => decide (1 < ((turnsH L).map (·.1)).count h)) ((List.range 4).map fun i : Nat => (i : Int))
        rw [List.length_map, List.length_range] at h1
        exact h1
      have s58 : Same H5 H8 := s6.trans s8
      have hC8 := hC5.kp (Same.tup s58)
      have T8 := T5.ext s58
      have hdu8 := hdu.extN (.of s8)
      have P8 : PenAt H8 p := ExtN.pen (.of s58) P5
      -- twice
      refine ⟨2, rfl, by decide, by decide, ?_⟩
      refine for_range (lo := 0) (n := (2 : Int).toNat) (fun j2 σ H' => ∃ y7 y8 y9 y10 y11, σ = [some (.ref a), some (.int (0 + (i : Int))), some (.ref p), some (.ref b), some (.ref c), some (.ref du), some (.ref lo), y7, y8, y9, y10, y11] ∧ ExtN H8 H' ∧ Tabs T H') ⟨_, _, _, _, _, rfl, ExtN.refl _, T8⟩ ?_ ?_
      · rintro j2 σ H9 hj2 ⟨u7, u8, u9, u10, u11, rfl, e9, T9⟩
        have hC9 := hC8.kp (ExtN.tup e9)
        refine ⟨_, rfl, c, fk, ct, n, age, ws, rfl, hC9, T9, fun q1 L1 H10 e10 T10 f10 hb10 hq1 => ?_⟩
        obtain rfl := hby.one hb10
        refine ⟨_, rfl, c, fk, ct, n, age, ws, rfl, hC9.kp (ExtN.tup e10), T10, fun q2 L2 H11 e11 T11 f11 hb11 hq2 => ⟨_, _, rfl, ?_⟩⟩
        obtain rfl := hby.one hb11
        have e911 := e9.trans (e10.trans e11)
        have hq1' := hq1.extN e11
        have eloN := e911 _ _ elo8' fun ps z => by cases z
        refine ⟨_, rfl, _, rfl, t3Data _, t3Data _, hq1'.dp, (hdu8.extN e911).dp, t3_shaped _, t3_shaped _, _, rfl, ?_⟩
        rw [t3_refl]
        refine iteF ?_
        refine ⟨_, rfl, _, rfl, .list ((oftenH (turnsH L)).map PyData.int), .list ((oftenH (turnsH L)).map PyData.int), .lst (SqL.of hq2) (dp_ints _), .lst (SqL.of eloN) (dp_ints _), shaped_ints _, shaped_ints _, _, rfl, ?_⟩
        rw [ints_refl]
        refine iteF ?_
        obtain ⟨us1, eq1, eu1, _⟩ := hq1
        have nlt : ∀ xs : List V, ∀ ps, HO.lst xs ≠ .tbl ps := fun xs ps z => by cases z
        have n12 : q1 ≠ q2 := f11.ne eq1 (nlt _)
        have eq1' := e11 _ _ eq1 (nlt _)
        have hul1 : us1.length ≤ 1000 := by
          have h1 := congrArg List.length (eu1.trans eus.symm)
          rw [List.length_map, List.length_map] at h1
          omega
        refine ⟨_, rfl, .inl ⟨rfl, _, SqL.of eq1'⟩, Nat.zero_le _, fun tp ntp => ?_⟩
        have s12 := same_new ntp (.tup [])
        generalize upd H11 tp (.tup []) = H12 at s12
        have u1 := s12 _ _ eq1'
        have u2 := s12 _ _ hq2
        refine ⟨q1, _, _, rfl, rfl, u1, small1000 (by rw [List.length_map]; omega), ?_⟩
        have u3 : (upd H12 q1 (.lst ((us1.map fun z => V.ref z.1) ++ [.ref tp]))) q2 = some (.lst ((oftenH (turnsH L)).map V.int)) := by rw [upd_ne n12.symm]; exact u2
        refine ⟨_, rfl, .inl ⟨rfl, _, SqL.of u3⟩, q2, _, _, rfl, rfl, u3, small1000 (by rw [List.length_map]; omega), ?_⟩
        have e12 : ExtN H8 H12 := e911.trans (.of s12)
        exact ⟨_, _, _, _, _, rfl, ExtN.put (ExtN.put e12 (Fresh.up e9 f10) _) (Fresh.up (e9.trans e10) f11) _, Tabs.put (Tabs.put (T11.ext s12) u1 _) u3 _⟩
      rintro σ H9 ⟨u7, u8, u9, u10, u11, rfl, e9, T9⟩
      have hC9 := hC8.kp (ExtN.tup e9)
      have P9 : PenAt H9 p := ExtN.pen e9 P8
      refine ⟨_, rfl, c, _, _, _, rfl, rfl, SqT.of hC9.at_, (atI_nat (j := 0) rfl), _, rfl, c, _, _, _, rfl, rfl, SqT.of hC9.at_, (atI_nat (j := 1) rfl), _, rfl, _, rfl, c, _, _, _, rfl, rfl, SqT.of hC9.at_, (atI_nat (j := 2) rfl), p, ct, _, rfl, P9, .inr (SqT.of hC9.ents), ?_, fun lm ym H10 k10 P10 nlm elm pm => ?_⟩
      · rw [List.length_map]
        have := hC9.len
        omega
      obtain ⟨ws', rfl, pm2⟩ := perm_pairs (fun z : Addr × En => V.ref z.1) pm ws rfl
      refine ⟨lm, _, rfl, .inl ⟨SqL.of elm, fun t5 nt5 => ?_⟩⟩
      have k11 : Kp p H10 _ := Kp.new nt5 (.tup (refs ws'))
      have P11 := P10.new nt5 (.tup (refs ws'))
      have et5 : (upd H10 t5 (.tup (refs ws'))) t5 = some (.tup (refs ws')) := upd_same
      generalize upd H10 t5 (.tup (refs ws')) = H11 at k11 P11 et5
      refine ⟨(by show 3 ≤ sizeLine; decide), fun t6 nt6 => ?_⟩
      have k12 : Kp p H11 _ := Kp.new nt6 (.tup [.ref fk, .int age, .ref t5])
      have P12 := P11.new nt6 (.tup [.ref fk, .int age, .ref t5])
      have et6 : (upd H11 t6 (.tup [.ref fk, .int age, .ref t5])) t6 = some (.tup [.ref fk, .int age, .ref t5]) := upd_same
      generalize upd H11 t6 (.tup [.ref fk, .int age, .ref t5]) = H12 at k12 P12 et6
      have k912 := k10.trans (k11.trans k12)
      have kt := k912.tup P9
      have hC12 := hC9.kp kt
      have hD : BookAt H12 t6 fk t5 n age ws' := ⟨et6, hC12.folk, hC12.n2, hC12.n6, hC12.age0, hC12.age1, k12.tup P11 _ _ et5, fun z hz => hC12.ent z (pm2.mem_iff.mp hz), hC12.ok.perm (pm2.map _), by rw [pm2.length_eq]; exact hC12.len⟩
      have T12 : Tabs T H12 := Tabs.kp T9 k912 P9
      have hmem : ∀ x, x ∈ ens ws' ↔ x ∈ ens ws := fun x => (pm2.map _).mem_iff
      have ndp : du ≠ p := fun z => by
        obtain ⟨x1, x2, x3, x4, hx, _⟩ := P5
        rw [z, hx] at ndu
        cases ndu
      have nlp : lo ≠ p := fun z => by
        obtain ⟨x1, x2, x3, x4, hx, _⟩ := ExtN.pen (.of s6) P5
        rw [z, hx] at nlo
        cases nlo
      have x912 : XP p H9 H12 := XP.ofK k912
      have hdu12 : T3At H12 du (turnsH L) := by
        obtain ⟨v1, v2, v3, v4⟩ := hdu8.extN e9
        exact ⟨v1, k912 _ _ ndp v2, v3, fun z hz => kt _ _ (v4 z hz)⟩
      have elo12 : H12 lo = some (.lst ((oftenH (turnsH L)).map V.int)) := k912 _ _ nlp (e9 _ _ elo8' fun ps z => by cases z)
      refine ⟨_, rfl, t6, fk, t5, n, age, ws', rfl, hD, T12, fun q1 L1 H13 e13 T13 f13 hb13 hq1 => ?_⟩
      obtain rfl := hby.one ⟨hb13.up, fun x => (hb13.mem x).trans (hmem x)⟩
      refine ⟨_, rfl, t3Data _, t3Data _, hq1.dp, (hdu12.extN e13).dp, t3_shaped _, t3_shaped _, _, rfl, ?_⟩
      rw [t3_refl]
      refine iteF ?_
      refine ⟨_, rfl, t6, fk, t5, n, age, ws', rfl, hD.kp (ExtN.tup e13), T13, fun q2 L2 H14 e14 T14 f14 hb14 hq2 => ?_⟩
      obtain rfl := hby.one ⟨hb14.up, fun x => (hb14.mem x).trans (hmem x)⟩
      have eloE := e14 _ _ (e13 _ _ elo12 fun ps z => by cases z) fun ps z => by cases z
      refine ⟨_, rfl, .list ((oftenH (turnsH L)).map PyData.int), .list ((oftenH (turnsH L)).map PyData.int), .lst (SqL.of hq2) (dp_ints _), .lst (SqL.of eloE) (dp_ints _), shaped_ints _, shaped_ints _, _, rfl, ?_⟩
      rw [ints_refl]
      refine iteF ?_
      have e1214 := e13.trans e14
      exact ⟨_, _, _, _, _, _, _, _, rfl, x5.trans ((XP.ofS s58).trans ((XP.ofN e9).trans (x912.trans (XP.ofN e1214)))), ExtN.pen e1214 P12, T14⟩
    · rintro σ H5 ⟨z4, z5, z6, z7, z8, z9, z10, z11, rfl, x5, P5, T5⟩
      exact ⟨_, _, _, _, _, _, _, _, _, _, _, rfl, eN.trans (XP.toN e4 np x5), T5⟩
end
end Deed

namespace Deed
open PySem PySem.Spec PyProof.Rows L2 LamX
/-! ### the end: the facts by names -/
def mkD (x : Str) (st : Stmt) : He.DefD := ⟨(x, none), x, x, defArgs st, defBody st, defScope st, [], []⟩
def mkDd (x : Str) (st : Stmt) (dfl : List He.Dv) : He.DefD := ⟨(x, none), x, x, defArgs st, defBody st, defScope st, dfl, []⟩
def fnAll : List He.DefD := [mkD "_law_cell_at" sCell, mkD "_law_pen" sPen, mkD "_law_draw" sDraw, mkD "_law_day" sDay, mkD "_law_folk" sFolk, mkD "_law_mixed" sMixed, mkD "_law_few" sFew, mkD "_law_deed" sDeed, mkD "_law_act" sAct, mkD "_law_book" sBook, mkD "turns_of" sTurnsOf, mkD "often_hands" sOften, mkD "_law_near" sLNear, mkD "_law_turns" sLTurns, mkD "law" sLaw]
def faAll : List He.Fa := [.glo "_law_cell_at", .glo "_law_pen", .glo "_law_draw", .glo "_law_day", .glo "_law_folk", .glo "_law_mixed", .glo "_law_few", .glo "_law_deed", .glo "_law_act", .glo "_law_book", .glo "turns_of", .glo "often_hands", .glo "_law_near", .glo "_law_turns", .glo "law", .free "range", .free "min", .free "max", .free "tuple", .free "list", .free "len", .free "sorted", .free "int", .int "NUMBER" 0, .int "WRITTEN" 2, .int "HAND" 3, .int "LAST_HAND" 3]
def tfAll : List He.Defn := [("turns_of", none)]
abbrev tsAll : List He.Tab := []
def exAll (K : PySem.W.Frag) : Bool := true
abbrev rowR : PySem.W.OpenRow := PySem.W.OpenLaw.row PySem.Challenge.rw_deedsheaf_k47_turns_of_hands
abbrev hk : PySem.W.Hook := He.hookX 4 faAll fnAll tsAll tfAll exAll
def ob (s : PySem.W.SharedT) : He.AlX := He.obsX 4 faAll fnAll tsAll tfAll exAll (HandSHeadRun.getT s)
theorem ob_eq (s : PySem.W.SharedT) : ob s = hk.obs s.abs := He.obsX_eq (HandSHeadRun.getT_eq s)
def looseAll : List Str := (["NUMBER", "WRITTEN", "HAND", "LAST_HAND", "turns_of", "often_hands", "_law_pen", "_law_cell_at", "_law_draw", "_law_folk", "_law_mixed", "_law_day"] : List Str) ++ (["_law_few", "_law_deed", "_law_act", "_law_book", "_law_near", "_law_turns"] : List Str)
theorem run (w : World) : HandSHeadRun.RunEq rowR (PySem.W.view rowR.prog [20]) hk ob 9000 looseAll w := by
  intro os
  kernel_rfl
theorem funOf {K : PySem.W.Frag} {x : Str} {st : Stmt} {f : Addr} {fd : FuncData} (F : FunD K x x (defArgs st) (defBody st) (defScope st) [] [] f fd) : Fun K x x st f fd := by
  obtain ⟨oc, od, dV, kV, doc, pm, an, cdv, ct, osl, e, lk, hcd, hD, hK⟩ := F.ex
  rcases hD with ⟨_, hD⟩ | ⟨hD, _⟩
  · subst hD
    exact ⟨⟨oc, od, kV, doc, pm, an, cdv, ct, osl, e, lk, hcd⟩, F.kp⟩
  · exact absurd rfl hD
theorem codeAt {K : PySem.W.Frag} {x : Str} {st : Stmt} {p : He.Defn} {fd : FuncData} (F : Fun K x x st (He.fAd K p) fd) : fd.code = .ref (He.cT K p).1 := by
  obtain ⟨oc, od, kV, doc, pm, an, cdv, ct, osl, e, lk, hcd⟩ := F.ex
  obtain ⟨c, ec⟩ := He.codeIn_ref hcd
  have e2 : fd.code = .ref c := by rw [e, ← ec]
  rw [show (He.cT K p).1 = c from He.codeOf_eq lk e2]
  exact e2
theorem facts {l : PySem.W.OpenLaw} {w : World} {K : PySem.W.Frag} {h : Heap} {mg : Str → Option Value} {f : Addr} (X : K.In h) (G : h.Ns mainGlobals mg) (hfa : mg ("law" : Str) = some (.ref f)) (c : He.SaysX faAll fnAll tsAll tfAll exAll w h K) : LawAtS l w K CX0 12 63 "_law_script" mg f h := by
  obtain ⟨d0, F0'⟩ := c.t.d.def_ 0 (d := mkD "_law_cell_at" sCell) rfl
  have g0 := He.glo_ok X G (c.t.d.fact 0 (f := .glo "_law_cell_at") rfl)
  have F0 : Fun K "_law_cell_at" "_law_cell_at" sCell (He.fAd K ("_law_cell_at", none)) d0 := funOf F0'
  have D0 : Df K mg "_law_cell_at" sCell ["_law_script", "_law_k"] _ d0 := ⟨F0, F0.binds (ps := ["_law_script", "_law_k"]) (fun _ _ _ _ _ _ us hl => match us, hl with | [_, _], _ => rfl), g0⟩
  obtain ⟨d1, F1'⟩ := c.t.d.def_ 1 (d := mkD "_law_pen" sPen) rfl
  have g1 := He.glo_ok X G (c.t.d.fact 1 (f := .glo "_law_pen") rfl)
  have F1 : Fun K "_law_pen" "_law_pen" sPen (He.fAd K ("_law_pen", none)) d1 := funOf F1'
  have D1 : Df K mg "_law_pen" sPen ["_law_cell"] _ d1 := ⟨F1, F1.binds (ps := ["_law_cell"]) (fun _ _ _ _ _ _ us hl => match us, hl with | [_], _ => rfl), g1⟩
  obtain ⟨d2, F2'⟩ := c.t.d.def_ 2 (d := mkD "_law_draw" sDraw) rfl
  have g2 := He.glo_ok X G (c.t.d.fact 2 (f := .glo "_law_draw") rfl)
  have F2 : Fun K "_law_draw" "_law_draw" sDraw (He.fAd K ("_law_draw", none)) d2 := funOf F2'
  have D2 : Df K mg "_law_draw" sDraw ["_law_pen_here", "_law_bound"] _ d2 := ⟨F2, F2.binds (ps := ["_law_pen_here", "_law_bound"]) (fun _ _ _ _ _ _ us hl => match us, hl with | [_, _], _ => rfl), g2⟩
  obtain ⟨d3, F3'⟩ := c.t.d.def_ 3 (d := mkD "_law_day" sDay) rfl
  have g3 := He.glo_ok X G (c.t.d.fact 3 (f := .glo "_law_day") rfl)
  have F3 : Fun K "_law_day" "_law_day" sDay (He.fAd K ("_law_day", none)) d3 := funOf F3'
  have D3 : Df K mg "_law_day" sDay ["_law_pen_here"] _ d3 := ⟨F3, F3.binds (ps := ["_law_pen_here"]) (fun _ _ _ _ _ _ us hl => match us, hl with | [_], _ => rfl), g3⟩
  obtain ⟨d4, F4'⟩ := c.t.d.def_ 4 (d := mkD "_law_folk" sFolk) rfl
  have g4 := He.glo_ok X G (c.t.d.fact 4 (f := .glo "_law_folk") rfl)
  have F4 : Fun K "_law_folk" "_law_folk" sFolk (He.fAd K ("_law_folk", none)) d4 := funOf F4'
  have D4 : Df K mg "_law_folk" sFolk ["_law_pen_here", "_law_least"] _ d4 := ⟨F4, F4.binds (ps := ["_law_pen_here", "_law_least"]) (fun _ _ _ _ _ _ us hl => match us, hl with | [_, _], _ => rfl), g4⟩
  obtain ⟨d5, F5'⟩ := c.t.d.def_ 5 (d := mkD "_law_mixed" sMixed) rfl
  have g5 := He.glo_ok X G (c.t.d.fact 5 (f := .glo "_law_mixed") rfl)
  have F5 : Fun K "_law_mixed" "_law_mixed" sMixed (He.fAd K ("_law_mixed", none)) d5 := funOf F5'
  have D5 : Df K mg "_law_mixed" sMixed ["_law_pen_here", "_law_some"] _ d5 := ⟨F5, F5.binds (ps := ["_law_pen_here", "_law_some"]) (fun _ _ _ _ _ _ us hl => match us, hl with | [_, _], _ => rfl), g5⟩
  obtain ⟨d6, F6'⟩ := c.t.d.def_ 6 (d := mkD "_law_few" sFew) rfl
  have g6 := He.glo_ok X G (c.t.d.fact 6 (f := .glo "_law_few") rfl)
  have F6 : Fun K "_law_few" "_law_few" sFew (He.fAd K ("_law_few", none)) d6 := funOf F6'
  have D6 : Df K mg "_law_few" sFew ["_law_pen_here", "_law_some", "_law_most"] _ d6 := ⟨F6, F6.binds (ps := ["_law_pen_here", "_law_some", "_law_most"]) (fun _ _ _ _ _ _ us hl => match us, hl with | [_, _, _], _ => rfl), g6⟩
  obtain ⟨d7, F7'⟩ := c.t.d.def_ 7 (d := mkD "_law_deed" sDeed) rfl
  have g7 := He.glo_ok X G (c.t.d.fact 7 (f := .glo "_law_deed") rfl)
  have F7 : Fun K "_law_deed" "_law_deed" sDeed (He.fAd K ("_law_deed", none)) d7 := funOf F7'
  have D7 : Df K mg "_law_deed" sDeed ["_law_pen_here", "_law_number", "_law_folk_here", "_law_deeds"] _ d7 := ⟨F7, F7.binds (ps := ["_law_pen_here", "_law_number", "_law_folk_here", "_law_deeds"]) (fun _ _ _ _ _ _ us hl => match us, hl with | [_, _, _, _], _ => rfl), g7⟩
  obtain ⟨d8, F8'⟩ := c.t.d.def_ 8 (d := mkD "_law_act" sAct) rfl
  have g8 := He.glo_ok X G (c.t.d.fact 8 (f := .glo "_law_act") rfl)
  have F8 : Fun K "_law_act" "_law_act" sAct (He.fAd K ("_law_act", none)) d8 := funOf F8'
  have D8 : Df K mg "_law_act" sAct ["_law_pen_here", "_law_number", "_law_deeds", "_law_acts"] _ d8 := ⟨F8, F8.binds (ps := ["_law_pen_here", "_law_number", "_law_deeds", "_law_acts"]) (fun _ _ _ _ _ _ us hl => match us, hl with | [_, _, _, _], _ => rfl), g8⟩
  obtain ⟨d9, F9'⟩ := c.t.d.def_ 9 (d := mkD "_law_book" sBook) rfl
  have g9 := He.glo_ok X G (c.t.d.fact 9 (f := .glo "_law_book") rfl)
  have F9 : Fun K "_law_book" "_law_book" sBook (He.fAd K ("_law_book", none)) d9 := funOf F9'
  have D9 : Df K mg "_law_book" sBook ["_law_pen_here", "_law_most"] _ d9 := ⟨F9, F9.binds (ps := ["_law_pen_here", "_law_most"]) (fun _ _ _ _ _ _ us hl => match us, hl with | [_, _], _ => rfl), g9⟩
  obtain ⟨d10, F10'⟩ := c.t.d.def_ 10 (d := mkD "turns_of" sTurnsOf) rfl
  have g10 := He.glo_ok X G (c.t.d.fact 10 (f := .glo "turns_of") rfl)
  have F10 : Fun K "turns_of" "turns_of" sTurnsOf (He.fAd K ("turns_of", none)) d10 := funOf F10'
  have D10 : Df K mg "turns_of" sTurnsOf ["book"] _ d10 := ⟨F10, F10.binds (ps := ["book"]) (fun _ _ _ _ _ _ us hl => match us, hl with | [_], _ => rfl), g10⟩
  obtain ⟨d11, F11'⟩ := c.t.d.def_ 11 (d := mkD "often_hands" sOften) rfl
  have g11 := He.glo_ok X G (c.t.d.fact 11 (f := .glo "often_hands") rfl)
  have F11 : Fun K "often_hands" "often_hands" sOften (He.fAd K ("often_hands", none)) d11 := funOf F11'
  have D11 : Df K mg "often_hands" sOften ["book"] _ d11 := ⟨F11, F11.binds (ps := ["book"]) (fun _ _ _ _ _ _ us hl => match us, hl with | [_], _ => rfl), g11⟩
  obtain ⟨d12, F12'⟩ := c.t.d.def_ 12 (d := mkD "_law_near" sLNear) rfl
  have g12 := He.glo_ok X G (c.t.d.fact 12 (f := .glo "_law_near") rfl)
  have F12 : Fun K "_law_near" "_law_near" sLNear (He.fAd K ("_law_near", none)) d12 := funOf F12'
  have D12 : Df K mg "_law_near" sLNear ["_law_pen_here", "_law_book_here"] _ d12 := ⟨F12, F12.binds (ps := ["_law_pen_here", "_law_book_here"]) (fun _ _ _ _ _ _ us hl => match us, hl with | [_, _], _ => rfl), g12⟩
  obtain ⟨d13, F13'⟩ := c.t.d.def_ 13 (d := mkD "_law_turns" sLTurns) rfl
  have g13 := He.glo_ok X G (c.t.d.fact 13 (f := .glo "_law_turns") rfl)
  have F13 : Fun K "_law_turns" "_law_turns" sLTurns (He.fAd K ("_law_turns", none)) d13 := funOf F13'
  have D13 : Df K mg "_law_turns" sLTurns ["_law_book_here"] _ d13 := ⟨F13, F13.binds (ps := ["_law_book_here"]) (fun _ _ _ _ _ _ us hl => match us, hl with | [_], _ => rfl), g13⟩
  obtain ⟨d14, F14'⟩ := c.t.d.def_ 14 (d := mkD "law" sLaw) rfl
  have g14 := He.glo_ok X G (c.t.d.fact 14 (f := .glo "law") rfl)
  have F14 : Fun K "law" "law" sLaw (He.fAd K ("law", none)) d14 := funOf F14'
  have m_range := He.free_ok X G (c.t.d.fact 15 (f := .free "range") rfl)
  have m_min := He.free_ok X G (c.t.d.fact 16 (f := .free "min") rfl)
  have m_max := He.free_ok X G (c.t.d.fact 17 (f := .free "max") rfl)
  have m_tuple := He.free_ok X G (c.t.d.fact 18 (f := .free "tuple") rfl)
  have m_list := He.free_ok X G (c.t.d.fact 19 (f := .free "list") rfl)
  have m_len := He.free_ok X G (c.t.d.fact 20 (f := .free "len") rfl)
  have m_sorted := He.free_ok X G (c.t.d.fact 21 (f := .free "sorted") rfl)
  have m_int := He.free_ok X G (c.t.d.fact 22 (f := .free "int") rfl)
  have i_NUMBER : MgInt mg "NUMBER" 0 := He.int_ok X G (c.t.d.fact 23 (f := .int "NUMBER" 0) rfl)
  have i_WRITTEN : MgInt mg "WRITTEN" 2 := He.int_ok X G (c.t.d.fact 24 (f := .int "WRITTEN" 2) rfl)
  have i_HAND : MgInt mg "HAND" 3 := He.int_ok X G (c.t.d.fact 25 (f := .int "HAND" 3) rfl)
  have i_LAST_HAND : MgInt mg "LAST_HAND" 3 := He.int_ok X G (c.t.d.fact 26 (f := .int "LAST_HAND" 3) rfl)
  have e := hfa.symm.trans g14
  cases e
  have b := FunD.bindsA (ps := ["_law_script"]) F14' fun _ _ _ _ _ _ us hl => match us, hl with | [_], _ => rfl
  have B : Bi mg := ⟨m_range, m_min, m_max, m_tuple, m_list, m_len, m_sorted, m_int⟩
  have t0 : (("turns_of", none) : He.Defn) ∈ tfAll := List.mem_cons_self
  refine ⟨d14, tfAll.map (He.cT K), spLaw K [((He.cT K ("turns_of", none)).2, qTur)], fun p hp => ?_, fun p hp => ?_, fun p hp => ?_, fun s v => b s [v] rfl, fun H a ns hl _ hH hS => ?_, fun base hK hG hTB => ?_⟩
  · obtain ⟨q, hq, rfl⟩ := List.mem_map.mp hp
    exact c.empty q hq
  · obtain ⟨q, hq, rfl⟩ := List.mem_map.mp hp
    exact c.out q hq
  · obtain ⟨q, hq, rfl⟩ := List.mem_map.mp hp
    exact PySem.W.codeHd_of_K X (c.hd q hq)
  · refine ⟨a, ns, rfl, hS, hl, fun p hp => ?_, fun _ => rfl⟩
    rw [List.mem_singleton.mp hp]
    exact TabS.nil (hH _ (List.mem_map.mpr ⟨_, t0, rfl⟩))
  · have tb0 := hTB _ (List.mem_map.mpr ⟨_, t0, rfl⟩)
    let cDr : ∀ k, CDraw l.prog w K mg base (k + 1) := fun k => D2.call (ok_draw D2.F)
    let cMi : ∀ k, CallOk l.prog w K mg base (k + 2) "_law_mixed" _ (spMixed K) := fun k => D5.call (ok_mixed (k := k) D5.F D2 B)
    let cDy : ∀ k, CallOk l.prog w K mg base (k + 2) "_law_day" _ spDay := fun k => D3.call (ok_day (k := k + 1) D3.F (cDr k))
    let cFe : CallOk l.prog w K mg base 3 "_law_few" _ (spFew K) := D6.call (ok_few (k := 2) D6.F (cDr 1) (cMi 0) m_tuple m_sorted)
    let cDe : CallOk l.prog w K mg base 4 "_law_deed" _ (spDeed K) := D7.call (ok_deed (k := 3) D7.F (cDr 2) (cDy 1) (cMi 1) cFe m_list m_range m_len)
    let cAc : CallOk l.prog w K mg base 4 "_law_act" _ (spAct K) := D8.call (ok_act (k := 3) D8.F (cDr 2) (cDy 1) m_len)
    let cFo : CallOk l.prog w K mg base 4 "_law_folk" _ spFolk := D4.call (ok_folk (k := 3) D4.F (cDr 2) m_range m_min m_tuple)
    let cBo : CallOk l.prog w K mg base 5 "_law_book" _ spBook := D9.call (ok_book (k := 4) D9.F (cDr 3) cFo cDe cAc (cMi 2) m_int m_range m_tuple)
    let cTu : CallOk l.prog w K mg base 10 "turns_of" _ (spTurnsOf [((He.cT K ("turns_of", none)).2, qTur)]) := D10.call (ok_turnsOf (k := 8) F10 (codeAt F10) tb0 m_sorted i_HAND i_NUMBER i_WRITTEN List.mem_cons_self fun p hp e => by rw [List.mem_singleton.mp hp])
    exact ok_law (k := 11) F14 (D0.call (ok_cell D0.F m_len)) (D1.call (ok_pen D1.F m_int)) (cBo.mono (by decide)) (D12.call (ok_lNear (k := 10) D12.F (cDr 9) m_tuple)) (D13.call (ok_lTurns (k := 10) D13.F m_sorted m_tuple)) (cTu.mono (by decide)) (D11.call (ok_often (k := 10) D11.F cTu m_range i_LAST_HAND)) ((cMi 9).mono (by decide)) m_len m_min m_max m_range m_tuple
end Deed
open PySem PySem.W PySem.Calls PyProof.Rows
theorem PySem.Challenge.cw_deedsheaf_k47_turns_of_hands_holds : PySem.Challenge.rw_deedsheaf_k47_turns_of_hands.Holds := by
  w_on; o_law
  refine HandSHeadRun.head_any (r := OpenLaw.row PySem.Challenge.rw_deedsheaf_k47_turns_of_hands) (q := view (OpenLaw.row PySem.Challenge.rw_deedsheaf_k47_turns_of_hands).prog [20]) (H := Deed.hk) (ob := Deed.ob) (M := 9000) (loose := Deed.looseAll) (d := HandSHeadRun.topDef (OpenLaw.row PySem.Challenge.rw_deedsheaf_k47_turns_of_hands).prog 20) (kwd := []) Deed.ob_eq
    (by kernel_rfl) (fun s => by kernel_rfl) Deed.run (by kernel_rfl) (by kernel_rfl) (by kernel_rfl) (by rfl) (by first | assumption | decide +kernel) (by decide +kernel) ⟨rfl, rfl, rfl, rfl, rfl, by decide +kernel⟩ ?hw ?hc
  case hw => w_witness2
  case hc =>
    refine LamX.walk_ofTsE (l := PySem.Challenge.rw_deedsheaf_k47_turns_of_hands) (n := 63) (k := 12) (x := "_law_script") (CX := fun _ => L2.CX0) rfl (by decide) (by kernel_rfl) ⟨rfl, by decide, by decide⟩ ?F (fun _ _ _ _ _ z => z)
    intro w mg fa h Y G hmg0
    obtain ⟨K, KX, c⟩ := Y
    have hmg : mg ("law" : PySem.Str) = some (.ref fa) := by
      have e : (HandSHeadRun.topDef (OpenLaw.row PySem.Challenge.rw_deedsheaf_k47_turns_of_hands).prog 20).name = ("law" : PySem.Str) := by kernel_rfl
      rw [← e]
      exact hmg0
    exact ⟨K, KX, Deed.facts KX G hmg c⟩
