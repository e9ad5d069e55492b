import PyProof.Rows.All
import Wide.All
import OpenK.AllK
import Wide.FinOn
import KE.SortKeyHeap
import KE.KLam
import HandS.ForMost
import HandS.ForExc
import HandS.Flow
import HandS.Style
import HandS.SortInts
import HandS.SortKw
import HandS.TupAny
import HandS.Lambda
import HandS.EndTab
import HandS.Head2
import HandS.HeadEnd
import HandS.HeadHook4
import HandS.HeadWalk
import HandS.Walk
import HandS.IsInst
import HandS.Defaults
import HandS.More
import HandS.DictComp
import HandS.ListItems
import HandS.SetFor
import HandS.Strs
import HandS.Zip
import HandS.TupSets
import KE.SortData
import KE.GoesMore
import HandS.Conv
import HandS.WordsDict
import HandS.MakeKw
import HandS.Codes
import PySem.Challenge.RW_deedsheaf_k42_what_parts_two_books
set_option Elab.async false
set_option linter.all false
set_option maxRecDepth 100000
set_option maxHeartbeats 0
set_option pp.maxSteps 1200

namespace Deed
open PySem PySem.Spec PyProof.Rows L2
def topS (i : Nat) : Stmt := PySem.Challenge.pw_deedsheaf_k42_what_parts_two_books.main.body.getD i (.Pass ⟨0, 0, 0, 0⟩)
/-! ### heaps: all but the pen at p is as it was -/
def Kp (p : Addr) (H H' : Hp) : Prop := ∀ b o, b ≠ p → H b = some o → H' b = some o
theorem Kp.refl (p : Addr) (H : Hp) : Kp p H H := fun _ _ _ h => h
theorem Kp.trans {p : Addr} {H H1 H2 : Hp} (a : Kp p H H1) (b : Kp p H1 H2) : Kp p H H2 := fun c o n h => b c o n (a c o n h)
theorem Kp.new {p q : Addr} {H : Hp} (n : H q = none) (o : HO) : Kp p H (upd H q o) := fun b u _ e => by
  rw [upd_ne (ne_of_none e n)]
  exact e
theorem Kp.put {p : Addr} {H : Hp} (o : HO) : Kp p H (upd H p o) := fun b u n e => by
  rw [upd_ne n]
  exact e
theorem Kp.same {p : Addr} {H H' : Hp} (h : Same H H') : Kp p H H' := fun b o _ e => h b o e
/-- the pen: four whole numbers, the last one a rest -/
def PenAt (H : Hp) (p : Addr) : Prop := ∃ a f c e : Int, H p = some (.lst [.int a, .int f, .int c, .int e]) ∧ 0 ≤ e ∧ e < 1000000007
theorem PenAt.new {p q : Addr} {H : Hp} (h : PenAt H p) (n : H q = none) (o : HO) : PenAt (upd H q o) p := by
  obtain ⟨a, f, c, e, h1, h2⟩ := h
  refine ⟨a, f, c, e, ?_, h2⟩
  rw [upd_ne (ne_of_none h1 n)]
  exact h1
theorem PenAt.ne {p q : Addr} {H : Hp} {o : HO} (h : PenAt H p) (e : H q = some o) (no : ∀ xs, o ≠ .lst xs) : q ≠ p := fun z => by
  obtain ⟨a, f, c, e', h1, _⟩ := h
  rw [z, h1] at e
  exact no _ (Option.some.inj e).symm
theorem PenAt.free {p q : Addr} {H : Hp} (h : PenAt H p) (n : H q = none) : q ≠ p := fun z => by
  obtain ⟨a, f, c, e', h1, _⟩ := h
  rw [z, h1] at n
  cases n
section
variable {P : Program} {w : World} {K : PySem.W.Frag} {mg : Str → Option Value} {base : Heap}
/-! ### the script's cell -/
abbrev sCell : Stmt := topS 34
theorem scCell : FnScope ["_law_script", "_law_k"] ["_law_script", "_law_k"] (defScope sCell) := ⟨rfl, rfl, rfl, by decide +kernel, rfl, by decide +kernel, by decide +kernel⟩
def spCell (K : PySem.W.Frag) : Sp := fun vs H Q _ => ∃ (a : Addr) (ns : List Int) (k : Int), vs = [.ref a, .int k] ∧ SqL K H a (ns.map V.int) ∧ 0 ≤ k ∧ ∀ v : Int, Q (.int v) H
theorem ok_cell {f : Addr} {fd : FuncData} {k : Nat} (F : Fun K "_law_cell_at" "_law_cell_at" sCell f fd) (ml : mg "len" = none) : FnOk P w K mg base CX0 (k + 1) f fd ["_law_script", "_law_k"] (spCell K) := by
  refine F.ok scCell (fun vs H Q E h => ?_) (fun cdv A outer s H vs Q E hr h => ?_)
  · obtain ⟨a, ns, k, rfl, _⟩ := h
    rfl
  · obtain ⟨a, ns, k, rfl, hS, h0, q⟩ := h
    refine ⟨_, pss_cons (ps_if (pt_cmpR op_lt (pv 1) (pe_callB call_len_seq (by rfl) ml PySem.boot_len (pa_cons (pv 0) pa_nil)) (nomark _)) (pss_one (ps_ret (pe_ix ix_list (pv 0) (pv 1) (fun _ _ => rfl)))) pss_nil)
      (pss_one (ps_ret pe_int)), ?_⟩
    have hl : (ns.map V.int).length = ns.length := List.length_map _
    refine ⟨_, rfl, _, rfl, a, _, rfl, .inl hS, _, _, rfl, rfl, _, rfl, ?_⟩
    refine ite2 (fun c => ?_) (fun c => ?_)
    · have c' : k < (((ns.map V.int).length : Nat) : Int) := of_decide_eq_true c
      rw [hl] at c'
      have hk : k.toNat < ns.length := by omega
      have ek : k = ((k.toNat : Nat) : Int) := by omega
      refine ⟨_, rfl, _, rfl, a, _, _, .int ns[k.toNat], rfl, rfl, hS, ?_, q _⟩
      exact at_of ek (by rw [List.getElem?_map, List.getElem?_eq_getElem hk] <;> rfl)
    · exact q 0
/-! ### the pen -/
abbrev sPen : Stmt := topS 33
theorem scPen : FnScope ["_law_cell"] ["_law_cell"] (defScope sPen) := ⟨rfl, rfl, rfl, by decide +kernel, rfl, by decide +kernel, by decide +kernel⟩
def spPen : Sp := fun vs H Q _ => ∃ (c : Int), vs = [.int c] ∧ ∀ p H', Same H H' → H p = none → PenAt H' p → Q (.ref p) H'
theorem ok_pen {f : Addr} {fd : FuncData} {k : Nat} (F : Fun K "_law_pen" "_law_pen" sPen f fd) (mi : mg "int" = none) : FnOk P w K mg base CX0 (k + 1) f fd ["_law_cell"] spPen := by
  refine F.ok scPen (fun vs H Q E h => ?_) (fun cdv A outer s H vs Q E hr h => ?_)
  · obtain ⟨c, rfl, _⟩ := h
    rfl
  · obtain ⟨c, rfl, q⟩ := h
    refine ⟨_, pss_one (ps_ret (pe_lst (pa_cons (pv 0) (pa_cons (pe_callTy call_int1 (by rfl) mi (by decide +kernel) (pa_cons (pe_cmpR op_ge (pv 0) (pe_op op_pow pe_int pe_int) (nomark _)) pa_nil)) (pa_cons pe_int (pa_cons (pe_op op_mod (pv 0) pe_int) pa_nil)))))), ?_⟩
    refine ⟨_, rfl, _, rfl, _, _, rfl, rfl, ⟨by decide, by decide, by decide⟩, _, _, rfl, rfl, .inr ⟨_, rfl, ?_⟩⟩
    refine ⟨_, rfl, _, _, rfl, rfl, (by show (0 : Int) < 1000000007; decide), (by show 4 ≤ sizeLine; decide), fun p hp => ?_⟩
    refine q p _ (fun b o e => ?_) hp ⟨_, _, _, _, upd_same, Int.emod_nonneg _ (by decide), Int.emod_lt_of_pos _ (by decide)⟩
    rw [upd_ne (ne_of_none e hp)]
    exact e
/-! ### a draw -/
abbrev sDraw : Stmt := topS 35
theorem scDraw : FnScope ["_law_pen_here", "_law_bound", "_law_found", "_law_stir"] ["_law_pen_here", "_law_bound"] (defScope sDraw) := ⟨rfl, rfl, rfl, by decide +kernel, rfl, by decide +kernel, by decide +kernel⟩
def spDraw : Sp := fun vs H Q _ => ∃ (p : Addr) (b : Int), vs = [.ref p, .int b] ∧ PenAt H p ∧ 0 < b ∧ b < 1073741824 ∧ ∀ v H', Kp p H H' → PenAt H' p → 0 ≤ v → v < b → Q (.int v) H'
theorem ok_draw {f : Addr} {fd : FuncData} {k : Nat} (F : Fun K "_law_draw" "_law_draw" sDraw f fd) : FnOk P w K mg base CX0 (k + 1) f fd ["_law_pen_here", "_law_bound"] spDraw := by
  refine F.ok scDraw (fun vs H Q E h => ?_) (fun cdv A outer s H vs Q E hr h => ?_)
  · obtain ⟨p, b, rfl, _⟩ := h
    rfl
  · obtain ⟨p, b, rfl, ⟨x, y, c, e, hp, he0, he1⟩, hb0, hb1, q⟩ := h
    refine ⟨_, pss_cons (ps_if (PW.pt (pw_and (pt_cmpR op_eq (pe_ix ix_list (pv 0) pe_int (fun _ _ => rfl)) pe_int (nomark _)) (pw_and1 (pt_cmpR op_gt (pe_ix ix_list (pv 0) pe_int (fun _ _ => rfl)) pe_int (nomark _)))))
        (pss_cons (ps_set (i := 2) scDraw.nd rfl (.inl rfl) (pe_op op_mod (pe_ix ix_list (pv 0) pe_int (fun _ _ => rfl)) (pv 1)))
        (pss_cons (ps_asg (pe_op op_fdiv (pe_ix ix_list (pv 0) pe_int (fun _ _ => rfl)) (pv 1)) (pg_sub (pv 0) pe_int set_list))
        (pss_one (ps_ret (pv 2))))) pss_nil)
      (pss_cons (ps_asg (pe_op op_add (pe_ix ix_list (pv 0) pe_int (fun _ _ => rfl)) pe_int) (pg_sub (pv 0) pe_int set_list))
      (pss_cons (ps_set (i := 3) scDraw.nd rfl (.inl rfl) (pe_op op_mod (pe_op op_mul (pe_op op_add (pe_ix ix_list (pv 0) pe_int (fun _ _ => rfl)) pe_int) (pe_op op_add pe_int (pe_op op_mul pe_int (pe_ix ix_list (pv 0) pe_int (fun _ _ => rfl))))) pe_int))
      (pss_cons (ps_set (i := 3) scDraw.nd rfl (.inl rfl) (pe_op op_mod (pe_op op_add (pe_op op_add (pe_op op_mul (pv 3) (pv 3)) (pe_op op_mul pe_int (pe_ix ix_list (pv 0) pe_int (fun _ _ => rfl)))) pe_int) pe_int))
      (pss_one (ps_ret (pe_op op_mod (pe_op op_fdiv (pe_op op_mod (pe_op op_mul (pv 3) pe_int) pe_int) pe_int) (pv 1))))))), ?_⟩
    have i0 : ∀ u : V, ∀ r : List V, atI (u :: r) 0 = some u := fun u r => atI_nat (j := 0) rfl
    have i1 : ∀ u v : V, ∀ r : List V, atI (u :: v :: r) 1 = some v := fun u v r => atI_nat (j := 1) rfl
    have i2 : ∀ u v w : V, ∀ r : List V, atI (u :: v :: w :: r) 2 = some w := fun u v w r => atI_nat (j := 2) rfl
    have i3 : ∀ u v w z : V, ∀ r : List V, atI (u :: v :: w :: z :: r) 3 = some z := fun u v w z r => atI_nat (j := 3) rfl
    have hS : SqL K H p [.int x, .int y, .int c, .int e] := SqL.of hp
    refine ⟨_, rfl, p, _, _, _, rfl, rfl, hS, i1 _ _ _, rfl, _, rfl, ?_⟩
    refine ite2 (fun c1 => ?_) (fun c1 => ?slow1)
    refine ⟨_, rfl, p, _, _, _, rfl, rfl, hS, i0 _ _, _, _, rfl, rfl, _, rfl, ?_⟩
    refine ite2 (fun c2 => ?_) (fun c2 => ?slow2)
    · refine ⟨_, rfl, p, _, _, _, rfl, rfl, hS, i0 _ _, _, rfl, _, _, rfl, rfl, hb0, ?_⟩
      refine ⟨_, rfl, p, _, _, _, rfl, rfl, hS, i0 _ _, _, rfl, _, _, rfl, rfl, ⟨hb0, hb1⟩, _, rfl, p, _, 0, 0, rfl, rfl, hp, rfl, ?_⟩
      exact ⟨_, rfl, q _ _ (Kp.put _) ⟨_, _, _, _, upd_same, he0, he1⟩ (Int.emod_nonneg _ (by omega)) (Int.emod_lt_of_pos _ hb0)⟩
    all_goals
      refine ⟨_, rfl, p, _, _, _, rfl, rfl, hS, i2 _ _ _ _, _, _, rfl, rfl, _, rfl, p, _, 2, 2, rfl, rfl, hp, rfl, ?_⟩
      have hp1 : (upd H p (.lst [.int x, .int y, .int (c + 1), .int e])) p = some (.lst [.int x, .int y, .int (c + 1), .int e]) := upd_same
      have hS1 : SqL K (upd H p (.lst [.int x, .int y, .int (c + 1), .int e])) p [.int x, .int y, .int (c + 1), .int e] := SqL.of hp1
      refine ⟨_, rfl, p, _, _, _, rfl, rfl, hS1, i3 _ _ _ _ _, _, _, rfl, rfl, _, rfl, p, _, _, _, rfl, rfl, hS1, i2 _ _ _ _, _, _, rfl, rfl, .inl ⟨by decide, by decide⟩, _, _, rfl, rfl, _, _, rfl, rfl, .inl ⟨by omega, by omega⟩, _, _, rfl, rfl, (by show (0 : Int) < 2147483647; decide), ?_⟩
      have r1 := Int.emod_nonneg ((e + 17) * (69621 + 2 * (c + 1))) (b := 2147483647) (by decide)
      have r2 := Int.emod_lt_of_pos ((e + 17) * (69621 + 2 * (c + 1))) (b := 2147483647) (by decide)
      generalize (e + 17) * (69621 + 2 * (c + 1)) % 2147483647 = st at r1 r2
      refine ⟨_, rfl, _, rfl, _, _, rfl, rfl, .inl ⟨by omega, by omega⟩, _, rfl, p, _, _, _, rfl, rfl, hS1, i2 _ _ _ _, _, _, rfl, rfl, .inl ⟨by decide, by decide⟩, _, _, rfl, rfl, _, _, rfl, rfl, _, _, rfl, rfl, (by show (0 : Int) < 2147483629; decide), ?_⟩
      refine ⟨_, rfl, _, _, rfl, rfl, .inr ⟨by decide, by decide⟩, _, _, rfl, rfl, (by show (0 : Int) < 2147483647; decide), _, _, rfl, rfl, ⟨by decide, by decide⟩, _, rfl, _, _, rfl, rfl, hb0, ?_⟩
      exact q _ _ (Kp.put _) ⟨_, _, _, _, upd_same, he0, he1⟩ (Int.emod_nonneg _ (by omega)) (Int.emod_lt_of_pos _ hb0)
end
end Deed

namespace Deed
open PySem PySem.Spec PyProof.Rows L2
/-- a def of the top: where it stands, how its arguments come, its name -/
structure Df (K : PySem.W.Frag) (mg : Str → Option Value) (x : Str) (st : Stmt) (ps : List Str) (f : Addr) (fd : FuncData) : Prop where
  F : Fun K x x st f fd
  b : Binds K fd ps []
  g : mg x = some (.ref f)
theorem am0 {φ : V → Prop} : ∀ y ∈ ([] : List V), φ y := fun _ h => nomatch h
theorem am1 {φ : V → Prop} {x : V} {xs : List V} (h : φ x) (r : ∀ y ∈ xs, φ y) : ∀ y ∈ x :: xs, φ y := fun y hy => (List.mem_cons.mp hy).elim (fun e => e ▸ h) (r y)
/-- an item of a written list at an open place -/
theorem pick {xs : List V} {i : Int} (φ : V → Prop) (h0 : 0 ≤ i) (h1 : i < (xs.length : Int)) (hx : ∀ x ∈ xs, φ x) : ∃ v, atI xs i = some v ∧ φ v := by
  have hk : i.toNat < xs.length := by omega
  exact ⟨xs[i.toNat], at_of (j := i.toNat) (by omega) (List.getElem?_eq_getElem hk), hx _ (List.getElem_mem hk)⟩
/-- an int within bounds -/
def Within (lo hi : Int) (x : V) : Prop := ∃ n : Int, x = .int n ∧ lo ≤ n ∧ n ≤ hi
section
variable {P : Program} {w : World} {K : PySem.W.Frag} {mg : Str → Option Value} {base : Heap} {fDr : Addr} {dDr : FuncData}
abbrev DrawD (K : PySem.W.Frag) (mg : Str → Option Value) := Df K mg "_law_draw" sDraw ["_law_pen_here", "_law_bound"]
/-- a person at x -/
def PersonAt (H : Hp) (x : V) : Prop := ∃ (a : Addr) (b : Int) (d : V), x = .ref a ∧ H a = some (.tup [.int b, d]) ∧ -9999 ≤ b ∧ b ≤ 9998 ∧ (d = .non ∨ ∃ i : Int, d = .int i ∧ b < i ∧ i ≤ 9999)
theorem PersonAt.kp {p : Addr} {H H' : Hp} {x : V} (h : PersonAt H x) (k : Kp p H H') (P : PenAt H p) : PersonAt H' x := by
  obtain ⟨a, b, d, e, h1, r⟩ := h
  exact ⟨a, b, d, e, k _ _ (P.ne h1 fun _ z => by cases z) h1, r⟩
def FolkAt (H : Hp) (t : Addr) (n : Nat) : Prop := ∃ xs : List V, H t = some (.tup xs) ∧ xs.length = n ∧ ∀ x ∈ xs, PersonAt H x
theorem FolkAt.kp {p : Addr} {H H' : Hp} {t : Addr} {n : Nat} (h : FolkAt H t n) (k : Kp p H H') (P : PenAt H p) : FolkAt H' t n := by
  obtain ⟨xs, h1, h2, h3⟩ := h
  exact ⟨xs, k _ _ (P.ne h1 fun _ z => by cases z) h1, h2, fun x hx => (h3 x hx).kp k P⟩
end
end Deed

namespace Deed
open PySem PySem.Spec PyProof.Rows L2
theorem seqIx {i : Int} {n : Nat} (h0 : 0 ≤ i) (h1 : i < n) : seqIndex? i n = some i.toNat := seqIndex_of h0 h1
theorem rising_of {l : List Int} (hn : l.Nodup) (hp : l.Pairwise (· ≤ ·)) : l.Pairwise (· < ·) := by
  induction l with
  | nil => exact .nil
  | cons x r ih =>
    have h1 := List.nodup_cons.mp hn
    have h2 := List.pairwise_cons.mp hp
    refine List.pairwise_cons.mpr ⟨fun y hy => ?_, ih h1.2 h2.2⟩
    have h3 := h2.1 y hy
    have h4 : x ≠ y := fun e => h1.1 (e ▸ hy)
    omega
theorem perm_erase {α : Type} {l : List α} {k : Nat} {y : α} (h : l[k]? = some y) : (y :: l.eraseIdx k).Perm l := by
  induction l generalizing k with
  | nil => simp at h
  | cons a r ih =>
    cases k with
    | zero =>
      have e : a = y := by simpa using h
      subst e
      exact List.Perm.refl _
    | succ k =>
      have h' : r[k]? = some y := by simpa using h
      show (y :: a :: r.eraseIdx k).Perm (a :: r)
      exact (List.Perm.swap a y _).trans ((ih h').cons a)
theorem erase_map {α β : Type} (f : α → β) : ∀ (l : List α) (k : Nat), (l.map f).eraseIdx k = (l.eraseIdx k).map f
  | [], _ => rfl
  | _ :: _, 0 => rfl
  | a :: r, k + 1 => congrArg (List.cons (f a)) (erase_map f r k)
end Deed

namespace Deed
open PySem PySem.Spec PyProof.Rows L2
/-! ### lists of ints compared -/
theorem dp_ints {K : PySem.W.Frag} {H : Hp} : ∀ ns : List Int, DpAll K H (ns.map V.int) (ns.map PyData.int)
  | [] => .nil
  | n :: r => .cons (.int n) (dp_ints r)
theorem lay_ints : ∀ ns : List Int, PyData.canLayAll0 (ns.map PyData.int) = true
  | [] => by simp [PyData.canLayAll0]
  | n :: r => by simp [PyData.canLayAll0, PyData.canLay0, lay_ints r]
theorem depth_ints : ∀ ns : List Int, PyData.depthAll (ns.map PyData.int) ≤ 1
  | [] => by simp [PyData.depthAll]
  | n :: r => by
    have h := depth_ints r
    simp only [List.map_cons, PyData.depthAll, PyData.depth]
    omega
theorem shaped_ints (ns : List Int) : SeqAt.shaped (.list (ns.map PyData.int)) = true := by
  have h1 := depth_ints ns
  have h2 : PyData.depth (.list (ns.map PyData.int)) ≤ 64 := by
    simp only [PyData.depth]
    omega
  show (PyData.canLay0 (.list (ns.map PyData.int)) && decide (PyData.depth (.list (ns.map PyData.int)) ≤ 64)) = true
  rw [Bool.and_eq_true]
  exact ⟨by simp only [PyData.canLay0]; exact lay_ints ns, decide_eq_true h2⟩
theorem eqvAll_ints : ∀ ns ms : List Int, PyData.eqvAll (ns.map PyData.int) (ms.map PyData.int) = decide (ns = ms)
  | [], [] => by simp [PyData.eqvAll]
  | [], _ :: _ => by simp [PyData.eqvAll]
  | _ :: _, [] => by simp [PyData.eqvAll]
  | n :: r, m :: q => by
    simp only [List.map_cons, PyData.eqvAll, PyData.eqv, eqvAll_ints r q]
    by_cases h : n = m
    · subst h
      simp
    · simp [h]
theorem eqv_ints (ns ms : List Int) : PyData.eqv (.list (ns.map PyData.int)) (.list (ms.map PyData.int)) = decide (ns = ms) := by
  simp only [PyData.eqv]
  exact eqvAll_ints ns ms
theorem mem_inV {n : Int} {ns : List Int} : inV (.int n) (ns.map V.int) = decide (n ∈ ns) := by
  induction ns with
  | nil => simp [inV]
  | cons m r ih =>
    have e : inV (.int n) ((m :: r).map V.int) = (eqV (.int m) (.int n) || inV (.int n) (r.map V.int)) := by simp [inV]
    have e2 : eqV (.int m) (.int n) = decide (m = n) := by
      first | rfl | simp [eqV] | (unfold eqV; simp)
    rw [e, ih, e2]
    by_cases h : m = n
    · subst h
      simp
    · have h' : ¬ n = m := fun z => h z.symm
      simp [h, h']
theorem flat_ints (ns : List Int) : (ns.map V.int).all flatV = true := by
  induction ns with
  | nil => rfl
  | cons n r ih =>
    rw [List.map_cons, List.all_cons, ih]
    rfl
/-! ### entries -/
inductive Kd where
  | deed (g t : Int) (rs ws : List Int)
  | act (x : Str) (o : Int)
structure En where
  num : Int
  day : Int
  wri : Int
  hand : Int
  kd : Kd
def En.isDeed (e : En) : Bool := match e.kd with
  | .deed _ _ _ _ => true
  | .act _ _ => false
/-- the entry e at the address a -/
def EntAt (H : Hp) (a : Addr) (e : En) : Prop := match e.kd with
  | .deed g t rs ws => ∃ r w : Addr, H a = some (.tup [.int e.num, .int e.day, .int e.wri, .int e.hand, .str "deed", .int g, .int t, .ref r, .ref w]) ∧ H r = some (.tup (rs.map V.int)) ∧ H w = some (.tup (ws.map V.int))
  | .act x o => H a = some (.tup [.int e.num, .int e.day, .int e.wri, .int e.hand, .str x, .int o])
/-- all that isn't a list is kept -/
def KpT (H H' : Hp) : Prop := ∀ b xs, H b = some (.tup xs) → H' b = some (.tup xs)
theorem Kp.tup {p : Addr} {H H' : Hp} (k : Kp p H H') (P : PenAt H p) : KpT H H' := fun b xs e => k _ _ (P.ne e fun _ z => by cases z) e
theorem Same.tup {H H' : Hp} (k : Same H H') : KpT H H' := fun b xs e => k _ _ e
theorem KpT.trans {H H1 H2 : Hp} (a : KpT H H1) (b : KpT H1 H2) : KpT H H2 := fun c o h => b c o (a c o h)
theorem EntAt.kp {H H' : Hp} {a : Addr} {e : En} (h : EntAt H a e) (k : KpT H H') : EntAt H' a e := by
  unfold EntAt at h ⊢
  cases hk : e.kd with
  | deed g t rs ws =>
    rw [hk] at h
    obtain ⟨r, w, h1, h2, h3⟩ := h
    exact ⟨r, w, k _ _ h1, k _ _ h2, k _ _ h3⟩
  | act x o =>
    rw [hk] at h
    exact k _ _ h
def EnOk (n : Nat) (ds as : List Int) (e : En) : Prop := (0 ≤ e.day ∧ e.day ≤ 9999) ∧ (0 ≤ e.wri ∧ e.wri ≤ 9999) ∧ (0 ≤ e.hand ∧ e.hand ≤ 3) ∧ match e.kd with
  | .deed g t rs ws => (0 ≤ g ∧ g < n) ∧ (0 ≤ t ∧ t < n) ∧ g ≠ t ∧ rs.length ≤ 2 ∧ rs.Pairwise (· < ·) ∧ (∀ r ∈ rs, r ∈ ds ∧ r < e.num) ∧ ws.length ≤ 3 ∧ ws.Pairwise (· < ·) ∧ ∀ x ∈ ws, 0 ≤ x ∧ x < n ∧ x ≠ g ∧ x ≠ t
  | .act x o => ((x = "undone" ∧ o ∈ as) ∨ ((x = "paid" ∨ x = "void") ∧ o ∈ ds)) ∧ o < e.num
theorem EnOk.mono {n : Nat} {ds as ds' as' : List Int} {e : En} (h : EnOk n ds as e) (h1 : ∀ x ∈ ds, x ∈ ds') (h2 : ∀ x ∈ as, x ∈ as') : EnOk n ds' as' e := by
  unfold EnOk at h ⊢
  obtain ⟨a, b, c, d⟩ := h
  refine ⟨a, b, c, ?_⟩
  cases hk : e.kd with
  | deed g t rs ws =>
    rw [hk] at d
    obtain ⟨d1, d2, d3, d4, d5, d6, d7⟩ := d
    exact ⟨d1, d2, d3, d4, d5, fun r hr => ⟨h1 _ (d6 r hr).1, (d6 r hr).2⟩, d7⟩
  | act x o =>
    rw [hk] at d
    obtain ⟨d1, d2⟩ := d
    refine ⟨?_, d2⟩
    rcases d1 with ⟨z, m⟩ | ⟨z, m⟩
    · exact .inl ⟨z, h2 _ m⟩
    · exact .inr ⟨z, h1 _ m⟩
/-- the built-ins' names are the built-ins' -/
structure Bi (mg : Str → Option Value) : Prop where
  range : mg "range" = none
  min : mg "min" = none
  max : mg "max" = none
  tuple : mg "tuple" = none
  list : mg "list" = none
  len : mg "len" = none
  sorted : mg "sorted" = none
  int : mg "int" = none
end Deed

namespace Deed
open PySem PySem.Spec PyProof.Rows L2
def rLenS (K : PySem.W.Frag) : List V → Hp → VK → Prop := fun xs H Q => ∃ p ys, xs = [.ref p] ∧ (SqL K H p ys ∨ SqT K H p ys) ∧ Q (.int ys.length) H
section
variable {P : Program} {w : World} {K : PySem.W.Frag} {mg : Str → Option Value} {base : Heap} {fDr : Addr} {dDr : FuncData}
/-! ### in another order -/
abbrev sMixed : Stmt := topS 37
abbrev nMixed : List Str := ["_law_pen_here", "_law_some", "_law_left", "_law_k"]
theorem scMixed : FnScope nMixed ["_law_pen_here", "_law_some"] (defScope sMixed) := ⟨rfl, rfl, rfl, by decide +kernel, rfl, by decide +kernel, by decide +kernel⟩
def spMixed (K : PySem.W.Frag) : Sp := fun vs H Q _ => ∃ (p a : Addr) (xs : List V), vs = [.ref p, .ref a] ∧ PenAt H p ∧ (SqL K H a xs ∨ SqT K H a xs) ∧ xs.length ≤ 1000 ∧
  ∀ l (ys : List V) H', Kp p H H' → PenAt H' p → H l = none → H' l = some (.lst ys) → ys.Perm xs → Q (.ref l) H'
theorem ok_mixed {f : Addr} {fd : FuncData} {k : Nat} (F : Fun K "_law_mixed" "_law_mixed" sMixed f fd) (D : DrawD K mg fDr dDr) (B : Bi mg) : FnOk P w K mg base CX0 (k + 2) f fd ["_law_pen_here", "_law_some"] (spMixed K) := by
  have G : FnOk P w K mg base CX0 (k + 1) fDr dDr ["_law_pen_here", "_law_bound"] spDraw := ok_draw D.F
  refine F.ok scMixed (fun vs H Q E h => ?_) (fun cdv A outer s H vs Q E hr h => ?_)
  · obtain ⟨p, a, xs, rfl, _⟩ := h
    rfl
  · obtain ⟨p, a, xs, rfl, hP, hS, hxl, q⟩ := h
    refine ⟨_, pss_cons (ps_set (i := 2) scMixed.nd rfl (.inr rfl) (pe_callTy call_list_of (by rfl) B.list (by decide +kernel) (pa_cons (pv 1) pa_nil)))
      (pss_one (ps_ret (pe_lc (own := [("_law_k", 3)]) (g := gName 3) (by rfl) scMixed.nd (pi_range1 (by rfl) B.range (pa_cons (pe_callB call_len_seq (by rfl) B.len PySem.boot_len (pa_cons (pv 2) pa_nil)) pa_nil)) (blkOk_by (own := [("_law_k", 3)]) (N := nMixed) (sc := defScope sMixed) (by decide +kernel)) (fun _ _ _ _ _ => pg_name (i := 3) scMixed.nd rfl (Or.inl rfl)) (fun _ _ _ _ _ => pts_nil)
        (fun _ _ _ _ _ => show PE _ _ (tBM K "list" rPopAt (tVar 2) (tCons (tCall spDraw [] E0 (tCons (tVar 0) (tCons (tCB (rLenS K) (tCons (tVar 2) tNil)) tNil))) tNil)) from pe_bm PySem.F.plainAttrs_list PySem.F.slot_list_pop PySem.F.type_list_pop mt_popAt (pv 2) (pa_cons (pe_call G hr (by rfl) D.g D.F.kp D.b .nil pass0 (pa_cons (pv 0) (pa_cons (pe_callB call_len_seq (by rfl) B.len PySem.boot_len (pa_cons (pv 2) pa_nil)) pa_nil))) pa_nil))))), ?_⟩
    refine ⟨_, rfl, a, _, rfl, hS, fun l hl => ?_⟩
    have nl : l ≠ p := hP.free hl
    have el : (upd H l (.lst xs)) l = some (.lst xs) := upd_same
    refine ⟨_, rfl, l, xs, rfl, .inl (SqL.of el), _, rfl, by omega, by omega, fun o no => ?_⟩
    have no' : o ≠ p := (hP.new hl _).free no
    have nlo : l ≠ o := fun z => by
      rw [← z, el] at no
      cases no
    have hno : H o = none := by
      rw [upd_ne nlo.symm] at no
      exact no
    refine lc_range (lo := 0) (n := ((xs.length : Nat) : Int).toNat) (fun i H' => ∃ ys ls : List V, H' o = some (.lst ys) ∧ H' l = some (.lst ls) ∧ Kp p H H' ∧ PenAt H' p ∧ ys.length = i ∧ (ys ++ ls).Perm xs)
      ⟨[], xs, upd_same, by rw [upd_ne nlo]; exact el, (Kp.new hl _).trans (Kp.new no _), (hP.new hl _).new no _, rfl, List.Perm.refl _⟩ ?_ ?_
    · rintro i H' hi ⟨ys, ls, e1, e2, k', P', hyl, hpm⟩
      have hll : ls.length = xs.length - i := by
        have := hpm.length_eq
        rw [List.length_append] at this
        omega
      refine ⟨rfl, ?_⟩
      unfold tYes
      dsimp only
      rw [if_pos rfl]
      refine ⟨_, rfl, .inl ⟨rfl, _, SqL.of e2⟩, _, rfl, _, rfl, l, ls, rfl, .inl (SqL.of e2), p, _, rfl, P', by omega, by omega, fun v2 H2 k2 P2 a2 b2 => ?_⟩
      have e1' := k2 _ _ no' e1
      have e2' := k2 _ _ nl e2
      have hk : v2.toNat < ls.length := by omega
      refine ⟨l, _, v2, v2.toNat, ls[v2.toNat], rfl, rfl, e2', by omega, by omega, seqIx a2 (by omega), List.getElem?_eq_getElem hk, ?_⟩
      refine ⟨ys, by rw [upd_ne nlo.symm]; exact e1', small1000 (by omega), ys ++ [ls[v2.toNat]], ls.eraseIdx v2.toNat, upd_same, by rw [upd_ne nlo, upd_same], fun b z n1 e => ?_, ?_, ?_, ?_⟩
      · rw [upd_ne (ne_of_none e hno), upd_ne (ne_of_none e hl)]
        exact (k'.trans k2) _ _ n1 e
      · obtain ⟨x1, x2, x3, x4, z1, z2⟩ := P2
        exact ⟨x1, x2, x3, x4, by rw [upd_ne no'.symm, upd_ne nl.symm]; exact z1, z2⟩
      · rw [List.length_append, hyl]
        rfl
      · have h1 : (ls[v2.toNat] :: ls.eraseIdx v2.toNat).Perm ls := perm_erase (List.getElem?_eq_getElem hk)
        refine List.Perm.trans ?_ hpm
        rw [List.append_assoc]
        exact List.Perm.append_left ys h1
    · rintro H' ⟨ys, ls, e1, e2, k', P', hyl, hpm⟩
      refine q o ys H' k' P' hno e1 ?_
      have h0 : ls = [] := by
        have := hpm.length_eq
        rw [List.length_append] at this
        exact List.length_eq_zero_iff.mp (by omega)
      rw [h0, List.append_nil] at hpm
      exact hpm
end
end Deed

namespace Deed
open PySem PySem.Spec PyProof.Rows L2
theorem perm_pairs {α β : Type} (f : α → β) {ys xs : List β} (h : ys.Perm xs) : ∀ zs : List α, xs = zs.map f → ∃ zs' : List α, ys = zs'.map f ∧ zs'.Perm zs := by
  induction h with
  | nil =>
    intro zs e
    cases zs with
    | nil => exact ⟨[], rfl, List.Perm.refl _⟩
    | cons z r => cases e
  | cons x _ ih =>
    intro zs e
    cases zs with
    | nil => cases e
    | cons z r =>
      rw [List.map_cons] at e
      injection e with e1 e2
      obtain ⟨zs', h1, h2⟩ := ih r e2
      exact ⟨z :: zs', by rw [List.map_cons, ← h1, e1], h2.cons z⟩
  | swap x y l =>
    intro zs e
    match zs, e with
    | [], e => cases e
    | [_], e => cases e
    | a :: b :: r, e =>
      rw [List.map_cons, List.map_cons] at e
      injection e with e1 e2
      injection e2 with e2 e3
      exact ⟨b :: a :: r, by rw [List.map_cons, List.map_cons, ← e1, ← e2, ← e3], List.Perm.swap _ _ _⟩
  | trans _ _ ih1 ih2 =>
    intro zs e
    obtain ⟨z1, h1, h2⟩ := ih2 zs e
    obtain ⟨z2, h3, h4⟩ := ih1 z1 h1
    exact ⟨z2, h3, h4.trans h2⟩
def dn (es : List En) : List Int := (es.filter (·.isDeed)).map (·.num)
def an (es : List En) : List Int := (es.filter (fun e => !e.isDeed)).map (·.num)
theorem dn_snoc (es : List En) (e : En) : dn (es ++ [e]) = dn es ++ (if e.isDeed then [e.num] else []) := by
  unfold dn
  rw [List.filter_append, List.map_append]
  cases h : e.isDeed <;> simp [List.filter, h]
theorem an_snoc (es : List En) (e : En) : an (es ++ [e]) = an es ++ (if e.isDeed then [] else [e.num]) := by
  unfold an
  rw [List.filter_append, List.map_append]
  cases h : e.isDeed <;> simp [List.filter, h]
theorem dn_sub (es : List En) : ∀ x ∈ dn es, x ∈ es.map (·.num) := fun x hx => by
  obtain ⟨e, he, rfl⟩ := List.mem_map.mp hx
  exact List.mem_map.mpr ⟨e, (List.mem_filter.mp he).1, rfl⟩
theorem an_sub (es : List En) : ∀ x ∈ an es, x ∈ es.map (·.num) := fun x hx => by
  obtain ⟨e, he, rfl⟩ := List.mem_map.mp hx
  exact List.mem_map.mpr ⟨e, (List.mem_filter.mp he).1, rfl⟩
theorem dn_nodup {es : List En} (h : (es.map (fun e => e.num)).Nodup) : (dn es).Nodup := by
  have h1 : (es.filter (fun e => e.isDeed)).Sublist es := List.filter_sublist
  exact (h1.map (fun e => e.num)).nodup h
theorem dn_len (es : List En) : (dn es).length ≤ es.length := by
  unfold dn
  rw [List.length_map]
  exact List.length_filter_le _ _
theorem an_len (es : List En) : (an es).length ≤ es.length := by
  unfold an
  rw [List.length_map]
  exact List.length_filter_le _ _
theorem mem_dn {es : List En} {x : Int} : x ∈ dn es ↔ ∃ e ∈ es, e.isDeed = true ∧ e.num = x := by
  unfold dn
  simp only [List.mem_map, List.mem_filter]
  constructor
  · rintro ⟨e, ⟨h1, h2⟩, h3⟩
    exact ⟨e, h1, h2, h3⟩
  · rintro ⟨e, h1, h2, h3⟩
    exact ⟨e, ⟨h1, h2⟩, h3⟩
theorem mem_an {es : List En} {x : Int} : x ∈ an es ↔ ∃ e ∈ es, e.isDeed = false ∧ e.num = x := by
  unfold an
  simp only [List.mem_map, List.mem_filter, Bool.not_eq_true']
  constructor
  · rintro ⟨e, ⟨h1, h2⟩, h3⟩
    exact ⟨e, h1, h2, h3⟩
  · rintro ⟨e, h1, h2, h3⟩
    exact ⟨e, ⟨h1, h2⟩, h3⟩
/-- entries of a book of n folk -/
structure BkOk (n : Nat) (es : List En) : Prop where
  nd : (es.map (·.num)).Nodup
  rng : ∀ e ∈ es, 0 ≤ e.num ∧ e.num ≤ 30
  ok : ∀ e ∈ es, EnOk n (dn es) (an es) e
theorem BkOk.perm {n : Nat} {es es' : List En} (h : BkOk n es) (p : es'.Perm es) : BkOk n es' := by
  refine ⟨(p.map _).nodup_iff.mpr h.nd, fun e he => h.rng e (p.mem_iff.mp he), fun e he => (h.ok e (p.mem_iff.mp he)).mono (fun x hx => ?_) fun x hx => ?_⟩
  · obtain ⟨e', h1, h2⟩ := mem_dn.mp hx
    exact mem_dn.mpr ⟨e', p.mem_iff.mpr h1, h2⟩
  · obtain ⟨e', h1, h2⟩ := mem_an.mp hx
    exact mem_an.mpr ⟨e', p.mem_iff.mpr h1, h2⟩
def En.word (e : En) : Str := match e.kd with
  | .deed _ _ _ _ => "deed"
  | .act x _ => x
theorem EnOk.word {n : Nat} {ds as : List Int} {e : En} (h : EnOk n ds as e) : e.word = "deed" ↔ e.isDeed = true := by
  unfold En.word En.isDeed
  cases hk : e.kd with
  | deed g t rs ws => simp
  | act x o =>
    have h4 := h.2.2.2
    rw [hk] at h4
    simp only [Bool.false_eq_true, iff_false]
    rcases h4.1 with ⟨z, _⟩ | ⟨z | z, _⟩ <;> rw [z] <;> decide
/-- the first places of an entry -/
theorem EntAt.tup {H : Hp} {a : Addr} {e : En} (h : EntAt H a e) : ∃ xs, H a = some (.tup xs) ∧ atI xs 0 = some (.int e.num) ∧ atI xs 1 = some (.int e.day) ∧ atI xs 2 = some (.int e.wri) ∧ atI xs 3 = some (.int e.hand) ∧ atI xs 4 = some (.str e.word) := by
  unfold EntAt at h
  unfold En.word
  cases hk : e.kd with
  | deed g t rs ws =>
    rw [hk] at h
    obtain ⟨r, w, h1, _⟩ := h
    exact ⟨_, h1, atI_nat (j := 0) rfl, atI_nat (j := 1) rfl, atI_nat (j := 2) rfl, atI_nat (j := 3) rfl, atI_nat (j := 4) rfl⟩
  | act x o =>
    rw [hk] at h
    exact ⟨_, h, atI_nat (j := 0) rfl, atI_nat (j := 1) rfl, atI_nat (j := 2) rfl, atI_nat (j := 3) rfl, atI_nat (j := 4) rfl⟩
theorem FolkAt.kpT {H H' : Hp} {t : Addr} {n : Nat} (h : FolkAt H t n) (k : KpT H H') : FolkAt H' t n := by
  obtain ⟨xs, h1, h2, h3⟩ := h
  refine ⟨xs, k _ _ h1, h2, fun x hx => ?_⟩
  obtain ⟨a, b, d, e, h4, r⟩ := h3 x hx
  exact ⟨a, b, d, e, k _ _ h4, r⟩
theorem KpT.lst {H : Hp} {l : Addr} {xs : List V} (e : H l = some (.lst xs)) (o : HO) : KpT H (upd H l o) := fun b ys h => by
  have nb : b ≠ l := fun z => by
    rw [z, e] at h
    cases h
  rw [upd_ne nb]
  exact h
theorem KpT.refl (H : Hp) : KpT H H := fun _ _ h => h
theorem Kp.over {p l : Addr} {H H' : Hp} (k : Kp p H H') (n : H l = none) (o : HO) : Kp p H (upd H' l o) := fun b u n1 e => by
  rw [upd_ne (ne_of_none e n)]
  exact k _ _ n1 e
theorem PenAt.put {p l : Addr} {H : Hp} (h : PenAt H p) (n : l ≠ p) (o : HO) : PenAt (upd H l o) p := by
  obtain ⟨x1, x2, x3, x4, z1, z2⟩ := h
  exact ⟨x1, x2, x3, x4, by rw [upd_ne n.symm]; exact z1, z2⟩
abbrev refs (zs : List (Addr × En)) : List V := zs.map fun z => .ref z.1
abbrev ens (zs : List (Addr × En)) : List En := zs.map (·.2)
/-- a book at b -/
structure BookAt (H : Hp) (b fk t : Addr) (n : Nat) (age : Int) (zs : List (Addr × En)) : Prop where
  at_ : H b = some (.tup [.ref fk, .int age, .ref t])
  folk : FolkAt H fk n
  n2 : 2 ≤ n
  n6 : n ≤ 6
  age0 : 0 ≤ age
  age1 : age ≤ 9999
  ents : H t = some (.tup (refs zs))
  ent : ∀ z ∈ zs, EntAt H z.1 z.2
  ok : BkOk n (ens zs)
  len : zs.length ≤ 16
theorem BookAt.kp {H H' : Hp} {b fk t : Addr} {n : Nat} {age : Int} {zs : List (Addr × En)} (h : BookAt H b fk t n age zs) (k : KpT H H') : BookAt H' b fk t n age zs :=
  ⟨k _ _ h.at_, h.folk.kpT k, h.n2, h.n6, h.age0, h.age1, k _ _ h.ents, fun z hz => (h.ent z hz).kp k, h.ok, h.len⟩
end Deed

namespace Deed
open PySem PySem.Spec PySem.W PyProof.Rows L2 LamX
/-! ### sorted(e, key=lambda x: x[0]) of a list or tuple of tuples -/
section
variable {prog : Program} {w : World} {A : Around} {E : Value → Shared → Prop} {s : Shared}
theorem collectT {l : Addr} {vs : List Value} {Q : List Value → Shared → Prop} (ht : s.heap.IsTuple l vs.toArray) (hsz : vs.length ≤ sizeLine)
    (h : Q vs { s with heap := (s.heap.push (seqObj "list" #[] 0)).update s.heap.objs.size (Obj.mapSeq (· ++ vs.toArray)) }) : wpAny (model prog w) A (collect (.ref l)) Q E s := by
  obtain ⟨ob, g0, gc, ep, gd⟩ := id ht
  have g1 : (s.heap.push (seqObj "list" #[] 0)).get? l = some ob := Heap.get?_push_of_some _ g0
  unfold collect
  refine wpAny_bind (m := _) (wpAny_runValue (codeAny_builtin entry_proto_collect' ?_))
  show wpAny _ _ (do again (.builtin "list.__iadd__" ⟨[← newList [], Value.ref l], []⟩)) _ _ s
  refine wpAny_bind (wpAny_newList (wpAny_pure ⟨Code.quiet_builtin _ (by decide +kernel), (codeAny_builtin entry_list_iadd' ?_)⟩))
  show wpAny _ _ (Builtin.List.listExtendWith (.ref s.heap.objs.size) (Value.ref l) (.ref s.heap.objs.size)) _ _ { s with heap := s.heap.push (seqObj "list" #[] 0) }
  unfold Builtin.List.listExtendWith
  refine wpAny_bind (wpAny_typeOf (T := "tuple") ⟨ob, g1, gc⟩ ?_)
  have tt : (Value.type "tuple" == Value.type "tuple") = true := by rfl
  rw [if_pos (by simp [tt])]
  refine wpAny_bind (listItems_at g1 gd ?_)
  refine wpAny_bind (listItems_at (n := 0) (xs := #[]) (Heap.get?_push_size _ rfl) rfl ?_)
  rw [if_neg (fun z => by simp at z)]
  refine wpAny_bind (listUpdate_at (n := 0) (xs := #[]) (Heap.get?_push_size _ rfl) rfl ?_ (Nat.zero_le _) (by show (#[] ++ vs.toArray).size ≤ sizeLine + 1; simp only [Array.size_append, List.size_toArray, List.length_nil]; omega))
  refine wpAny_pure (?_)
  show wpAny (model prog w) A (do let o ← load s.heap.objs.size; match o.data with | .seq xs _ => pure xs.toList | _ => unsupported "internal:collect") Q E { s with heap := (s.heap.push (seqObj "list" #[] 0)).update s.heap.objs.size (Obj.mapSeq (· ++ vs.toArray)) }
  refine wpAny_bind (wpAny_load (get?_update_seq (Heap.get?_push_size _ rfl) _) (?_))
  show wpAny _ _ (pure (((#[] : Array Value) ++ vs.toArray).toList)) Q E _
  rw [show (((#[] : Array Value) ++ vs.toArray).toList) = vs by simp]
  exact wpAny_pure h
theorem collectS {l : Addr} {vs : List Value} {Q : List Value → Shared → Prop} (hl : s.heap.IsList l vs.toArray ∨ s.heap.IsTuple l vs.toArray) (hsz : vs.length ≤ sizeLine)
    (h : Q vs { s with heap := (s.heap.push (seqObj "list" #[] 0)).update s.heap.objs.size (Obj.mapSeq (· ++ vs.toArray)) }) : wpAny (model prog w) A (collect (.ref l)) Q E s := by
  rcases hl with hl | hl
  · exact collect_list hl h hsz
  · exact collectT hl hsz h
/-- sorted(e, key=f), e a list or a tuple, the keys ints -/
theorem sortedK {β : Type} {l f : Addr} {vs : List Value} {bs : List β} {R : Value → β → Prop} {Q : Value → Shared → Prop} (k : β → Int) (hl : s.heap.IsList l vs.toArray ∨ s.heap.IsTuple l vs.toArray) (e : EachIs R vs bs) (hL : bs.length ≤ sizeLine) (hu : A.units + 66 < cLine)
    (turn : ∀ (v : Value) (x : β), R v x → x ∈ bs → ∀ (h : Heap) (tk : Nat), (∀ b o, s.heap.get? b = some o → h.get? b = some o) →
      wpAny (model prog w) A.in1.in1 (call (.ref f) [v]) (KeyPure (.int (k x)) { s with heap := h, toks := tk }) (fun _ _ => False) { s with heap := h, toks := tk })
    (h : ∀ out c h' tk, (∀ b o, s.heap.get? b = some o → h'.get? b = some o) → h'.get? (s.heap.objs.size + 1) = some (seqObj "list" (List.toArray out) c) → out.length = bs.length → EachIs R out (bs.mergeSort (dataLe false fun x => .int (k x))) →
      Q (.ref (s.heap.objs.size + 1)) { s with heap := h', toks := tk }) :
    wpAny (model prog w) A (call (.builtin "sorted") [.ref l] [(Str.ofString "key", .ref f)]) Q E s := by
  have hv : vs.length ≤ sizeLine := by rw [e.length]; exact hL
  have up : ∀ {g : Heap}, KeepsBut (s.heap.objs.size + 1) (copyHeap s.heap vs) g → ∀ b o, s.heap.get? b = some o → g.get? b = some o := fun kp b o z =>
    kp b o (Nat.ne_of_lt (Nat.lt_succ_of_lt (Heap.lt_size z))) (copyHeap_old z)
  have ez : ((s.heap.push (seqObj "list" #[] 0)).update s.heap.objs.size (Obj.mapSeq (· ++ vs.toArray))).objs.size = s.heap.objs.size + 1 := by rw [Heap.size_update, size_push']
  refine call_function_entry_kw kind_sorted plain_sorted entry_sorted (ksk_s1 _ _) ?_
  unfold Builtin.«sorted»
  refine wpAny_bind (m := checkCount "sorted" 1 1 _) (wpAny_pure (?_))
  refine wpAny_bind (collectS hl hv ?_)
  refine wpAny_bind (wpAny_newList (?_) hv)
  show wpAny _ _ _ _ _ { s with heap := copyHeap s.heap vs }
  rw [ez]
  refine wpAny_bind (wpAny_holding (wpAny_call_entry_kw slot_list_sort ⟨_, copyHeap_at s.heap vs, rfl⟩ entry_list_sort (?body) (ksk_l1 _ _)))
  case body =>
    show wpAny (model prog w) A.in1.in1 (Builtin.«list.sort» ⟨[.ref (s.heap.objs.size + 1)], [(Str.ofString "key", .ref f)]⟩) _ _ _
    rw [ksk_t1]
    refine keyH_tree (kz := bs.map fun x => PyData.int (k x)) (s := { s with heap := copyHeap s.heap vs }) (copyHeap_at s.heap vs) (by rw [List.length_map]; exact e.length.symm) hv (AllAlike.of fun _ _ => by simp [alike]) ?srt (fun d hd => ?dep)
      (keyH_turns (k := fun x => PyData.int (k x)) (s := { s with heap := copyHeap s.heap vs }) e fun v x hR hx h tk kp => turn v x hR hx h tk (up kp)) fun h' tk out c kp hD ko => ?fin
    case srt => exact Sortable.others fun _ => ⟨(fun z => nomatch z), (fun _ z => nomatch z)⟩
    case dep =>
      obtain ⟨x, _, rfl⟩ := List.mem_map.mp hd
      show A.units + 1 + 1 + PyData.depth (.int (k x)) < cLine
      simp only [PyData.depth]
      omega
    case fin =>
      exact ⟨_, rfl, wpAny_pure ⟨_, rfl, h out c h' tk (up kp) hD ((ko.length (by rw [List.length_map]; exact e.length.symm)).trans e.length) (keyedOut_each (fun x => PyData.int (k x)) ko e)⟩⟩
/-- the call of the lambda -/
theorem lam_key {f c' t : Addr} {x q : Str} {params : Arguments} {ix : Expr} {scope : Scope} {cl : List (Str × Addr)} {pm ctv : Value} {p1 p3 : Pos} {items : Array Value} {kk : Int} {u : Tok} {mg : Str → Option Value}
    (of : s.heap.get? f = some (kla_obj "<lambda>" q params (.Subscript (.Name x p1) ix p3) scope cl pm c' ctv)) (hcd : s.heap.CodeRec (.ref c') q) (hroom : A.depth < recursionLimit) (lim : s.heap.NoLimit) (ns : s.heap.Ns mainGlobals mg)
    (hk : scope.kind = .function) (hco : scope.isCoroutine = false) (hgen : scope.isGenerator = false) (hcell : ∀ y ∈ scope.names, y.2 ≠ .cell) (hloc : scope.names.lookup x = some .local)
    (hbind : ∀ v : Value, bindArgs (kla_fn "<lambda>" q params (.Subscript (.Name x p1) ix p3) scope cl pm (.ref c') ctv) ⟨[v], []⟩ = pure [(x, v)])
    (hix : ∀ (env : Env) (A : Around) (E : Value → Shared → Prop) (s' : Shared) (Q : Value → Shared → Prop), env.scope = scope → env.globals = mainGlobals → s'.heap.Ns mainGlobals mg → (∀ u tk, Q (.int 0 u) { s' with toks := tk }) → wpAny (model prog w) A (eval ix env) Q E s')
    (hpl : PlainIx ix) (hd : (x == ("__debug__" : Str)) = false) (ht : s.heap.IsTuple t items) (hx : items[0]? = some (.int kk u)) :
    wpAny (model prog w) A (call (.ref f) [.ref t]) (KeyPure (.int kk) s) (fun _ _ => False) s := by
  refine wpAny_call (kla_callFunE hroom of rfl hco hgen rfl hcd ?_)
  rw [hbind]
  refine wpAny_pure (wpAny_newFunctionEnv hcell (fun y hy => ?_) (fun h₁ hns hsb => ⟨lim.fresh _ hsb, ?_⟩) hk)
  · rw [List.mem_singleton.mp hy]
    exact hloc
  have kp : ∀ b o, s.heap.get? b = some o → h₁.get? b = some o := fun b o z => hsb.extBut b o (Nat.ne_of_lt (Heap.lt_size z)) (Heap.get?_push_of_some _ z)
  refine kla_codeExpr (Subscript_ (wpAny_Name (wpAny_loadName_local hk hloc hns (v := .ref t) (by simp) ?_) hd))
  refine hix _ _ _ _ _ rfl rfl (ns.keeps kp) fun u' tk' => ?_
  have ht1 : h₁.IsTuple t items := by
    obtain ⟨o, z1, z2, z3⟩ := ht
    exact ⟨o, kp _ _ z1, z2, z3⟩
  have hsz : 0 < items.size := by
    rcases Nat.eq_zero_or_pos items.size with z | z
    · rw [Array.getElem?_eq_none (by omega)] at hx
      cases hx
    · exact z
  refine subscriptTail_builtinR (x := .int kk u) (ht1.typeIs) slot_tuple_getitem.lookup (getItem_tuple (j := 0) (Q := fun r s' => r = .int kk u ∧ KeyPure (.int kk) s r s') ht1 (by decide) (by decide) (seqIndex_of (by decide) (by omega)) hx ⟨rfl, ?_⟩) (hpl _ _)
  exact ⟨h₁, _, rfl, kp, .int _ _⟩
end
end Deed

namespace Deed
open PySem PySem.Spec PySem.W PyProof.Rows L2 LamX
theorem each_vals {xs : List V} {us : List Value} (r : Vals xs us) : EachIs (fun u y => RelV y u) us xs := by
  induction r with
  | nil => exact .nil
  | cons h _ ih => exact .cons h ih
theorem vals_each {xs : List V} {us : List Value} (r : EachIs (fun u y => RelV y u) us xs) : Vals xs us := by
  induction r with
  | nil => exact .nil
  | cons h _ ih => exact .cons h ih
/-- sorted(e, key=lambda x: x[0]): some arrangement by the keys, at a new address; a table may have grown -/
def tSortK (K : PySem.W.Frag) (T : List (Addr × Str)) (te : TA) : TE := fun σ H Q => te σ H fun vs H1 => ∃ (a : Addr) (xs : List V) (ks : V → Int), vs = [.ref a] ∧ (SqL K H1 a xs ∨ SqT K H1 a xs) ∧ (∀ y ∈ xs, ∃ t r, y = .ref t ∧ H1 t = some (.tup (.int (ks y) :: r))) ∧ Tabs T H1 ∧
  ∀ p ys H2, ExtN H1 H2 → Tabs T H2 → H2 p = none → ys.Perm xs → ys.Pairwise (fun u v => ks u ≤ ks v) → Q (.ref p) (upd H2 p (.lst ys))
section
variable {X : Cx}
theorem pe_sortK {T : List (Addr × Str)} {c P : Addr} {k : Nat} {e ix : Expr} {te : TA} {x : Str} {params : Arguments} {scope : Scope} {p p1 p3 lpos kpos pos : Pos}
    (hg : Gl X "sorted") (hm : X.mg "sorted" = none) (ha : PA X [e] te) (hr : Room (k + 1) X.A) (TB : TabB X.base X.mg c P) (hcode : X.env.code = .ref c) (hmT : (P, X.env.qual ++ "<lambda>") ∈ T) (hu : ∀ p ∈ T, p.1 = P → p.2 = X.env.qual ++ "<lambda>")
    (hdef : defaultsOf params X.env = ([], [])) (hfree : ∀ y ∈ scope.names, y.2 ≠ .free)
    (hk : scope.kind = .function) (hco : scope.isCoroutine = false) (hgen : scope.isGenerator = false) (hcell : ∀ y ∈ scope.names, y.2 ≠ .cell) (hloc : scope.names.lookup x = some .local)
    (hbind : ∀ (q : Str) (cl : List (Str × Addr)) (pm cv ctv v : Value), bindArgs (kla_fn "<lambda>" q params (.Subscript (.Name x p1) ix p3) scope cl pm cv ctv) ⟨[v], []⟩ = pure [(x, v)])
    (hix : ∀ (env : Env) (A : Around) (E : Value → Shared → Prop) (s' : Shared) (Q : Value → Shared → Prop), env.scope = scope → env.globals = mainGlobals → s'.heap.Ns mainGlobals X.mg → (∀ u tk, Q (.int 0 u) { s' with toks := tk }) → wpAny (model X.prog X.w) A (eval ix env) Q E s')
    (hpl : PlainIx ix) (hd : (x == ("__debug__" : Str)) = false)
    (h1 : backTo pos (starEach [e] X.env) = (false, eval e X.env) :: backTo pos (starEach [] X.env) := by rfl) (h2 : (backTo pos (starEach [e] X.env)).any (·.1) = false := by rfl) :
    PE X (.Call (.Name "sorted" p) [e] [⟨some "key", .Lambda params (.Subscript (.Name x p1) ix p3) scope lpos, kpos⟩] pos) (tSortK X.K T te) := by
  refine ⟨fun pins s σ H Q I h => ?_⟩
  refine wpAny_Call_Name_kw (ld_blt I hg hm (show bootBuiltins "sorted" = some (.builtin "sorted") by decide +kernel) ?_)
  refine callWith_kw (thn (ha.run pos pins s σ H _ I h) fun us s1 ⟨vs, H1, I1, r1, q1⟩ => ?_) h1 h2 rfl rfl
  obtain ⟨a, xs, ks, rfl, hS, hxs, hT, q⟩ := q1
  obtain rfl := Vals.ref1 r1
  show wpAny _ _ (evalAll [(do let v ← eval (.Lambda params (.Subscript (.Name x p1) ix p3) scope lpos) X.env; standAt pos; pure v)]) _ _ s1
  refine wpAny_evalAll_cons (wpAny_bind (lam_make2 I1 TB hcode hmT hu hT hdef (fun y hy e => absurd e (hfree y hy)) fun f c' pm ctv H2 s2 I2 eN T2 hf hfn hfr hco' => wpAny_bind (wpAny_standAt (wpAny_pure (wpAny_evalAll_nil ?_)))))
  have seqs : ∃ its, Vals xs its ∧ xs.length ≤ sizeLine ∧ (s2.heap.IsList a its.toArray ∨ s2.heap.IsTuple a its.toArray) := by
    rcases hS with hS | hS
    · have hS2 : SqL X.K H2 a xs := by
        rcases hS with (z | ⟨o, z⟩) | z
        · exact .inl (.inl (eN _ _ z fun ps z' => by cases z'))
        · exact .inl (.inr ⟨o, eN _ _ z fun ps z' => by cases z'⟩)
        · exact .inr z
      obtain ⟨its, rv, hl, hz⟩ := I2.list hS2
      exact ⟨its, rv, hz, .inl hl.isList⟩
    · have hS2 : SqT X.K H2 a xs := by
        rcases hS with (z | ⟨o, z⟩) | z
        · exact .inl (.inl (eN _ _ z fun ps z' => by cases z'))
        · exact .inl (.inr ⟨o, eN _ _ z fun ps z' => by cases z'⟩)
        · exact .inr z
      obtain ⟨its, rv, hl, hz⟩ := I2.tuple hS2
      exact ⟨its, rv, hz, .inr hl⟩
  obtain ⟨its, rv, hz, hl⟩ := seqs
  have hun := hr.un
  have hdp := hr.dp
  show wpAny (model X.prog X.w) X.A (call (.builtin "sorted") [.ref a] [(Str.ofString "key", .ref f)]) _ _ s2
  refine sortedK (R := fun u y => RelV y u) ks hl (each_vals rv) hz (by omega) (fun u y hR hy h tk kp => ?_) fun out ep h' tk kp hD hlen eo => ?_
  · obtain ⟨t, r, rfl, ht⟩ := hxs y hy
    obtain rfl : u = Value.ref t := hR
    have ht2 := eN _ _ ht fun ps z' => by cases z'
    obtain ⟨_, its2, r2, o, ho, hc, n, hd2⟩ := I2.hok _ _ ht2
    obtain ⟨oc, vs, tt, c1, c2, c3⟩ := (I2.hok c' _ hco').1
    cases r2 with
    | cons ru r3 =>
      obtain ⟨tu, rfl⟩ := ru
      refine lam_key (u := tu) (s := { s2 with heap := h, toks := tk }) (kp _ _ hf) ⟨c', oc, vs, tt, rfl, kp _ _ c1, c2, c3⟩ ?_ (I2.nolimit.keeps kp) ((I2.mod.glob.keeps I2.bk).keeps kp) hk hco hgen hcell hloc (fun v => hbind _ _ _ _ _ v) hix hpl hd ⟨o, kp _ _ ho, hc, n, hd2⟩ (by simp)
      show X.A.depth < recursionLimit
      omega
  · rw [dataLe_int] at eo
    have hp : (xs.mergeSort fun a b => decide (ks a ≤ ks b)).Perm xs := List.mergeSort_perm _ _
    have hs : (xs.mergeSort fun a b => decide (ks a ≤ ks b)).Pairwise (fun u v => ks u ≤ ks v) := by
      have := List.pairwise_mergeSort (le := fun a b => decide (ks a ≤ ks b)) (fun a b c h1 h2 => by simp only [decide_eq_true_eq] at *; omega) (fun a b => by simp only [Bool.or_eq_true, decide_eq_true_eq]; omega) xs
      exact this.imp fun h => of_decide_eq_true h
    refine ⟨.ref _, _, I2.laid (t' := tk) kp (Nat.le_succ _) (show ObjOk X.prog X.w _ h' _ (.lst (xs.mergeSort fun a b => decide (ks a ≤ ks b))) from ⟨by rw [hp.length_eq]; exact hz, out, ep, vals_each eo, hD⟩), rfl, q _ _ H2 eN T2 (I2.hok.fresh (Nat.le_succ _)) hp hs⟩
end
end Deed

namespace Deed
open PySem PySem.Spec PyProof.Rows L2 LamX
/-! ### a def whose code object's table is told -/
theorem okC {P : Program} {w : World} {K : PySem.W.Frag} {mg : Str → Option Value} {base : Heap} {x qual : Str} {st : Stmt} {f c : Addr} {fd : FuncData} {N ps : List Str} {k : Nat} {sp : Sp} (F : Fun K x qual st f fd) (hc : fd.code = .ref c) (S : FnScope N ps (defScope st)) (len : ∀ vs H Q E, sp vs H Q E → vs.length = ps.length)
    (hbody : ∀ (A : Around) (outer : List Env) (s : Shared) (H : Hp) (vs : List V) (Q : VK) (E : XK), Room k (A.deeper (envOfC qual (defScope st) s.heap.objs.size f (.ref c))) → sp vs H Q E →
      ∃ t, PSs (cxOf CX0 P w K mg base N qual (defScope st) f (.ref c) A outer s H E).nox (defBody st) t ∧ t { nx := fun _ H' => Q .non H', rt := Q } (start N vs) H) : FnOk P w K mg base CX0 (k + 1) f fd ps sp := by
  obtain ⟨oc, od, kV, doc, pm, an, cdv, ct, osl, rfl, lk, hcd⟩ := F.ex
  have e : cdv = .ref c := hc
  subst e
  refine fn_of lk hcd S len fun A outer s H vs Q E hr hsp => ?_
  obtain ⟨t, h, q⟩ := hbody A outer s H vs Q E hr hsp
  exact ⟨t, h.nox, q⟩
/-- the number that stands ahead in the tuple at v -/
def keyAt (H : Hp) (v : V) : Int := match v with
  | .ref t => (match H t with
    | some (.tup (.int n :: _)) => n
    | _ => 0)
  | _ => 0
theorem EntAt.key {H : Hp} {a : Addr} {e : En} (h : EntAt H a e) : ∃ r, H a = some (.tup (.int e.num :: r)) ∧ keyAt H (.ref a) = e.num := by
  have fin : ∀ r, H a = some (.tup (.int e.num :: r)) → keyAt H (.ref a) = e.num := fun r z => by
    show (match H a with | some (.tup (.int n :: _)) => n | _ => 0) = e.num
    rw [z]
  unfold EntAt at h
  cases hk : e.kd with
  | deed g t rs ws =>
    rw [hk] at h
    obtain ⟨r, w, h1, _⟩ := h
    exact ⟨_, h1, fin _ h1⟩
  | act x o =>
    rw [hk] at h
    exact ⟨_, h, fin _ h⟩
/-- what isn't tracked, or a table -/
def Fresh (H : Hp) (p : Addr) : Prop := ∀ o, H p = some o → ∃ ps, o = .tbl ps
theorem Fresh.of {H H' : Hp} {p : Addr} (e : ExtN H H') (n : H' p = none) : Fresh H p := fun o z => by
  by_cases h : ∃ ps, o = .tbl ps
  · exact h
  · rw [e p o z fun ps q => h ⟨ps, q⟩] at n
    cases n
theorem Fresh.ne {H : Hp} {p b : Addr} {o : HO} (f : Fresh H p) (e : H b = some o) (h : ∀ ps, o ≠ .tbl ps) : b ≠ p := fun z => by
  rw [z] at e
  obtain ⟨ps, q⟩ := f o e
  exact h ps q
theorem Fresh.up {H H' : Hp} {p : Addr} (e : ExtN H H') (f : Fresh H' p) : Fresh H p := fun o z => by
  by_cases h : ∃ ps, o = .tbl ps
  · exact h
  · exact f o (e p o z fun ps q => h ⟨ps, q⟩)
theorem ExtN.tup {H H' : Hp} (e : ExtN H H') : KpT H H' := fun b xs z => e _ _ z fun ps q => by cases q
theorem ExtN.new {H : Hp} {p : Addr} (n : H p = none) (o : HO) : ExtN H (upd H p o) := .of fun b u e => by
  rw [upd_ne (ne_of_none e n)]
  exact e
theorem Tabs.new {T : List (Addr × Str)} {H : Hp} (t : Tabs T H) {p : Addr} (n : H p = none) (o : HO) : Tabs T (upd H p o) := t.ext fun b u e => by
  rw [upd_ne (ne_of_none e n)]
  exact e
/-- a tracked list is written: the tables stay -/
theorem Tabs.put {T : List (Addr × Str)} {H : Hp} (t : Tabs T H) {p : Addr} {xs : List V} (e : H p = some (.lst xs)) (o : HO) : Tabs T (upd H p o) := fun q hq => by
  obtain ⟨ps, h1, h2, h3⟩ := t q hq
  have n1 : q.1 ≠ p := fun z => by
    rw [z, e] at h1
    cases h1
  refine ⟨ps, by rw [upd_ne n1]; exact h1, h2, fun pos cv hc => ?_⟩
  obtain ⟨c, e1, e2⟩ := h3 pos cv hc
  refine ⟨c, e1, ?_⟩
  have n2 : c ≠ p := fun z => by
    rw [z, e] at e2
    unfold CodeO at e2
    cases e2
  rw [upd_ne n2]
  exact e2
theorem srt_num {H : Hp} {zs : List (Addr × En)} (he : ∀ z ∈ zs, EntAt H z.1 z.2) (nd : ((ens zs).map (·.num)).Nodup) (h : (refs zs).Pairwise (fun u v => keyAt H u ≤ keyAt H v)) : zs.Pairwise (fun a b => a.2.num < b.2.num) := by
  induction zs with
  | nil => exact .nil
  | cons z r ih =>
    have h1 := List.pairwise_cons.mp h
    have nd' : (z.2.num :: (ens r).map (·.num)).Nodup := nd
    have h2 := List.nodup_cons.mp nd'
    refine List.pairwise_cons.mpr ⟨fun y hy => ?_, ih (fun y hy => he y (List.mem_cons_of_mem _ hy)) h2.2 h1.2⟩
    have h3 := h1.1 (.ref y.1) (List.mem_map.mpr ⟨y, hy, rfl⟩)
    obtain ⟨_, _, k1⟩ := (he z List.mem_cons_self).key
    obtain ⟨_, _, k2⟩ := (he y (List.mem_cons_of_mem _ hy)).key
    rw [k1, k2] at h3
    have h4 : z.2.num ≠ y.2.num := fun q => h2.1 (List.mem_map.mpr ⟨y.2, List.mem_map.mpr ⟨y, hy, rfl⟩, q.symm⟩)
    omega
section
variable {P : Program} {w : World} {K : PySem.W.Frag} {mg : Str → Option Value} {base : Heap} {fRi : Addr} {dRi : FuncData} {T : List (Addr × Str)}
/-- an int of the module's top -/
def MgInt (mg : Str → Option Value) (x : Str) (i : Int) : Prop := ∃ t, mg x = some (.int i t)
theorem pe_num {X : Cx} {x : Str} {i : Int} {pos : Pos} (hg : Gl X x) (h : MgInt X.mg x i) (hd : (x == ("__debug__" : Str)) = false := by decide) : PE X (.Name x pos) (tC (.int i)) := by
  obtain ⟨t, h⟩ := h
  exact pe_glob hg h ⟨t, rfl⟩ hd
/-! ### the entries by their numbers -/
abbrev sRising : Stmt := topS 11
theorem scRising : FnScope ["book"] ["book"] (defScope sRising) := ⟨rfl, rfl, rfl, by decide +kernel, rfl, by decide +kernel, by decide +kernel⟩
/-- the book's text of the lambda's name -/
def qRis : Str := "entries_rising.<locals>.<lambda>"
def spRising (T : List (Addr × Str)) : Sp := fun vs H Q _ => ∃ (b fk t : Addr) (n : Nat) (age : Int) (zs : List (Addr × En)), vs = [.ref b] ∧ BookAt H b fk t n age zs ∧ Tabs T H ∧
  ∀ (p : Addr) (zs' : List (Addr × En)) (H' : Hp), ExtN H H' → Tabs T H' → Fresh H p → H' p = some (.lst (refs zs')) → zs'.Perm zs → zs'.Pairwise (fun a b => a.2.num < b.2.num) → Q (.ref p) H'
theorem ok_rising {f c tb : Addr} {fd : FuncData} {k : Nat} (F : Fun K "entries_rising" "entries_rising" sRising f fd) (hc : fd.code = .ref c) (TB : TabB base mg c tb) (ms : mg "sorted" = none) (mN : MgInt mg "NUMBER" 0) (hmT : (tb, qRis) ∈ T) (hu : ∀ p ∈ T, p.1 = tb → p.2 = qRis) :
    FnOk P w K mg base CX0 (k + 2) f fd ["book"] (spRising T) := by
  refine okC F hc scRising (fun vs H Q E h => ?_) (fun A outer s H vs Q E hr h => ?_)
  · obtain ⟨b, fk, t, n, age, zs, rfl, _⟩ := h
    rfl
  · obtain ⟨b, fk, t, n, age, zs, rfl, hB, hT, q⟩ := h
    refine ⟨_, pss_one (ps_ret (pe_sortK (T := T) (c := c) (P := tb) (k := k) (by rfl) ms (pa_cons (pe_ix ix_tup (pv 0) pe_int (fun _ _ => rfl)) pa_nil) hr TB rfl hmT hu rfl (by decide +kernel) rfl rfl rfl (by decide +kernel) rfl (fun _ _ _ _ _ _ => rfl) (fun env A E s' Q he hg hn hq => ?ix) (fun _ _ => rfl) (by decide))), ?_⟩
    case ix =>
      obtain ⟨tk, hN⟩ := mN
      refine Calls.Name_function_global (by rw [he]) (by unfold Env.kindOf; rw [he]; rfl) (Calls.loadGlobal_global (by rw [hg]; exact hn) hN (hq tk s'.toks))
    refine ⟨_, rfl, b, _, 2, _, rfl, rfl, SqT.of hB.at_, atI_nat (j := 2) rfl, t, refs zs, keyAt H, rfl, .inr (SqT.of hB.ents), fun y hy => ?_, hT, fun p ys H2 eN T2 np pm so => ?_⟩
    · obtain ⟨z, hz, rfl⟩ := List.mem_map.mp hy
      obtain ⟨r, h1, h2⟩ := (hB.ent z hz).key
      exact ⟨z.1, r, rfl, by rw [h2]; exact h1⟩
    · obtain ⟨zs', rfl, hp⟩ := perm_pairs (fun z : Addr × En => V.ref z.1) pm zs rfl
      refine q p zs' _ (eN.trans (ExtN.new np _)) (Tabs.new T2 np _) (Fresh.of eN np) upd_same hp (srt_num (fun z hz => hB.ent z (hp.mem_iff.mp hz)) (((hp.map _).map _).nodup_iff.mpr hB.ok.nd) so)
end
end Deed

namespace Deed
open PySem PySem.Spec PyProof.Rows L2 LamX
theorem take_more {α : Type} {l : List α} {i : Nat} {x : α} (h : l[i]? = some x) : l.take (i + 1) = l.take i ++ [x] := by
  rw [List.take_add_one, h]
  rfl
theorem ref_at {zs : List (Addr × En)} {i : Nat} {x : V} (h : (refs zs)[i]? = some x) : ∃ z, zs[i]? = some z ∧ x = .ref z.1 := by
  rw [List.getElem?_map] at h
  cases e : zs[i]? with
  | none => rw [e] at h; cases h
  | some z =>
    rw [e] at h
    exact ⟨z, rfl, (Option.some.inj h).symm⟩
section
variable {P : Program} {w : World} {K : PySem.W.Frag} {mg : Str → Option Value} {base : Heap} {fRi fDe : Addr} {dRi dDe : FuncData} {T : List (Addr × Str)}
/-- what entries_rising needs -/
structure RisD (K : PySem.W.Frag) (mg : Str → Option Value) (base : Heap) (T : List (Addr × Str)) (f : Addr) (fd : FuncData) : Prop where
  D : Df K mg "entries_rising" sRising ["book"] f fd
  hc : ∃ c tb, fd.code = .ref c ∧ TabB base mg c tb ∧ (tb, qRis) ∈ T ∧ ∀ p ∈ T, p.1 = tb → p.2 = qRis
  ms : mg "sorted" = none
  mN : MgInt mg "NUMBER" 0
theorem RisD.ok {k : Nat} {f : Addr} {fd : FuncData} (R : RisD K mg base T f fd) : FnOk P w K mg base CX0 (k + 2) f fd ["book"] (spRising T) := by
  obtain ⟨c, tb, h1, h2, h3, h4⟩ := R.hc
  exact ok_rising R.D.F h1 h2 R.ms R.mN h3 h4
/-- the entries that φ picks, by their numbers -/
def spPick (φ : En → Bool) (T : List (Addr × Str)) : Sp := fun vs H Q _ => ∃ (b fk t : Addr) (n : Nat) (age : Int) (zs : List (Addr × En)), vs = [.ref b] ∧ BookAt H b fk t n age zs ∧ Tabs T H ∧
  ∀ (p : Addr) (zs' : List (Addr × En)) (H' : Hp), ExtN H H' → Tabs T H' → Fresh H p → H' p = some (.lst (refs (zs'.filter fun z => φ z.2))) → zs'.Perm zs → zs'.Pairwise (fun a b => a.2.num < b.2.num) → Q (.ref p) H'
/-! ### their numbers -/
/-- the numbers of what φ picks, rising -/
def spNums (φ : En → Bool) (T : List (Addr × Str)) : Sp := fun vs H Q _ => ∃ (b fk t : Addr) (n : Nat) (age : Int) (zs : List (Addr × En)), vs = [.ref b] ∧ BookAt H b fk t n age zs ∧ Tabs T H ∧
  ∀ (p : Addr) (zs' : List (Addr × En)) (H' : Hp), ExtN H H' → Tabs T H' → Fresh H p → H' p = some (.lst (((zs'.filter fun z => φ z.2).map fun z => z.2.num).map V.int)) → zs'.Perm zs → zs'.Pairwise (fun a b => a.2.num < b.2.num) → Q (.ref p) H'
end
end Deed

namespace Deed
open PySem PySem.Spec PyProof.Rows L2 LamX
/-! ### rules whose reading names K; a def that may be called; comprehensions at large -/
theorem ix_tupK {X : Cx} {K : PySem.W.Frag} (h : X.K = K) : IxR X (rIxT K) := h ▸ ix_tup
theorem ix_listK {X : Cx} {K : PySem.W.Frag} (h : X.K = K) : IxR X (rIxL K) := h ▸ ix_list
theorem in_seqK {X : Cx} {K : PySem.W.Frag} (h : X.K = K) : OpR X (compareOp .In) (rIn K false) := h ▸ op_in_seq
theorem notIn_seqK {X : Cx} {K : PySem.W.Frag} (h : X.K = K) : OpR X (compareOp .NotIn) (rIn K true) := h ▸ op_notIn_seq
theorem len_seqK {X : Cx} {K : PySem.W.Frag} (h : X.K = K) : CallR X (.builtin "len") (rLenS K) := h ▸ call_len_seq
structure CallOk (P : Program) (w : World) (K : PySem.W.Frag) (mg : Str → Option Value) (base : Heap) (L : Nat) (x : Str) (ps : List Str) (sp : Sp) where
  f : Addr
  fd : FuncData
  g : mg x = some (.ref f)
  kp : PySem.W.keepIn K (.ref f) = true
  b : Binds K fd ps []
  ok : FnOk P w K mg base CX0 L f fd ps sp
def CallOk.mono {P : Program} {w : World} {K : PySem.W.Frag} {mg : Str → Option Value} {base : Heap} {L L' : Nat} {x : Str} {ps : List Str} {sp : Sp} (c : CallOk P w K mg base L x ps sp) (h : L ≤ L') : CallOk P w K mg base L' x ps sp := ⟨c.f, c.fd, c.g, c.kp, c.b, c.ok.mono h⟩
def Df.call {P : Program} {w : World} {K : PySem.W.Frag} {mg : Str → Option Value} {base : Heap} {L : Nat} {x : Str} {st : Stmt} {ps : List Str} {f : Addr} {fd : FuncData} {sp : Sp} (D : Df K mg x st ps f fd) (G : FnOk P w K mg base CX0 L f fd ps sp) : CallOk P w K mg base L x ps sp := ⟨f, fd, D.g, D.F.kp, D.b, G⟩
theorem nodup_len : ∀ {l m : List Int}, l.Nodup → (∀ x ∈ l, x ∈ m) → l.length ≤ m.length
  | [], m, _, _ => Nat.zero_le _
  | a :: r, m, h, hs => by
    rw [List.nodup_cons] at h
    have ha := hs a List.mem_cons_self
    have h1 := nodup_len (l := r) (m := m.erase a) h.2 fun x hx => by
      have hne : x ≠ a := fun z => h.1 (z ▸ hx)
      exact (List.mem_erase_of_ne hne).mpr (hs x (List.mem_cons_of_mem _ hx))
    rw [List.length_erase_of_mem ha] at h1
    have := List.length_pos_of_mem ha
    rw [List.length_cons]
    omega
theorem none_back {H H' : Hp} {p : Addr} (s : Same H H') (n : H' p = none) : H p = none := by
  cases h : H p with
  | none => rfl
  | some o => rw [s _ _ h] at n; cases n
theorem same_refl (H : Hp) : Same H H := fun _ _ e => e
theorem take_filter {α : Type} {p : α → Bool} {ys : List α} {i : Nat} {y : α} (h : ys[i]? = some y) : (ys.take (i + 1)).filter p = (ys.take i).filter p ++ (if p y then [y] else []) := by
  rw [take_more h, List.filter_append]
  congr 1
  cases hp : p y <;> simp [hp]
section
variable {J : It} {n : Nat} {G : Hp → Prop} {Y : Nat → Hp → V → Hp → Prop} {g : TG} {tt : TT} {te : TE} {vs : List Nat} {σ : L2.St} {H1 : Hp} {D : Addr} {Qd : Hp → Prop} {α : Type}
abbrev LcGoal (J : It) (g : TG) (tt : TT) (te : TE) (vs : List Nat) (σ : L2.St) (H1 : Hp) (D : Addr) (Qd : Hp → Prop) : Prop :=
  ∃ W : Nat → Nat → Hp → Prop, (∃ m, W 0 m (upd H1 D (.lst []))) ∧ ∀ i m H, W i m H →
      (J.stop i H ∧ Qd H) ∨ (J.go i H ∧ ∃ Nx : Hp → Prop, (∀ H', Nx H' → ∃ m', m' < m ∧ W (i + 1) m' H') ∧ ∀ x H', J.yld i H x H' → g x (wipe σ vs) H' fun σ2 H2 => wipe σ2 vs = wipe σ vs ∧ tt σ2 H2 fun b H3 =>
        if b = true then te σ2 H3 fun y H4 => ∃ acc, H4 D = some (.lst acc) ∧ acc.length < sizeLine ∧ Nx (upd H4 D (.lst (acc ++ [y]))) else Nx H3)
/-- at large: St a step of the heap, In what holds of it, E what holds of an item -/
theorem lc_gen (w : Walk J n G Y) (ys : List α) (p : α → Bool) (In : Hp → Prop) (Sp1 : Hp → Hp → Prop) (E : Hp → α → V → Prop) (hn : ys.length = n) (hlen : ys.length ≤ 1000) (h0 : In (upd H1 D (.lst []))) (hG : ∀ H, In H → G H)
    (hSt : ∀ H H', In H → Sp1 H H' → In H' ∧ ∀ xs, H D = some (.lst xs) → H' D = some (.lst xs)) (hPut : ∀ H xs l, In H → H D = some (.lst xs) → In (upd H D (.lst l)))
    (hE : ∀ H H' y u, In H → Sp1 H H' → E H y u → E H' y u) (hEp : ∀ H xs l y u, In H → H D = some (.lst xs) → E H y u → E (upd H D (.lst l)) y u)
    (hs : ∀ i y x H H', ys[i]? = some y → In H → Y i H x H' → ∀ (Q1 : V → Hp → Prop) (Q0 : Hp → Prop), (p y = true → ∀ u H4, Sp1 H H4 → E H4 y u → Q1 u H4) → (p y = false → ∀ H3, Sp1 H H3 → Q0 H3) →
      g x (wipe σ vs) H' fun σ2 H2 => wipe σ2 vs = wipe σ vs ∧ tt σ2 H2 fun b H3 => if b = true then te σ2 H3 Q1 else Q0 H3)
    (hd : ∀ H (zs : List (V × α)), In H → H D = some (.lst (zs.map (·.1))) → zs.map (·.2) = ys.filter p → (∀ z ∈ zs, E H z.2 z.1) → Qd H) : LcGoal J g tt te vs σ H1 D Qd := by
  refine lc_it w (fun i H => In H ∧ ∃ zs : List (V × α), H D = some (.lst (zs.map (·.1))) ∧ zs.map (·.2) = (ys.take i).filter p ∧ ∀ z ∈ zs, E H z.2 z.1) ⟨h0, [], upd_same, rfl, fun _ h => nomatch h⟩ (fun i H _ h => hG H h.1) ?_ ?_
  · rintro i x H H' hi ⟨hI, zs, eD, ez, hz⟩ hY
    rw [← hn] at hi
    have hy : ys[i]? = some ys[i] := List.getElem?_eq_getElem hi
    have hzl : zs.length ≤ 1000 := by
      have h1 := congrArg List.length ez
      rw [List.length_map] at h1
      have h2 := List.length_filter_le p (ys.take i)
      rw [List.length_take] at h2
      omega
    refine hs i ys[i] x H H' hy hI hY _ _ (fun hp u H4 s4 e4 => ?_) (fun hp H3 s3 => ?_)
    · obtain ⟨I4, k4⟩ := hSt _ _ hI s4
      have eD4 := k4 _ eD
      refine ⟨_, eD4, small1000 (by rw [List.length_map]; omega), hPut _ _ _ I4 eD4, zs ++ [(u, ys[i])], ?_, ?_, fun z hzz => ?_⟩
      · rw [upd_same, List.map_append]
        rfl
      · rw [List.map_append, ez, take_filter hy, hp]
        rfl
      · rcases List.mem_append.mp hzz with h | h
        · exact hEp _ _ _ _ _ I4 eD4 (hE _ _ _ _ hI s4 (hz z h))
        · rw [List.mem_singleton.mp h]
          exact hEp _ _ _ _ _ I4 eD4 e4
    · obtain ⟨I3, k3⟩ := hSt _ _ hI s3
      refine ⟨I3, zs, k3 _ eD, ?_, fun z hzz => hE _ _ _ _ hI s3 (hz z hzz)⟩
      rw [ez, take_filter hy, hp]
      simp
  · rintro H ⟨hI, zs, eD, ez, hz⟩
    rw [← hn, List.take_length] at ez
    exact hd H zs hI eD ez hz
theorem same_put {H H1 : Hp} {D : Addr} (nD : H1 D = none) (s : Same H1 H) (o : HO) : Same H1 (upd H D o) := fun b u e => by
  rw [upd_ne (ne_of_none e nD)]
  exact s _ _ e
theorem same_new {H : Hp} {p : Addr} (n : H p = none) (o : HO) : Same H (upd H p o) := fun b u e => by rw [upd_ne (ne_of_none e n)]; exact e
/-- values; nothing but the new list is otherwise -/
theorem lc_sameV (w : Walk J n G Y) (ys : List α) (p : α → Bool) (v : α → V) (hn : ys.length = n) (hlen : ys.length ≤ 1000) (nD : H1 D = none) (hG : ∀ H, Same H1 H → G H)
    (hs : ∀ i y x H H', ys[i]? = some y → Same H1 H → Y i H x H' → ∀ (Q1 : V → Hp → Prop) (Q0 : Hp → Prop), (p y = true → ∀ H4, Same H H4 → Q1 (v y) H4) → (p y = false → ∀ H3, Same H H3 → Q0 H3) →
      g x (wipe σ vs) H' fun σ2 H2 => wipe σ2 vs = wipe σ vs ∧ tt σ2 H2 fun b H3 => if b = true then te σ2 H3 Q1 else Q0 H3)
    (hd : ∀ H, Same H1 H → H D = some (.lst ((ys.filter p).map v)) → Qd H) : LcGoal J g tt te vs σ H1 D Qd := by
  refine lc_gen w ys p (fun H => Same H1 H) Same (fun _ y u => u = v y) hn hlen (same_new nD _) hG (fun H H' h1 h2 => ⟨h1.trans h2, fun xs e => h2 _ _ e⟩) (fun H xs l h1 _ => same_put nD h1 _) (fun _ _ _ _ _ _ e => e) (fun _ _ _ _ _ _ _ e => e) (fun i y x H H' hy h1 hY Q1 Q0 q1 q0 => ?_) (fun H zs h1 e ez hz => ?_)
  · exact hs i y x H H' hy h1 hY Q1 Q0 (fun hp H4 s4 => q1 hp _ H4 s4 rfl) q0
  · refine hd H h1 ?_
    rw [e, ← ez, List.map_map]
    congr 2
    exact List.map_congr_left fun z hzz => hz z hzz
theorem lc_sameM (w : Walk J n G Y) (ys : List α) (v : α → V) (hn : ys.length = n) (hlen : ys.length ≤ 1000) (nD : H1 D = none) (hG : ∀ H, Same H1 H → G H)
    (hs : ∀ i y x H H', ys[i]? = some y → Same H1 H → Y i H x H' → ∀ (Q1 : V → Hp → Prop), (∀ H4, Same H H4 → Q1 (v y) H4) → g x (wipe σ vs) H' fun σ2 H2 => wipe σ2 vs = wipe σ vs ∧ te σ2 H2 Q1)
    (hd : ∀ H, Same H1 H → H D = some (.lst (ys.map v)) → Qd H) : LcGoal J g tYes te vs σ H1 D Qd := by
  refine lc_sameV w ys (fun _ => true) v hn hlen nD hG (fun i y x H H' hy h1 hY Q1 Q0 q1 q0 => ?_) (fun H h1 e => hd H h1 (by rw [e, List.filter_eq_self.mpr fun _ _ => rfl]))
  exact hs i y x H H' hy h1 hY Q1 (fun H4 s4 => q1 rfl H4 s4)
/-- new tuples -/
theorem lc_sameT (w : Walk J n G Y) (ys : List α) (p : α → Bool) (v : α → List V) (hn : ys.length = n) (hlen : ys.length ≤ 1000) (nD : H1 D = none) (hG : ∀ H, Same H1 H → G H)
    (hs : ∀ i y x H H', ys[i]? = some y → Same H1 H → Y i H x H' → ∀ (Q1 : V → Hp → Prop) (Q0 : Hp → Prop), (p y = true → ∀ t H4, Same H H4 → H4 t = some (.tup (v y)) → Q1 (.ref t) H4) → (p y = false → ∀ H3, Same H H3 → Q0 H3) →
      g x (wipe σ vs) H' fun σ2 H2 => wipe σ2 vs = wipe σ vs ∧ tt σ2 H2 fun b H3 => if b = true then te σ2 H3 Q1 else Q0 H3)
    (hd : ∀ H (zs : List (Addr × α)), Same H1 H → H D = some (.lst (zs.map fun z => .ref z.1)) → zs.map (·.2) = ys.filter p → (∀ z ∈ zs, H z.1 = some (.tup (v z.2))) → Qd H) : LcGoal J g tt te vs σ H1 D Qd := by
  refine lc_gen w ys p (fun H => Same H1 H) Same (fun H y u => ∃ t, u = .ref t ∧ H t = some (.tup (v y))) hn hlen (same_new nD _) hG (fun H H' h1 h2 => ⟨h1.trans h2, fun xs e => h2 _ _ e⟩) (fun H xs l h1 _ => same_put nD h1 _) (fun H H' y u _ h2 e => ?_) (fun H xs l y u h1 h2 e => ?_) (fun i y x H H' hy h1 hY Q1 Q0 q1 q0 => ?_) (fun H zs h1 e ez hz => ?_)
  · obtain ⟨t, e1, e2⟩ := e
    exact ⟨t, e1, h2 _ _ e2⟩
  · obtain ⟨t, e1, e2⟩ := e
    refine ⟨t, e1, ?_⟩
    rw [upd_ne fun z => by rw [z, h2] at e2; cases e2]
    exact e2
  · exact hs i y x H H' hy h1 hY Q1 Q0 (fun hp t H4 s4 e4 => q1 hp _ H4 s4 ⟨t, rfl, e4⟩) q0
  · have key : ∀ zs : List (V × α), (∀ z ∈ zs, ∃ t, z.1 = .ref t ∧ H t = some (.tup (v z.2))) → ∃ ws : List (Addr × α), zs.map (·.1) = ws.map (fun z => V.ref z.1) ∧ ws.map (·.2) = zs.map (·.2) ∧ ∀ z ∈ ws, H z.1 = some (.tup (v z.2)) := by
      intro zs
      induction zs with
      | nil => exact fun _ => ⟨[], rfl, rfl, fun _ h => nomatch h⟩
      | cons z r ih =>
        intro h
        obtain ⟨ws, a1, a2, a3⟩ := ih fun x hx => h x (List.mem_cons_of_mem _ hx)
        obtain ⟨t, e1, e2⟩ := h z List.mem_cons_self
        refine ⟨(t, z.2) :: ws, ?_, ?_, fun x hx => ?_⟩
        · rw [List.map_cons, List.map_cons, a1, e1]
        · rw [List.map_cons, List.map_cons, a2]
        · rcases List.mem_cons.mp hx with h | h
          · rw [h]
            exact e2
          · exact a3 x h
    obtain ⟨ws, a1, a2, a3⟩ := key zs hz
    exact hd H ws h1 (by rw [e, a1]) (by rw [a2, ez]) a3
end
end Deed

namespace Deed
open PySem PySem.Spec PyProof.Rows L2 LamX
theorem cutTake {α : Type} (f : α → V) (l : List α) {v : Int} (h : 0 ≤ v) : cutV (l.map f) none (some v) = (l.take v.toNat).map f := by
  unfold cutV
  obtain ⟨n, rfl⟩ : ∃ n : Nat, v = n := ⟨v.toNat, by omega⟩
  rw [HT.sIx_none, HT.sIx_nat, List.drop_zero, List.length_map, Int.toNat_natCast, Nat.sub_zero, ← List.map_take]
  congr 1
  rw [List.take_eq_take_iff]
  omega
theorem cutDrop {α : Type} (f : α → V) (l : List α) (m : Nat) : cutV (l.map f) (some (m : Int)) none = (l.drop m).map f := by
  unfold cutV
  rw [HT.sIx_none, HT.sIx_nat, List.length_map, ← List.map_drop, ← List.map_take]
  congr 1
  by_cases h : m ≤ l.length
  · rw [Nat.min_eq_left h, List.take_of_length_le (by rw [List.length_drop]; omega)]
  · rw [Nat.min_eq_right (by omega), List.drop_of_length_le (by omega), List.drop_of_length_le (by omega), List.take_nil]
section
variable {P : Program} {w : World} {K : PySem.W.Frag} {mg : Str → Option Value} {base : Heap}
abbrev CDraw (P : Program) (w : World) (K : PySem.W.Frag) (mg : Str → Option Value) (base : Heap) (k : Nat) := CallOk P w K mg base k "_law_draw" ["_law_pen_here", "_law_bound"] spDraw
abbrev sDay : Stmt := topS 38
abbrev nDay : List Str := ["_law_pen_here"]
abbrev pDay : List Str := ["_law_pen_here"]
theorem scDay : FnScope nDay pDay (defScope sDay) := ⟨rfl, rfl, rfl, by decide +kernel, rfl, by decide +kernel, by decide +kernel⟩
def spDay : Sp := fun vs H Q _ => ∃ (p : Addr), vs = [.ref p] ∧ PenAt H p ∧ ∀ v H', Kp p H H' → PenAt H' p → 0 ≤ v → v ≤ 9999 → Q (.int v) H'
theorem ok_day {f : Addr} {fd : FuncData} {k : Nat} (F : Fun K "_law_day" "_law_day" sDay f fd) (C__law_draw : CDraw P w K mg base k) : FnOk P w K mg base CX0 (k + 1) f fd pDay spDay := by
  refine F.ok scDay (fun vs H Q E h => ?_) (fun cdv A outer s H vs Q E hr h => ?_)
  · obtain ⟨p, rfl, _⟩ := h
    rfl
  · obtain ⟨p, rfl, hP, q⟩ := h
    refine ⟨_, pss_one (ps_ret (pe_ix ix_list (pe_lst (pa_cons (pe_call C__law_draw.ok hr (by rfl) C__law_draw.g C__law_draw.kp C__law_draw.b .nil pass0 (pa_cons (pv 0) (pa_cons pe_int pa_nil))) (pa_cons (pe_call C__law_draw.ok hr (by rfl) C__law_draw.g C__law_draw.kp C__law_draw.b .nil pass0 (pa_cons (pv 0) (pa_cons pe_int pa_nil))) (pa_cons (pe_call C__law_draw.ok hr (by rfl) C__law_draw.g C__law_draw.kp C__law_draw.b .nil pass0 (pa_cons (pv 0) (pa_cons pe_int pa_nil))) pa_nil)))) (pe_op op_fdiv (pe_call C__law_draw.ok hr (by rfl) C__law_draw.g C__law_draw.kp C__law_draw.b .nil pass0 (pa_cons (pv 0) (pa_cons pe_int pa_nil))) pe_int) (fun _ _ => rfl))), ?_⟩
    refine ⟨_, rfl, p, 7, rfl, hP, by decide, by decide, fun v1 H1 k1 P1 a1 b1 => ?_⟩
    refine ⟨_, rfl, p, 40, rfl, P1, by decide, by decide, fun v2 H2 k2 P2 a2 b2 => ?_⟩
    refine ⟨_, rfl, p, 10000, rfl, P2, by decide, by decide, fun v3 H3 k3 P3 a3 b3 => ?_⟩
    refine ⟨(by show 3 ≤ sizeLine; decide), fun l nl => ?_⟩
    refine ⟨_, rfl, p, 6, rfl, P3.new nl _, by decide, by decide, fun v4 H4 k4 P4 a4 b4 => ?_⟩
    refine ⟨_, _, rfl, rfl, ⟨by decide, by decide⟩, ?_⟩
    obtain ⟨_, g5, n5, rfl, a5, b5⟩ := pick (i := v4 / 2) (xs := [.int v1, .int v2, .int v3]) (Within 0 9999) (by omega) (by show v4 / 2 < 3; omega) (am1 ⟨_, rfl, by omega, by omega⟩ (am1 ⟨_, rfl, by omega, by omega⟩ (am1 ⟨_, rfl, by omega, by omega⟩ am0)))
    refine ⟨l, _, _, _, rfl, rfl, SqL.of (k4 _ _ (P3.free nl) upd_same), g5, ?_⟩
    exact q n5 _ (k1.trans (k2.trans (k3.trans ((Kp.new nl _).trans k4)))) P4 a5 b5
abbrev sFolk : Stmt := topS 36
abbrev nFolk : List Str := ["_law_pen_here", "_law_least", "_law_found", "_law_k", "_law_born", "_law_died"]
abbrev pFolk : List Str := ["_law_pen_here", "_law_least"]
theorem scFolk : FnScope nFolk pFolk (defScope sFolk) := ⟨rfl, rfl, rfl, by decide +kernel, rfl, by decide +kernel, by decide +kernel⟩
def spFolk : Sp := fun vs H Q _ => ∃ (p : Addr) (least : Int), vs = [.ref p, .int least] ∧ PenAt H p ∧ 1 ≤ least ∧ least ≤ 6 ∧ ∀ t (n : Nat) H', Kp p H H' → PenAt H' p → FolkAt H' t n → least ≤ n → n ≤ 6 → Q (.ref t) H'
theorem ok_folk {f : Addr} {fd : FuncData} {k : Nat} (F : Fun K "_law_folk" "_law_folk" sFolk f fd) (C__law_draw : CDraw P w K mg base k) (m_range : mg "range" = none) (m_min : mg "min" = none) (m_tuple : mg "tuple" = none) : FnOk P w K mg base CX0 (k + 1) f fd pFolk spFolk := by
  refine F.ok scFolk (fun vs H Q E h => ?_) (fun cdv A outer s H vs Q E hr h => ?_)
  · obtain ⟨p, l, rfl, _⟩ := h
    rfl
  · obtain ⟨p, least, rfl, hP, hl1, hl6, q⟩ := h
    have nd := scFolk.nd
    refine ⟨_, pss_cons (ps_set (i := 2) nd rfl (.inl rfl) (pe_lst pa_nil))
      (pss_cons (ps_for PassesOwn.never rfl (pi_range1 rfl m_range (pa_cons (pe_op op_add (pv 1) (pe_call C__law_draw.ok hr (by rfl) C__law_draw.g C__law_draw.kp C__law_draw.b .nil pass0 (pa_cons (pv 0) (pa_cons (pe_op op_sub pe_int (pv 1)) pa_nil)))) pa_nil)) (pg_name (i := 3) nd rfl (.inl rfl))
        (pss_cons (ps_set (i := 4) nd rfl (.inl rfl) (pe_ix ix_list (pe_lst (pa_cons (pe_op op_sub pe_int (pe_call C__law_draw.ok hr (by rfl) C__law_draw.g C__law_draw.kp C__law_draw.b .nil pass0 (pa_cons (pv 0) (pa_cons pe_int pa_nil)))) (pa_cons (pe_call C__law_draw.ok hr (by rfl) C__law_draw.g C__law_draw.kp C__law_draw.b .nil pass0 (pa_cons (pv 0) (pa_cons pe_int pa_nil))) (pa_cons (pe_op op_sub (pe_call C__law_draw.ok hr (by rfl) C__law_draw.g C__law_draw.kp C__law_draw.b .nil pass0 (pa_cons (pv 0) (pa_cons pe_int pa_nil))) pe_int) pa_nil)))) (pe_op op_fdiv (pe_call C__law_draw.ok hr (by rfl) C__law_draw.g C__law_draw.kp C__law_draw.b .nil pass0 (pa_cons (pv 0) (pa_cons pe_int pa_nil))) pe_int) (fun _ _ => rfl)))
      (pss_cons (ps_set (i := 5) nd rfl (.inl rfl) (pe_callB (call_min2 rfl) (by rfl) m_min (by decide +kernel) (pa_cons pe_int (pa_cons (pe_op op_add (pe_op op_add (pv 4) pe_int) (pe_ix ix_list (pe_lst (pa_cons (pe_call C__law_draw.ok hr (by rfl) C__law_draw.g C__law_draw.kp C__law_draw.b .nil pass0 (pa_cons (pv 0) (pa_cons pe_int pa_nil))) (pa_cons (pe_call C__law_draw.ok hr (by rfl) C__law_draw.g C__law_draw.kp C__law_draw.b .nil pass0 (pa_cons (pv 0) (pa_cons pe_int pa_nil))) pa_nil))) (pe_call C__law_draw.ok hr (by rfl) C__law_draw.g C__law_draw.kp C__law_draw.b .nil pass0 (pa_cons (pv 0) (pa_cons pe_int pa_nil))) (fun _ _ => rfl))) pa_nil))))
      (pss_one (ps_expr (pe_bm PySem.F.plainAttrs_list PySem.F.slot_list_append PySem.F.type_list_append mt_append (pv 2) (pa_cons (pe_tup (pa_cons (pv 4) (pa_cons (pe_ix ix_list (pe_lst (pa_cons pe_non (pa_cons (pv 5) pa_nil))) (pe_call C__law_draw.ok hr (by rfl) C__law_draw.g C__law_draw.kp C__law_draw.b .nil pass0 (pa_cons (pv 0) (pa_cons pe_int pa_nil))) (fun _ _ => rfl)) pa_nil))) pa_nil)))))))
      (pss_one (ps_ret (pe_callTy call_tuple_of (by rfl) m_tuple (by decide +kernel) (pa_cons (pv 2) pa_nil))))), ?_⟩
    refine ⟨Nat.zero_le _, fun l hl => ?_⟩
    have Pl : PenAt (upd H l (.lst [])) p := hP.new hl _
    have nl : l ≠ p := hP.free hl
    refine ⟨_, rfl, _, rfl, _, rfl, _, _, rfl, rfl, p, 7 - least, rfl, Pl, by omega, by omega, fun v1 H1 k1 P1 a1 b1 => ?_⟩
    refine ⟨_, _, rfl, rfl, _, rfl, by omega, by omega, ?_⟩
    refine for_range (lo := 0) (n := (least + v1).toNat) (fun i σ H' => ∃ y3 y4 y5 xs, σ = [some (.ref p), some (.int least), some (.ref l), y3, y4, y5] ∧ Kp p H H' ∧ PenAt H' p ∧ H' l = some (.lst xs) ∧ xs.length = i ∧ ∀ x ∈ xs, PersonAt H' x)
      ⟨none, none, none, [], rfl, (Kp.new hl _).trans k1, P1, k1 _ _ nl upd_same, rfl, am0⟩ ?_ ?_
    · rintro i σ H' hi ⟨y3, y4, y5, xs, rfl, k', P', el, ln, ps⟩
      refine ⟨_, rfl, p, 40, rfl, P', by decide, by decide, fun v2 H2 k2 P2 a2 b2 => ⟨_, _, rfl, rfl, ?_⟩⟩
      refine ⟨_, rfl, p, 9, rfl, P2, by decide, by decide, fun v2' H2' k2' P2' a2' b2' => ?_⟩
      refine ⟨_, rfl, p, 9000, rfl, P2', by decide, by decide, fun v3 H3 k3 P3 a3 b3 => ⟨_, _, rfl, rfl, ?_⟩⟩
      refine ⟨(by show 3 ≤ sizeLine; decide), fun m hm => ?_⟩
      refine ⟨_, rfl, p, 5, rfl, P3.new hm _, by decide, by decide, fun v4 H4 k4 P4 a4 b4 => ?_⟩
      refine ⟨_, _, rfl, rfl, ⟨by decide, by decide⟩, ?_⟩
      obtain ⟨_, g5, n5, rfl, a5, b5⟩ := pick (i := v4 / 2) (xs := [.int (0 - v2), .int v2', .int (v3 - 4000)]) (Within (-9999) 9998) (by omega) (by show v4 / 2 < 3; omega) (am1 ⟨_, rfl, by omega, by omega⟩ (am1 ⟨_, rfl, by omega, by omega⟩ (am1 ⟨_, rfl, by omega, by omega⟩ am0)))
      refine ⟨m, _, _, _, rfl, rfl, SqL.of (k4 _ _ (P3.free hm) upd_same), g5, ?_⟩
      have kA : Kp p H' H4 := k2.trans (k2'.trans (k3.trans ((Kp.new hm _).trans k4)))
      refine ⟨_, rfl, _, _, rfl, rfl, ?_⟩
      refine ⟨_, rfl, p, 60, rfl, P4, by decide, by decide, fun v6 H6 k6 P6 a6 b6 => ?_⟩
      refine ⟨_, rfl, p, 9999, rfl, P6, by decide, by decide, fun v7 H7 k7 P7 a7 b7 => ?_⟩
      refine ⟨(by show 2 ≤ sizeLine; decide), fun m2 hm2 => ?_⟩
      refine ⟨_, rfl, p, 2, rfl, P7.new hm2 _, by decide, by decide, fun v8 H8 k8 P8 a8 b8 => ?_⟩
      obtain ⟨_, g9, n9, rfl, a9, b9⟩ := pick (xs := [.int v6, .int v7]) (Within 0 9998) a8 b8 (am1 ⟨_, rfl, by omega, by omega⟩ (am1 ⟨_, rfl, by omega, by omega⟩ am0))
      refine ⟨m2, _, v8, _, rfl, rfl, SqL.of (k8 _ _ (P7.free hm2) upd_same), g9, _, _, rfl, rfl, _, _, rfl, ?_⟩
      have kB : Kp p H4 H8 := k6.trans (k7.trans ((Kp.new hm2 _).trans k8))
      have hd : n5 < (if n5 + 1 + n9 < 9999 then n5 + 1 + n9 else 9999) ∧ (if n5 + 1 + n9 < 9999 then n5 + 1 + n9 else 9999) ≤ 9999 := by
        split <;> omega
      generalize (if n5 + 1 + n9 < 9999 then n5 + 1 + n9 else 9999) = dd at hd
      have kC := kA.trans kB
      have el8 := kC _ _ nl el
      refine ⟨_, rfl, .inl ⟨rfl, _, SqL.of el8⟩, _, rfl, _, rfl, (by show 2 ≤ sizeLine; decide), fun m3 hm3 => ?_⟩
      refine ⟨_, rfl, p, 2, rfl, P8.new hm3 _, by decide, by decide, fun v10 H10 k10 P10 a10 b10 => ?_⟩
      obtain ⟨vd, g11, hvd⟩ := pick (xs := [.non, .int dd]) (fun d => d = .non ∨ ∃ i : Int, d = .int i ∧ n5 < i ∧ i ≤ 9999) a10 b10 (am1 (.inl rfl) (am1 (.inr ⟨_, rfl, hd⟩) am0))
      refine ⟨m3, _, v10, _, rfl, rfl, SqL.of (k10 _ _ (P8.free hm3) upd_same), g11, (by show 2 ≤ sizeLine; decide), fun t ht => ?_⟩
      have kD := (kC.trans ((Kp.new hm3 _).trans k10)).trans (Kp.new (p := p) ht (.tup [.int n5, vd]))
      have elD := kD _ _ nl el
      have PD : PenAt (upd H10 t (.tup [.int n5, vd])) p := P10.new ht _
      refine ⟨l, _, _, rfl, rfl, elD, small1000 (by omega), ?_⟩
      have kE : ∀ b o, b ≠ p → b ≠ l → H' b = some o → (upd (upd H10 t (.tup [.int n5, vd])) l (.lst (xs ++ [.ref t]))) b = some o := fun b o n1 n2 e => by
        rw [upd_ne n2]
        exact kD _ _ n1 e
      have ntl : t ≠ l := fun z => by
        have := (kC.trans ((Kp.new hm3 _).trans k10)) _ _ nl el
        rw [z, this] at ht
        cases ht
      refine ⟨_, _, _, xs ++ [.ref t], rfl, fun b o n1 e => ?_, ?_, upd_same, ?_, fun x hx => ?_⟩
      · by_cases hb : b = l
        · rw [hb, hl] at e
          cases e
        · exact kE b o n1 hb (k' _ _ n1 e)
      · obtain ⟨x1, x2, x3, x4, e1, e2⟩ := PD
        exact ⟨x1, x2, x3, x4, by rw [upd_ne nl.symm]; exact e1, e2⟩
      · rw [List.length_append, ln]
        rfl
      · rcases List.mem_append.mp hx with hx | hx
        · obtain ⟨a, b, d, e, h1, r⟩ := ps x hx
          exact ⟨a, b, d, e, kE _ _ (P'.ne h1 fun _ z => by cases z) (fun z => by rw [z, el] at h1; cases h1) h1, r⟩
        · rw [List.mem_singleton.mp hx]
          exact ⟨t, n5, vd, rfl, by rw [upd_ne ntl, upd_same], by omega, by omega, hvd⟩
    · rintro σ H' ⟨y3, y4, y5, xs, rfl, k', P', el, ln, ps⟩
      refine ⟨_, rfl, l, xs, rfl, .inl ⟨SqL.of el, fun t ht => ?_⟩⟩
      have kF : Kp p H' (upd H' t (.tup xs)) := Kp.new ht _
      exact q t (least + v1).toNat _ (k'.trans kF) (P'.new ht _) ⟨xs, upd_same, ln, fun x hx => (ps x hx).kp kF P'⟩ (by omega) (by omega)
abbrev sFew : Stmt := topS 39
abbrev nFew : List Str := ["_law_pen_here", "_law_some", "_law_most", "_law_left"]
abbrev pFew : List Str := ["_law_pen_here", "_law_some", "_law_most"]
theorem scFew : FnScope nFew pFew (defScope sFew) := ⟨rfl, rfl, rfl, by decide +kernel, rfl, by decide +kernel, by decide +kernel⟩
def spFew (K : PySem.W.Frag) : Sp := fun vs H Q _ => ∃ (p a : Addr) (most : Int) (ns : List Int), vs = [.ref p, .ref a, .int most] ∧ PenAt H p ∧ SqL K H a (ns.map V.int) ∧ 0 ≤ most ∧ most ≤ 1000 ∧ ns.length ≤ 1000 ∧
  ∀ t (rs ls : List Int) H', Kp p H H' → PenAt H' p → H' t = some (.tup (rs.map V.int)) → (rs ++ ls).Perm ns → rs.Pairwise (· ≤ ·) → rs.length ≤ most → Q (.ref t) H'
theorem ok_few {f : Addr} {fd : FuncData} {k : Nat} (F : Fun K "_law_few" "_law_few" sFew f fd) (C__law_draw : CDraw P w K mg base k) (C__law_mixed : CallOk P w K mg base k "_law_mixed" ["_law_pen_here", "_law_some"] (spMixed K)) (m_tuple : mg "tuple" = none) (m_sorted : mg "sorted" = none) : FnOk P w K mg base CX0 (k + 1) f fd pFew (spFew K) := by
  refine F.ok scFew (fun vs H Q E h => ?_) (fun cdv A outer s H vs Q E hr h => ?_)
  · obtain ⟨p, a, most, ns, rfl, _⟩ := h
    rfl
  · obtain ⟨p, a, most, ns, rfl, hP, hS, hm0, hm1, hln, q⟩ := h
    have nd := scFew.nd
    refine ⟨_, pss_cons (ps_set (i := 3) nd rfl (.inl rfl) (pe_call C__law_mixed.ok hr (by rfl) C__law_mixed.g C__law_mixed.kp C__law_mixed.b .nil pass0 (pa_cons (pv 0) (pa_cons (pv 1) pa_nil))))
      (pss_one (ps_ret (pe_callTy call_tuple_of (by rfl) m_tuple (by decide +kernel) (pa_cons (pe_callB cr_sortedI (by rfl) m_sorted (by decide +kernel) (pa_cons (pe_slice sl_list (pv 3) po_none (po_some (pe_call C__law_draw.ok hr (by rfl) C__law_draw.g C__law_draw.kp C__law_draw.b .nil pass0 (pa_cons (pv 0) (pa_cons (pe_op op_add (pv 2) pe_int) pa_nil))))) pa_nil)) pa_nil)))), ?_⟩
    refine ⟨_, rfl, _, rfl, p, a, _, rfl, hP, .inl hS, by rw [List.length_map]; exact hln, fun l ys H1 k1 P1 nl el pm => ?_⟩
    obtain ⟨ms, rfl, pm2⟩ := perm_pairs V.int pm ns rfl
    have nlp : l ≠ p := hP.free nl
    refine ⟨_, rfl, _, rfl, _, rfl, _, _, rfl, rfl, p, most + 1, rfl, P1, by omega, by omega, fun v H2 k2 P2 a2 b2 => ?_⟩
    have el2 := k2 _ _ nlp el
    refine ⟨_, rfl, l, _, rfl, SqL.of el2, fun s1 ns1 => ?_⟩
    rw [cutTake _ _ a2]
    have P3 := P2.new ns1 (.lst ((ms.take v.toNat).map V.int))
    have k3 : Kp p H2 _ := Kp.new ns1 (.lst ((ms.take v.toNat).map V.int))
    refine ⟨s1, _, rfl, SqL.of upd_same, fun rs m pm3 up nm => ?_⟩
    refine ⟨m, _, rfl, .inl ⟨SqL.of upd_same, fun t nt => ?_⟩⟩
    refine q t rs (ms.drop v.toNat) _ (k1.trans (k2.trans (k3.trans ((Kp.new nm _).trans (Kp.new nt _))))) ((P3.new nm _).new nt _) upd_same ?_ up ?_
    · refine (List.Perm.append_right _ pm3).trans ?_
      rw [List.take_append_drop]
      exact pm2
    · rw [pm3.length_eq, List.length_take]
      omega
end
end Deed

namespace Deed
open PySem PySem.Spec PyProof.Rows L2 LamX
section
variable {P : Program} {w : World} {K : PySem.W.Frag} {mg : Str → Option Value} {base : Heap}
def rgI (n : Nat) : List Int := (List.range n).map fun i : Nat => (i : Int)
theorem rgV_ints (n : Nat) : rgV 0 (n : Int) = (rgI n).map V.int := by
  unfold rgV rgI
  rw [List.map_map]
  simp
theorem rgI_len (n : Nat) : (rgI n).length = n := by unfold rgI; simp
abbrev sDeed : Stmt := topS 40
abbrev nDeed : List Str := ["_law_pen_here", "_law_number", "_law_folk_here", "_law_deeds", "_law_both", "_law_giver", "_law_taker", "_law_head"]
abbrev pDeed : List Str := ["_law_pen_here", "_law_number", "_law_folk_here", "_law_deeds"]
theorem scDeed : FnScope nDeed pDeed (defScope sDeed) := ⟨rfl, rfl, rfl, by decide +kernel, rfl, by decide +kernel, by decide +kernel⟩
def spDeed (K : PySem.W.Frag) : Sp := fun vs H Q _ => ∃ (p fk ld : Addr) (num : Int) (n : Nat) (ds : List Int), vs = [.ref p, .int num, .ref fk, .ref ld] ∧ PenAt H p ∧ FolkAt H fk n ∧ 2 ≤ n ∧ n ≤ 6 ∧ H ld = some (.lst (ds.map V.int)) ∧ ld ≠ p ∧ ds.Nodup ∧ ds.length ≤ 1000 ∧ (∀ d ∈ ds, d < num) ∧
  ∀ a (e : En) H', Kp p H H' → PenAt H' p → EntAt H' a e → e.num = num → e.isDeed = true → (∀ as, EnOk n ds as e) → Q (.ref a) H'
theorem ok_deed {f : Addr} {fd : FuncData} {k : Nat} (F : Fun K "_law_deed" "_law_deed" sDeed f fd) (C__law_draw : CDraw P w K mg base k) (C__law_day : CallOk P w K mg base k "_law_day" pDay spDay) (C__law_mixed : CallOk P w K mg base k "_law_mixed" ["_law_pen_here", "_law_some"] (spMixed K)) (C__law_few : CallOk P w K mg base k "_law_few" pFew (spFew K)) (m_list : mg "list" = none) (m_range : mg "range" = none) (m_len : mg "len" = none) : FnOk P w K mg base CX0 (k + 1) f fd pDeed (spDeed K) := by
  refine F.ok scDeed (fun vs H Q E h => ?_) (fun cdv A outer s H vs Q E hr h => ?_)
  · obtain ⟨p, fk, ld, num, n, ds, rfl, _⟩ := h
    rfl
  · obtain ⟨p, fk, ld, num, n, ds, rfl, hP, hF, h2, h6, eld, nld, hnd, hdl, hdn, q⟩ := h
    have nd := scDeed.nd
    refine ⟨_, pss_cons (ps_set (i := 4) nd rfl (.inl rfl) (pe_call C__law_mixed.ok hr (by rfl) C__law_mixed.g C__law_mixed.kp C__law_mixed.b .nil pass0 (pa_cons (pv 0) (pa_cons (pe_listRg (by rfl) (by rfl) m_list (prg_1 (by rfl) m_range (pe_callB call_len_seq (by rfl) m_len (by decide +kernel) (pa_cons (pv 2) pa_nil)))) pa_nil))))
      (pss_cons (ps_par (i := 5) (j := 6) (by rfl) nd rfl rfl (by decide) rfl rfl (pa_cons (pe_ix ix_list (pv 4) pe_int (fun _ _ => rfl)) (pa_cons (pe_ix ix_list (pv 4) pe_int (fun _ _ => rfl)) pa_nil)) (by rfl))
      (pss_cons (ps_set (i := 7) nd rfl (.inl rfl) (pe_tup (pa_cons (pv 1) (pa_cons (pe_call C__law_day.ok hr (by rfl) C__law_day.g C__law_day.kp C__law_day.b .nil pass0 (pa_cons (pv 0) pa_nil)) (pa_cons (pe_call C__law_day.ok hr (by rfl) C__law_day.g C__law_day.kp C__law_day.b .nil pass0 (pa_cons (pv 0) pa_nil)) (pa_cons (pe_call C__law_draw.ok hr (by rfl) C__law_draw.g C__law_draw.kp C__law_draw.b .nil pass0 (pa_cons (pv 0) (pa_cons pe_int pa_nil))) (pa_cons pe_str (pa_cons (pv 5) (pa_cons (pv 6) pa_nil)))))))))
      (pss_one (ps_ret (pe_op op_catT (pv 7) (pe_tup (pa_cons (pe_call C__law_few.ok hr (by rfl) C__law_few.g C__law_few.kp C__law_few.b .nil pass0 (pa_cons (pv 0) (pa_cons (pv 3) (pa_cons pe_int pa_nil)))) (pa_cons (pe_call C__law_few.ok hr (by rfl) C__law_few.g C__law_few.kp C__law_few.b .nil pass0 (pa_cons (pv 0) (pa_cons (pe_slice sl_list (pv 4) (po_some pe_int) po_none) (pa_cons pe_int pa_nil)))) pa_nil)))))))), ?_⟩
    obtain ⟨xs, ef, hxl, _⟩ := id hF
    refine ⟨_, rfl, _, rfl, fk, _, rfl, .inr (SqT.of ef), _, rfl, ?_, fun l1 nl1 => ?_⟩
    · unfold RgOk
      rw [hxl]
      refine ⟨by omega, by omega, by omega, by omega, ?_⟩
      exact Nat.le_of_lt (small1000 (by omega))
    rw [hxl, rgV_ints]
    have k1 : Kp p H _ := Kp.new nl1 (.lst ((rgI n).map V.int))
    have P1 := hP.new nl1 (.lst ((rgI n).map V.int))
    have el1 : (upd H l1 (.lst ((rgI n).map V.int))) l1 = some (.lst ((rgI n).map V.int)) := upd_same
    generalize upd H l1 (.lst ((rgI n).map V.int)) = H1 at k1 P1 el1
    refine ⟨p, l1, _, rfl, P1, .inl (SqL.of el1), by rw [List.length_map, rgI_len]; omega, fun l ys H2 k2 P2 nl el pm => ?_⟩
    obtain ⟨ms, rfl, pm2⟩ := perm_pairs V.int pm _ rfl
    have hml : ms.length = n := by rw [pm2.length_eq, rgI_len]
    have hmr : ∀ x ∈ ms, 0 ≤ x ∧ x < n := fun x hx => by
      have hx := pm2.mem_iff.mp hx
      unfold rgI at hx
      obtain ⟨i, hi, rfl⟩ := List.mem_map.mp hx
      have := List.mem_range.mp hi
      omega
    have hmn : ms.Nodup := pm2.nodup_iff.mpr (by
      have h := List.nodup_range (n := n)
      unfold rgI
      exact List.Pairwise.map _ (fun a b h z => h (by omega)) h)
    have nlp : l ≠ p := P1.free nl
    obtain ⟨g, t, r, rfl⟩ : ∃ g t r, ms = g :: t :: r := by
      match ms, hml with
      | [], h => exact absurd h (by simp; omega)
      | [_], h => exact absurd h (by simp; omega)
      | a :: b :: c, _ => exact ⟨a, b, c, rfl⟩
    refine ⟨_, rfl, l, _, _, _, rfl, rfl, SqL.of el, (atI_nat (j := 0) rfl), _, rfl, l, _, _, _, rfl, rfl, SqL.of el, (atI_nat (j := 1) rfl), _, _, rfl, ?_⟩
    refine ⟨_, rfl, _, rfl, p, rfl, P2, fun v1 H3 k3 P3 a1 b1 => ?_⟩
    refine ⟨_, rfl, p, rfl, P3, fun v2 H4 k4 P4 a2 b2 => ?_⟩
    refine ⟨_, rfl, p, 4, rfl, P4, by decide, by decide, fun v3 H5 k5 P5 a3 b3 => ?_⟩
    refine ⟨_, rfl, _, rfl, (by show 7 ≤ sizeLine; decide), fun th nth => ?_⟩
    have k6 : Kp p H5 _ := Kp.new nth (.tup [.int num, .int v1, .int v2, .int v3, .str "deed", .int g, .int t])
    have P6 := P5.new nth (.tup [.int num, .int v1, .int v2, .int v3, .str "deed", .int g, .int t])
    have eth : (upd H5 th (.tup [.int num, .int v1, .int v2, .int v3, .str "deed", .int g, .int t])) th = some (.tup [.int num, .int v1, .int v2, .int v3, .str "deed", .int g, .int t]) := upd_same
    generalize upd H5 th (.tup [.int num, .int v1, .int v2, .int v3, .str "deed", .int g, .int t]) = H6 at k6 P6 eth
    have k26 : Kp p H2 H6 := k3.trans (k4.trans (k5.trans k6))
    have k06 : Kp p H H6 := k1.trans (k2.trans k26)
    refine ⟨_, rfl, _, rfl, _, rfl, p, ld, 2, ds, rfl, P6, SqL.of (k06 _ _ nld eld), by decide, by decide, hdl, fun tr rs ls H7 k7 P7 etr pr upr hrl => ?_⟩
    have el7 := k7 _ _ nlp (k26 _ _ nlp el)
    refine ⟨_, rfl, _, rfl, _, rfl, l, _, rfl, SqL.of el7, fun s1 ns1 => ?_⟩
    rw [show cutV ((g :: t :: r).map V.int) (some 2) none = r.map V.int from cutDrop V.int (g :: t :: r) 2]
    have k8 : Kp p H7 _ := Kp.new ns1 (.lst (r.map V.int))
    have P8 := P7.new ns1 (.lst (r.map V.int))
    have es1 : (upd H7 s1 (.lst (r.map V.int))) s1 = some (.lst (r.map V.int)) := upd_same
    generalize upd H7 s1 (.lst (r.map V.int)) = H8 at k8 P8 es1
    have hrn : r.length ≤ 1000 := by
      have : (g :: t :: r).length = n := hml
      simp at this
      omega
    refine ⟨p, s1, 3, r, rfl, P8, SqL.of es1, by decide, by decide, hrn, fun tw ws ls2 H9 k9 P9 etw pw upw hwl => ?_⟩
    refine ⟨(by show 2 ≤ sizeLine; decide), fun t4 nt4 => ?_⟩
    have k10 : Kp p H9 _ := Kp.new nt4 (.tup [.ref tr, .ref tw])
    have P10 := P9.new nt4 (.tup [.ref tr, .ref tw])
    have et4 : (upd H9 t4 (.tup [.ref tr, .ref tw])) t4 = some (.tup [.ref tr, .ref tw]) := upd_same
    generalize upd H9 t4 (.tup [.ref tr, .ref tw]) = H10 at k10 P10 et4
    have k79 : Kp p H7 H10 := k8.trans (k9.trans k10)
    have eth10 := (k7.trans k79).tup P6 _ _ eth
    refine ⟨th, t4, _, _, rfl, rfl, SqT.of eth10, SqT.of et4, List.cons_ne_nil _ _, (by show 9 ≤ sizeLine; decide), fun z0 => absurd z0 (List.cons_ne_nil _ _), fun _ b hb => ?_⟩
    have kb : Kp p H10 (upd H10 b (.tup ([.int num, .int v1, .int v2, .int v3, .str "deed", .int g, .int t] ++ [.ref tr, .ref tw]))) := Kp.new hb _
    have etr10 := kb.tup P10 _ _ (k79.tup P7 _ _ etr)
    have etw10 := kb.tup P10 _ _ (k10.tup P9 _ _ etw)
    have hg := hmr g (by simp)
    have ht := hmr t (by simp)
    rw [List.nodup_cons, List.nodup_cons] at hmn
    have hwr : ∀ y ∈ ws, y ∈ r := fun y hy => pw.mem_iff.mp (List.mem_append_left _ hy)
    have hrd : ∀ y ∈ rs, y ∈ ds := fun y hy => pr.mem_iff.mp (List.mem_append_left _ hy)
    refine q b ⟨num, v1, v2, v3, .deed g t rs ws⟩ _ (k06.trans (k7.trans (k79.trans kb))) (P10.new hb _) ⟨tr, tw, upd_same, etr10, etw10⟩ rfl rfl fun as => ?_
    refine ⟨⟨a1, b1⟩, ⟨a2, b2⟩, ⟨a3, by show v3 ≤ 3; omega⟩, hg, ht, fun z => hmn.1 (z ▸ List.mem_cons_self), by omega, rising_of ?_ upr, fun y hy => ⟨hrd y hy, hdn _ (hrd y hy)⟩, by omega, rising_of ?_ upw, fun y hy => ?_⟩
    · exact (List.nodup_append.mp (pr.nodup_iff.mpr hnd)).1
    · exact (List.nodup_append.mp (pw.nodup_iff.mpr hmn.2.2)).1
    · have hy := hwr y hy
      have h1 := hmr y (by simp [hy])
      exact ⟨h1.1, h1.2, fun z => hmn.1 (z ▸ List.mem_cons_of_mem _ hy), fun z => hmn.2.1 (z ▸ hy)⟩
abbrev sAct : Stmt := topS 41
abbrev nAct : List Str := ["_law_pen_here", "_law_number", "_law_deeds", "_law_acts", "_law_word", "_law_some"]
abbrev pAct : List Str := ["_law_pen_here", "_law_number", "_law_deeds", "_law_acts"]
theorem scAct : FnScope nAct pAct (defScope sAct) := ⟨rfl, rfl, rfl, by decide +kernel, rfl, by decide +kernel, by decide +kernel⟩
def spAct (K : PySem.W.Frag) : Sp := fun vs H Q _ => ∃ (p ld la : Addr) (num : Int) (ds as : List Int), vs = [.ref p, .int num, .ref ld, .ref la] ∧ PenAt H p ∧ H ld = some (.lst (ds.map V.int)) ∧ ld ≠ p ∧ H la = some (.lst (as.map V.int)) ∧ la ≠ p ∧ ds ≠ [] ∧ ds.length ≤ 1000 ∧ as.length ≤ 1000 ∧ (∀ d ∈ ds, d < num) ∧ (∀ d ∈ as, d < num) ∧
  ∀ a (e : En) H', Kp p H H' → PenAt H' p → EntAt H' a e → e.num = num → e.isDeed = false → (∀ n, EnOk n ds as e) → Q (.ref a) H'
theorem ok_act {f : Addr} {fd : FuncData} {k : Nat} (F : Fun K "_law_act" "_law_act" sAct f fd) (C__law_draw : CDraw P w K mg base k) (C__law_day : CallOk P w K mg base k "_law_day" pDay spDay) (m_len : mg "len" = none) : FnOk P w K mg base CX0 (k + 1) f fd pAct (spAct K) := by
  refine F.ok scAct (fun vs H Q E h => ?_) (fun cdv A outer s H vs Q E hr h => ?_)
  · obtain ⟨p, ld, la, num, ds, as, rfl, _⟩ := h
    rfl
  · obtain ⟨p, ld, la, num, ds, as, rfl, hP, eld, nld, ela, nla, hne, hdl, hal, hdn, han, q⟩ := h
    have nd := scAct.nd
    refine ⟨_, pss_cons (ps_set (i := 4) nd rfl (.inl rfl) (pe_ix ix_list (pe_lst (pa_cons pe_str (pa_cons pe_str (pa_cons pe_str pa_nil)))) (pe_call C__law_draw.ok hr (by rfl) C__law_draw.g C__law_draw.kp C__law_draw.b .nil pass0 (pa_cons (pv 0) (pa_cons pe_int pa_nil))) (fun _ _ => rfl)))
      (pss_cons (ps_set (i := 5) nd rfl (.inl rfl) (pv 2))
      (pss_cons (ps_if (pt_cmpR op_eq (pv 4) pe_str (nomark _)) (pss_one (ps_set (i := 5) nd rfl (.inl rfl) (pv 3))) pss_nil)
      (pss_cons (ps_if (pt_cmpR (op_eqD hr.units) (pv 5) (pe_lst pa_nil) (nomark _)) (pss_one (ps_par (i := 4) (j := 5) (by rfl) nd rfl rfl (by decide) rfl rfl (pa_cons pe_str (pa_cons (pv 2) pa_nil)) (by rfl))) pss_nil)
      (pss_one (ps_ret (pe_tup (pa_cons (pv 1) (pa_cons (pe_call C__law_day.ok hr (by rfl) C__law_day.g C__law_day.kp C__law_day.b .nil pass0 (pa_cons (pv 0) pa_nil)) (pa_cons (pe_call C__law_day.ok hr (by rfl) C__law_day.g C__law_day.kp C__law_day.b .nil pass0 (pa_cons (pv 0) pa_nil)) (pa_cons (pe_call C__law_draw.ok hr (by rfl) C__law_draw.g C__law_draw.kp C__law_draw.b .nil pass0 (pa_cons (pv 0) (pa_cons pe_int pa_nil))) (pa_cons (pv 4) (pa_cons (pe_ix ix_list (pv 5) (pe_call C__law_draw.ok hr (by rfl) C__law_draw.g C__law_draw.kp C__law_draw.b .nil pass0 (pa_cons (pv 0) (pa_cons (pe_callB call_len_seq (by rfl) m_len (by decide +kernel) (pa_cons (pv 5) pa_nil)) pa_nil))) (fun _ _ => rfl)) pa_nil)))))))))))), ?_⟩
    refine ⟨(by show 3 ≤ sizeLine; decide), fun l1 nl1 => ?_⟩
    refine ⟨_, rfl, p, 3, rfl, hP.new nl1 _, by decide, by decide, fun v0 H1 k1 P1 a0 b0 => ?_⟩
    obtain ⟨_, gx, x, rfl, hx⟩ := pick (xs := [.str "paid", .str "void", .str "undone"]) (fun v => ∃ x : Str, v = .str x ∧ (x = "paid" ∨ x = "void" ∨ x = "undone")) a0 b0 (am1 ⟨_, rfl, .inl rfl⟩ (am1 ⟨_, rfl, .inr (.inl rfl)⟩ (am1 ⟨_, rfl, .inr (.inr rfl)⟩ am0)))
    have k01 : Kp p H H1 := (Kp.new nl1 _).trans k1
    refine ⟨l1, _, _, _, rfl, rfl, SqL.of (k1 _ _ (hP.free nl1) upd_same), gx, ?_⟩
    have eld1 := k01 _ _ nld eld
    have ela1 := k01 _ _ nla ela
    refine ⟨_, rfl, ?_⟩
    refine ⟨_, rfl, rfl, _, rfl, ?_⟩
    refine (Classical.em (x = ("undone" : Str))).elim (fun hu => ?U) (fun hu => ?NU)
    case' U =>
      rw [decide_eq_true (show V.str x = V.str "undone" by rw [hu])]
      refine iteT ?_
      refine ⟨_, rfl, ?_⟩
      refine ⟨_, rfl, Nat.zero_le _, fun l2 nl2 => ?_⟩
      have s2 := same_new nl2 (.lst [])
      have el2 : (upd H1 l2 (.lst [])) l2 = some (.lst (([] : List Int).map V.int)) := upd_same
      generalize upd H1 l2 (.lst []) = H2 at s2 el2
      refine ⟨.list (as.map PyData.int), .list (([] : List Int).map PyData.int), .lst (SqL.of (s2 _ _ ela1)) (dp_ints _), .lst (SqL.of el2) (dp_ints _), shaped_ints _, shaped_ints _, _, rfl, ?_⟩
      rw [eqv_ints]
      refine (Classical.em (as = [])).elim (fun ha => ?A1) (fun ha => ?B1)
      case' A1 =>
        rw [decide_eq_true ha]
        refine iteT ?_
        refine ⟨_, rfl, _, _, rfl, ?A⟩
      case' B1 =>
        rw [decide_eq_false ha]
        refine iteF ?B
    case' NU =>
      rw [decide_eq_false (show ¬ V.str x = V.str "undone" from fun z => hu (by injection z))]
      refine iteF ?_
      refine ⟨_, rfl, Nat.zero_le _, fun l2 nl2 => ?_⟩
      have s2 := same_new nl2 (.lst [])
      have el2 : (upd H1 l2 (.lst [])) l2 = some (.lst (([] : List Int).map V.int)) := upd_same
      generalize upd H1 l2 (.lst []) = H2 at s2 el2
      refine ⟨.list (ds.map PyData.int), .list (([] : List Int).map PyData.int), .lst (SqL.of (s2 _ _ eld1)) (dp_ints _), .lst (SqL.of el2) (dp_ints _), shaped_ints _, shaped_ints _, _, rfl, ?_⟩
      rw [eqv_ints, decide_eq_false hne]
      refine iteF ?C
    case' A1 =>
      obtain ⟨xw, ss, sa, es, nsa, hss, hsl, hcase, exw⟩ : ∃ (xw : Str) (ss : List Int) (sa : Addr), H2 sa = some (.lst (ss.map V.int)) ∧ sa ≠ p ∧ ss ≠ [] ∧ ss.length ≤ 1000 ∧ (∀ o ∈ ss, (((xw = "undone" ∧ o ∈ as) ∨ ((xw = "paid" ∨ xw = "void") ∧ o ∈ ds)) ∧ o < num)) ∧ (xw = "paid" ∧ sa = ld) :=
        ⟨"paid", ds, ld, s2 _ _ eld1, nld, hne, hdl, fun o ho => ⟨.inr ⟨.inl rfl, ho⟩, hdn o ho⟩, rfl, rfl⟩
      obtain ⟨rfl, rfl⟩ := exw
    case' B1 =>
      obtain ⟨xw, ss, sa, es, nsa, hss, hsl, hcase, exw⟩ : ∃ (xw : Str) (ss : List Int) (sa : Addr), H2 sa = some (.lst (ss.map V.int)) ∧ sa ≠ p ∧ ss ≠ [] ∧ ss.length ≤ 1000 ∧ (∀ o ∈ ss, (((xw = "undone" ∧ o ∈ as) ∨ ((xw = "paid" ∨ xw = "void") ∧ o ∈ ds)) ∧ o < num)) ∧ (xw = x ∧ sa = la) :=
        ⟨x, as, la, s2 _ _ ela1, nla, ha, hal, fun o ho => ⟨.inl ⟨hu, ho⟩, han o ho⟩, rfl, rfl⟩
      obtain ⟨rfl, rfl⟩ := exw
    case' NU =>
      obtain ⟨xw, ss, sa, es, nsa, hss, hsl, hcase, exw⟩ : ∃ (xw : Str) (ss : List Int) (sa : Addr), H2 sa = some (.lst (ss.map V.int)) ∧ sa ≠ p ∧ ss ≠ [] ∧ ss.length ≤ 1000 ∧ (∀ o ∈ ss, (((xw = "undone" ∧ o ∈ as) ∨ ((xw = "paid" ∨ xw = "void") ∧ o ∈ ds)) ∧ o < num)) ∧ (xw = x ∧ sa = ld) :=
        ⟨x, ds, ld, s2 _ _ eld1, nld, hne, hdl, fun o ho => ⟨.inr ⟨(by rcases hx with h | h | h; exact .inl h; exact .inr h; exact absurd h hu), ho⟩, hdn o ho⟩, rfl, rfl⟩
      obtain ⟨rfl, rfl⟩ := exw
    all_goals
      have P2 : PenAt H2 p := by
        obtain ⟨x1, x2, x3, x4, z1, z2⟩ := P1
        exact ⟨x1, x2, x3, x4, s2 _ _ z1, z2⟩
      have k02 : Kp p H H2 := k01.trans (Kp.same s2)
      refine ⟨_, rfl, _, rfl, p, rfl, P2, fun v1 H3 k3 P3 a1 b1 => ?_⟩
      refine ⟨_, rfl, p, rfl, P3, fun v2 H4 k4 P4 a2 b2 => ?_⟩
      refine ⟨_, rfl, p, 4, rfl, P4, by decide, by decide, fun v3 H5 k5 P5 a3 b3 => ?_⟩
      have k25 : Kp p H2 H5 := k3.trans (k4.trans k5)
      have es5 := k25 _ _ nsa es
      have hlpos : 0 < ss.length := List.length_pos_iff.mpr hss
      refine ⟨_, rfl, _, rfl, _, rfl, _, rfl, _, _, rfl, .inl (SqL.of es5), p, _, rfl, P5, by rw [List.length_map]; omega, by rw [List.length_map]; omega, fun v4 H6 k6 P6 a4 b4 => ?_⟩
      rw [List.length_map] at b4
      have hk : v4.toNat < ss.length := by omega
      refine ⟨_, _, _, .int ss[v4.toNat], rfl, rfl, SqL.of (k6 _ _ nsa es5), at_of (j := v4.toNat) (by omega) (by rw [List.getElem?_map, List.getElem?_eq_getElem hk]; rfl), (by show 6 ≤ sizeLine; decide), fun t3 nt3 => ?_⟩
      exact q t3 ⟨num, v1, v2, v3, .act _ ss[v4.toNat]⟩ _ (k02.trans (k25.trans (k6.trans (Kp.new nt3 _)))) (P6.new nt3 _) upd_same rfl rfl fun n => ⟨⟨a1, b1⟩, ⟨a2, b2⟩, ⟨a3, by show v3 ≤ 3; omega⟩, hcase _ (List.getElem_mem hk)⟩
end
end Deed

namespace Deed
open PySem PySem.Spec PyProof.Rows L2 LamX
theorem okE_snoc {n : Nat} {es : List En} {e : En} {num : Int} (hok : BkOk n es) (hlt : ∀ x ∈ es, x.num < num) (hnum : e.num = num) (h0 : 0 ≤ num) (h1 : num ≤ 30) (hEn : EnOk n (dn es) (an es) e) : BkOk n (es ++ [e]) := by
  have hd : ∀ x ∈ dn es, x ∈ dn (es ++ [e]) := fun x hx => by rw [dn_snoc]; exact List.mem_append_left _ hx
  have ha : ∀ x ∈ an es, x ∈ an (es ++ [e]) := fun x hx => by rw [an_snoc]; exact List.mem_append_left _ hx
  refine ⟨?_, fun e' he' => ?_, fun e' he' => ?_⟩
  · rw [List.map_append]
    refine List.nodup_append.mpr ⟨hok.nd, List.pairwise_singleton _ _, fun x hx y hy => ?_⟩
    obtain ⟨e', he', rfl⟩ := List.mem_map.mp hx
    have hy' : y = e.num := by simpa using hy
    rw [hy', hnum]
    exact Int.ne_of_lt (hlt e' he')
  · rcases List.mem_append.mp he' with he' | he'
    · exact hok.rng e' he'
    · rw [List.mem_singleton.mp he', hnum]
      omega
  · rcases List.mem_append.mp he' with he' | he'
    · exact (hok.ok e' he').mono hd ha
    · rw [List.mem_singleton.mp he']
      exact hEn.mono hd ha
theorem Kp.none {p q : Addr} {H H' : Hp} (k : Kp p H H') (n : q ≠ p) (h : H' q = none) : H q = none := by
  cases z : H q with
  | none => rfl
  | some o => rw [k _ _ n z] at h; cases h
section
variable {P : Program} {w : World} {K : PySem.W.Frag} {mg : Str → Option Value} {base : Heap}
abbrev sBook : Stmt := topS 42
abbrev nBook : List Str := ["_law_pen_here", "_law_most", "_law_folk_here", "_law_step", "_law_deeds", "_law_acts", "_law_entries", "_law_shift", "_law_k", "_law_number", "_law_age"]
abbrev pBook : List Str := ["_law_pen_here", "_law_most"]
theorem scBook : FnScope nBook pBook (defScope sBook) := ⟨rfl, rfl, rfl, by decide +kernel, rfl, by decide +kernel, by decide +kernel⟩
def spBook : Sp := fun vs H Q _ => ∃ (p : Addr) (most : Int), vs = [.ref p, .int most] ∧ PenAt H p ∧ 0 ≤ most ∧ most ≤ 16 ∧
  ∀ b fk t n age zs H', Kp p H H' → PenAt H' p → BookAt H' b fk t n age zs → (zs.length : Int) ≤ most → Q (.ref b) H'
theorem ok_book {f : Addr} {fd : FuncData} {k : Nat} (F : Fun K "_law_book" "_law_book" sBook f fd) (C__law_draw : CDraw P w K mg base k) (C__law_folk : CallOk P w K mg base k "_law_folk" pFolk spFolk) (C__law_deed : CallOk P w K mg base k "_law_deed" pDeed (spDeed K)) (C__law_act : CallOk P w K mg base k "_law_act" pAct (spAct K)) (C__law_mixed : CallOk P w K mg base k "_law_mixed" ["_law_pen_here", "_law_some"] (spMixed K)) (m_int : mg "int" = none) (m_range : mg "range" = none) (m_tuple : mg "tuple" = none) : FnOk P w K mg base CX0 (k + 1) f fd pBook spBook := by
  refine F.ok scBook (fun vs H Q E h => ?_) (fun cdv A outer s H vs Q E hr h => ?_)
  · obtain ⟨p, m, rfl, _⟩ := h
    rfl
  · obtain ⟨p, most, rfl, hP, hm0, hm1, q⟩ := h
    have nd := scBook.nd
    refine ⟨_, pss_cons (ps_par (i := 2) (j := 3) (by rfl) nd rfl rfl (by decide) rfl rfl (pa_cons (pe_call C__law_folk.ok hr (by rfl) C__law_folk.g C__law_folk.kp C__law_folk.b .nil pass0 (pa_cons (pv 0) (pa_cons pe_int pa_nil))) (pa_cons (pe_op op_add pe_int (pe_call C__law_draw.ok hr (by rfl) C__law_draw.g C__law_draw.kp C__law_draw.b .nil pass0 (pa_cons (pv 0) (pa_cons pe_int pa_nil)))) pa_nil)) (by rfl))
      (pss_cons (ps_par3 (i := 4) (j := 5) (l := 6) (by rfl) nd rfl rfl rfl (by decide) (by decide) (by decide) rfl rfl rfl (pa_cons (pe_lst pa_nil) (pa_cons (pe_lst pa_nil) (pa_cons (pe_lst pa_nil) pa_nil))) (by rfl))
      (pss_cons (ps_set (i := 7) nd rfl (.inl rfl) (pe_op op_mul (pe_call C__law_draw.ok hr (by rfl) C__law_draw.g C__law_draw.kp C__law_draw.b .nil pass0 (pa_cons (pv 0) (pa_cons pe_int pa_nil))) (pe_callTy call_int1 (by rfl) m_int (by decide +kernel) (pa_cons (pe_cmpR op_eq (pv 3) pe_int (nomark _)) pa_nil))))
      (pss_cons (ps_for PassesOwn.never rfl (pi_range1 rfl m_range (pa_cons (pe_call C__law_draw.ok hr (by rfl) C__law_draw.g C__law_draw.kp C__law_draw.b .nil pass0 (pa_cons (pv 0) (pa_cons (pe_op op_add (pv 1) pe_int) pa_nil))) pa_nil)) (pg_name (i := 8) nd rfl (.inl rfl))
        (pss_cons (ps_set (i := 9) nd rfl (.inl rfl) (pe_op op_add (pe_op op_mul (pv 8) (pv 3)) (pv 7)))
      (pss_one (ps_if (PW.pt (pw_or (pt_cmpR (op_eqD hr.units) (pv 4) (pe_lst pa_nil) (nomark _)) (pw_or1 (pt_cmpR op_lt (pe_call C__law_draw.ok hr (by rfl) C__law_draw.g C__law_draw.kp C__law_draw.b .nil pass0 (pa_cons (pv 0) (pa_cons pe_int pa_nil))) pe_int (nomark _))))) (pss_cons (ps_expr (pe_bm PySem.F.plainAttrs_list PySem.F.slot_list_append PySem.F.type_list_append mt_append (pv 6) (pa_cons (pe_call C__law_deed.ok hr (by rfl) C__law_deed.g C__law_deed.kp C__law_deed.b .nil pass0 (pa_cons (pv 0) (pa_cons (pv 9) (pa_cons (pv 2) (pa_cons (pv 4) pa_nil))))) pa_nil)))
      (pss_one (ps_expr (pe_bm PySem.F.plainAttrs_list PySem.F.slot_list_append PySem.F.type_list_append mt_append (pv 4) (pa_cons (pv 9) pa_nil))))) (pss_cons (ps_expr (pe_bm PySem.F.plainAttrs_list PySem.F.slot_list_append PySem.F.type_list_append mt_append (pv 6) (pa_cons (pe_call C__law_act.ok hr (by rfl) C__law_act.g C__law_act.kp C__law_act.b .nil pass0 (pa_cons (pv 0) (pa_cons (pv 9) (pa_cons (pv 4) (pa_cons (pv 5) pa_nil))))) pa_nil)))
      (pss_one (ps_expr (pe_bm PySem.F.plainAttrs_list PySem.F.slot_list_append PySem.F.type_list_append mt_append (pv 5) (pa_cons (pv 9) pa_nil)))))))))
      (pss_cons (ps_set (i := 10) nd rfl (.inl rfl) (pe_ix ix_list (pe_lst (pa_cons pe_int (pa_cons (pe_call C__law_draw.ok hr (by rfl) C__law_draw.g C__law_draw.kp C__law_draw.b .nil pass0 (pa_cons (pv 0) (pa_cons pe_int pa_nil))) (pa_cons (pe_call C__law_draw.ok hr (by rfl) C__law_draw.g C__law_draw.kp C__law_draw.b .nil pass0 (pa_cons (pv 0) (pa_cons pe_int pa_nil))) pa_nil)))) (pe_call C__law_draw.ok hr (by rfl) C__law_draw.g C__law_draw.kp C__law_draw.b .nil pass0 (pa_cons (pv 0) (pa_cons pe_int pa_nil))) (fun _ _ => rfl)))
      (pss_one (ps_ret (pe_tup (pa_cons (pv 2) (pa_cons (pv 10) (pa_cons (pe_callTy call_tuple_of (by rfl) m_tuple (by decide +kernel) (pa_cons (pe_call C__law_mixed.ok hr (by rfl) C__law_mixed.g C__law_mixed.kp C__law_mixed.b .nil pass0 (pa_cons (pv 0) (pa_cons (pv 6) pa_nil))) pa_nil)) pa_nil)))))))))), ?_⟩
    refine ⟨_, rfl, p, 2, rfl, hP, by decide, by decide, fun fk n H1 k1 P1 F1 hn2 hn6 => ?_⟩
    have hn2' : 2 ≤ n := by omega
    refine ⟨_, rfl, p, 2, rfl, P1, by decide, by decide, fun st0 H2 k2 P2 a2 b2 => ⟨_, _, rfl, rfl, _, _, rfl, ?_⟩⟩
    have F2 := F1.kp k2 P1
    have k12 := k1.trans k2
    refine ⟨Nat.zero_le _, fun ld hld => ?_⟩
    have nld : ld ≠ p := P2.free hld
    have hldH : H ld = none := k12.none nld hld
    refine ⟨Nat.zero_le _, fun la hla => ?_⟩
    have Pd := P2.new hld (.lst [])
    have nla : la ≠ p := Pd.free hla
    have nda : ld ≠ la := fun z => by rw [← z, upd_same] at hla; cases hla
    have hlaH : H la = none := (k12.trans (Kp.new hld _)).none nla hla
    refine ⟨Nat.zero_le _, fun lf hlf => ⟨_, _, _, rfl, ?_⟩⟩
    have Pa := Pd.new hla (.lst [])
    have nlf : lf ≠ p := Pa.free hlf
    have naf : la ≠ lf := fun z => by rw [← z, upd_same] at hlf; cases hlf
    have ndf : ld ≠ lf := fun z => by rw [← z, upd_ne nda, upd_same] at hlf; cases hlf
    have hlfH : H lf = none := (k12.trans ((Kp.new hld _).trans (Kp.new hla _))).none nlf hlf
    have k3 : Kp p H2 (upd (upd (upd H2 ld (.lst [])) la (.lst [])) lf (.lst [])) := ((Kp.new hld _).trans (Kp.new hla _)).trans (Kp.new hlf _)
    have P3 := Pa.new hlf (.lst [])
    have e3d : (upd (upd (upd H2 ld (.lst [])) la (.lst [])) lf (.lst [])) ld = some (.lst []) := by rw [upd_ne ndf, upd_ne nda, upd_same]
    have e3a : (upd (upd (upd H2 ld (.lst [])) la (.lst [])) lf (.lst [])) la = some (.lst []) := by rw [upd_ne naf, upd_same]
    have e3f : (upd (upd (upd H2 ld (.lst [])) la (.lst [])) lf (.lst [])) lf = some (.lst []) := upd_same
    generalize (upd (upd (upd H2 ld (.lst [])) la (.lst [])) lf (.lst [])) = H3 at k3 P3 e3d e3a e3f
    -- the shift
    refine ⟨_, rfl, p, 15, rfl, P3, by decide, by decide, fun sh H3' k3' P3' a3 b3 => ?_⟩
    refine ⟨_, rfl, rfl, .inr ⟨_, rfl, ?_⟩⟩
    refine ⟨_, _, rfl, rfl, .inl ⟨by omega, by omega⟩, ?_⟩
    obtain ⟨sf, esf, hsf⟩ : ∃ sf : Int, sh * (if decide (V.int (1 + st0) = V.int 1) = true then 1 else 0) = sf ∧ 0 ≤ sf ∧ ∀ i : Int, 0 ≤ i → i < 16 → i * (1 + st0) + sf ≤ 30 ∧ 0 ≤ i * (1 + st0) + sf := by
      have hst : st0 = 0 ∨ st0 = 1 := by omega
      rcases hst with rfl | rfl
      · exact ⟨sh, by simp, by omega, fun i h1 h2 => by omega⟩
      · exact ⟨0, by simp, by omega, fun i h1 h2 => by omega⟩
    dsimp only
    rw [esf]
    have k03 := k12.trans (k3.trans k3')
    refine ⟨_, rfl, _, rfl, _, _, rfl, rfl, p, most + 1, rfl, P3', by omega, by omega, fun many H4 k4 P4 a4 b4 => ?_⟩
    refine ⟨_, rfl, by omega, by omega, ?_⟩
    have k34 := k3'.trans k4
    refine for_range (lo := 0) (n := many.toNat) (fun i σ H' => ∃ y8 y9 y10, ∃ (zs : List (Addr × En)), σ = [some (.ref p), some (.int most), some (.ref fk), some (.int (1 + st0)), some (.ref ld), some (.ref la), some (.ref lf), some (.int sf), y8, y9, y10] ∧ Kp p H H' ∧ PenAt H' p ∧ FolkAt H' fk n ∧
        H' ld = some (.lst ((dn (ens zs)).map V.int)) ∧ H' la = some (.lst ((an (ens zs)).map V.int)) ∧ H' lf = some (.lst (refs zs)) ∧ (∀ z ∈ zs, EntAt H' z.1 z.2) ∧ zs.length = i ∧ BkOk n (ens zs) ∧ (∀ e ∈ ens zs, e.num < (i : Int) * (1 + st0) + sf))
      ⟨none, none, none, [], rfl, k03.trans k4, P4, ((F2.kp k3 P2).kp k3' P3).kp k4 P3', k34 _ _ nld e3d, k34 _ _ nla e3a, k34 _ _ nlf e3f, (fun _ h => nomatch h), rfl, ⟨List.nodup_nil, (fun _ h => nomatch h), (fun _ h => nomatch h)⟩, (fun _ h => nomatch h)⟩ ?_ ?_
    · rintro i σ H' hi ⟨y8, y9, y10, zs, rfl, k', P', F', ed, ea, ef, hent, hlen, hok, hlt⟩
      have hel : (ens zs).length = i := by rw [List.length_map, hlen]
      have hdl := dn_len (ens zs)
      have hal := an_len (ens zs)
      obtain ⟨hn1, hn0⟩ := hsf.2 (i : Int) (by omega) (by omega)
      have hst : 0 ≤ st0 ∧ st0 ≤ 1 := ⟨a2, by omega⟩
      refine ⟨_, rfl, _, rfl, _, _, rfl, rfl, .inl ⟨by omega, by omega⟩, _, rfl, _, _, rfl, rfl, ?_⟩
      dsimp only
      rw [show (0 + (i : Int)) * (1 + st0) + sf = (i : Int) * (1 + st0) + sf by rw [Int.zero_add]]
      have hnext : (i : Int) * (1 + st0) + sf < ((i : Nat) + 1 : Int) * (1 + st0) + sf := by
        rw [Int.add_mul]
        omega
      generalize hnm : (i : Int) * (1 + st0) + sf = num at hn1 hn0 hlt hnext
      have hdn : ∀ d ∈ dn (ens zs), d < num := fun d hd => by
        obtain ⟨e, he, rfl⟩ := List.mem_map.mp (dn_sub _ _ hd)
        exact hlt e he
      have han : ∀ d ∈ an (ens zs), d < num := fun d hd => by
        obtain ⟨e, he, rfl⟩ := List.mem_map.mp (an_sub _ _ hd)
        exact hlt e he
      refine ⟨_, rfl, Nat.zero_le _, fun l5 nl5 => ?_⟩
      have s5 := same_new nl5 (.lst [])
      have el5 : (upd H' l5 (.lst [])) l5 = some (.lst (([] : List Int).map V.int)) := upd_same
      generalize upd H' l5 (.lst []) = H5 at s5 el5
      have P5 : PenAt H5 p := by
        obtain ⟨x1, x2, x3, x4, z1, z2⟩ := P'
        exact ⟨x1, x2, x3, x4, s5 _ _ z1, z2⟩
      have k5 : Kp p H' H5 := Kp.same s5
      refine ⟨.list ((dn (ens zs)).map PyData.int), .list (([] : List Int).map PyData.int), .lst (SqL.of (s5 _ _ ed)) (dp_ints _), .lst (SqL.of el5) (dp_ints _), shaped_ints _, shaped_ints _, _, rfl, ?_⟩
      rw [eqv_ints]
      -- behind an entry at a, of a deed or an act, at the heap H6
      have fin : ∀ (a : Addr) (e : En) (H6 : Hp), Kp p H' H6 → PenAt H6 p → EntAt H6 a e → e.num = num → EnOk n (dn (ens zs)) (an (ens zs)) e →
          (H6 lf = some (.lst (refs zs)) ∧ ∀ (lx : Addr) (o : List V), (lx = ld ∨ lx = la) → (e.isDeed = true → lx = ld ∧ o = (dn (ens zs)).map V.int ++ [.int num]) → (e.isDeed = false → lx = la ∧ o = (an (ens zs)).map V.int ++ [.int num]) →
            (upd H6 lf (.lst (refs zs ++ [.ref a]))) lx = some (.lst (if e.isDeed then (dn (ens zs)).map V.int else (an (ens zs)).map V.int)) ∧
            ∃ (zs' : List (Addr × En)), Kp p H (upd (upd H6 lf (.lst (refs zs ++ [.ref a]))) lx (.lst o)) ∧ PenAt (upd (upd H6 lf (.lst (refs zs ++ [.ref a]))) lx (.lst o)) p ∧ FolkAt (upd (upd H6 lf (.lst (refs zs ++ [.ref a]))) lx (.lst o)) fk n ∧
        (upd (upd H6 lf (.lst (refs zs ++ [.ref a]))) lx (.lst o)) ld = some (.lst ((dn (ens zs')).map V.int)) ∧ (upd (upd H6 lf (.lst (refs zs ++ [.ref a]))) lx (.lst o)) la = some (.lst ((an (ens zs')).map V.int)) ∧ (upd (upd H6 lf (.lst (refs zs ++ [.ref a]))) lx (.lst o)) lf = some (.lst (refs zs')) ∧ (∀ z ∈ zs', EntAt (upd (upd H6 lf (.lst (refs zs ++ [.ref a]))) lx (.lst o)) z.1 z.2) ∧ zs'.length = i + 1 ∧ BkOk n (ens zs') ∧ (∀ e ∈ ens zs', e.num < ((i : Nat) + 1 : Int) * (1 + st0) + sf)) := by
        intro a e H6 k6 P6 E6 hnum hEn
        have kT6 := k6.tup P'
        have ed6 := k6 _ _ nld ed
        have ea6 := k6 _ _ nla ea
        have ef6 := k6 _ _ nlf ef
        refine ⟨ef6, fun lx o hlx hD hA => ?_⟩
        have nlxf : lx ≠ lf := by rcases hlx with h | h <;> rw [h] <;> assumption
        have nlxp : lx ≠ p := by rcases hlx with h | h <;> rw [h] <;> assumption
        have hlxH : H lx = none := by rcases hlx with h | h <;> rw [h] <;> assumption
        have kT7 := KpT.lst ef6 (.lst (refs zs ++ [.ref a]))
        have P7 := P6.put nlf (.lst (refs zs ++ [.ref a]))
        have k7 := (k'.trans k6).over hlfH (.lst (refs zs ++ [.ref a]))
        have ed7 := (show (upd H6 lf (.lst (refs zs ++ [.ref a]))) ld = H6 ld from upd_ne ndf).trans ed6
        have ea7 := (show (upd H6 lf (.lst (refs zs ++ [.ref a]))) la = H6 la from upd_ne naf).trans ea6
        have ef7 := (show (upd H6 lf (.lst (refs zs ++ [.ref a]))) lf = some (.lst (refs zs ++ [.ref a])) from upd_same)
        have E7 := E6.kp kT7
        have F7 := (F'.kpT kT6).kpT kT7
        have hent7 : ∀ z ∈ zs, EntAt (upd H6 lf (.lst (refs zs ++ [.ref a]))) z.1 z.2 := fun z hz => ((hent z hz).kp kT6).kp kT7
        generalize (upd H6 lf (.lst (refs zs ++ [.ref a]))) = H7 at kT7 P7 k7 ed7 ea7 ef7 E7 F7 hent7
        have elx : H7 lx = some (.lst (if e.isDeed then (dn (ens zs)).map V.int else (an (ens zs)).map V.int)) := by
          cases hd : e.isDeed with
          | true => rw [(hD hd).1, ed7]; rfl
          | false => rw [(hA hd).1, ea7]; rfl
        refine ⟨elx, zs ++ [(a, e)], k7.over hlxH _, P7.put nlxp _, F7.kpT (KpT.lst elx _), ?_, ?_, ?_, fun z hz => ?_, ?_, ?_, fun e' he' => ?_⟩
        · rw [show ens (zs ++ [(a, e)]) = ens zs ++ [e] by simp [ens], dn_snoc]
          cases hd : e.isDeed with
          | true =>
            obtain ⟨h1, h2⟩ := hD hd
            rw [h1, h2, upd_same, if_pos rfl, List.map_append, hnum]
            rfl
          | false =>
            obtain ⟨h1, h2⟩ := hA hd
            rw [h1, upd_ne nda, if_neg (by decide), List.append_nil]
            exact ed7
        · rw [show ens (zs ++ [(a, e)]) = ens zs ++ [e] by simp [ens], an_snoc]
          cases hd : e.isDeed with
          | true =>
            obtain ⟨h1, h2⟩ := hD hd
            rw [h1, upd_ne nda.symm, if_pos rfl, List.append_nil]
            exact ea7
          | false =>
            obtain ⟨h1, h2⟩ := hA hd
            rw [h1, h2, upd_same, if_neg (by decide), List.map_append, hnum]
            rfl
        · rw [upd_ne nlxf.symm, ef7]
          simp [refs]
        · rcases List.mem_append.mp hz with hz | hz
          · exact (hent7 z hz).kp (KpT.lst elx _)
          · rw [List.mem_singleton.mp hz]
            exact E7.kp (KpT.lst elx _)
        · rw [List.length_append, hlen]
          rfl
        · rw [show ens (zs ++ [(a, e)]) = ens zs ++ [e] by simp [ens]]
          exact okE_snoc hok hlt hnum hn0 hn1 hEn
        · rw [show ens (zs ++ [(a, e)]) = ens zs ++ [e] by simp [ens]] at he'
          rcases List.mem_append.mp he' with he' | he'
          · have := hlt e' he'
            omega
          · rw [List.mem_singleton.mp he', hnum]
            exact hnext
      refine (Classical.em (dn (ens zs) = [])).elim (fun hd0 => ?D1) (fun hd0 => ?D2)
      case' D1 =>
        rw [decide_eq_true hd0]
        refine iteT ?_
        refine iteT ?_
        obtain ⟨H5b, k5b, P5b⟩ : ∃ H5b, Kp p H' H5b ∧ PenAt H5b p ∧ H5b = H5 := ⟨H5, k5, P5, rfl⟩
        obtain ⟨P5b, rfl⟩ := P5b
      case' D2 =>
        rw [decide_eq_false hd0]
        refine iteF ?_
        refine ⟨_, rfl, p, 5, rfl, P5, by decide, by decide, fun v5 H5b k5b0 P5b a5 b5 => ⟨_, _, rfl, rfl, _, rfl, ?_⟩⟩
        have k5b : Kp p H' H5b := k5.trans k5b0
        refine (Classical.em (v5 < 2)).elim (fun h52 => ?D3) (fun h52 => ?D4)
        case' D3 =>
          rw [decide_eq_true h52]
          refine iteT ?_
        case' D4 =>
          rw [decide_eq_false h52]
          refine iteF ?_
      case D4 =>
        have ef5 := k5b _ _ nlf ef
        refine ⟨_, rfl, .inl ⟨rfl, _, SqL.of ef5⟩, _, rfl, _, rfl, _, rfl, _, rfl, p, ld, la, num, dn (ens zs), an (ens zs), rfl, P5b, k5b _ _ nld ed, nld, k5b _ _ nla ea, nla, hd0, by omega, by omega, hdn, han, fun a e H6 k6 P6 E6 hnum hnd hEn => ?_⟩
        obtain ⟨f1, f2⟩ := fin a e H6 (k5b.trans k6) P6 E6 hnum (hEn n)
        refine ⟨lf, _, _, rfl, rfl, f1, small1000 (by rw [List.length_map]; omega), ?_⟩
        obtain ⟨f3, zs', f4⟩ := f2 la ((an (ens zs)).map V.int ++ [.int num]) (.inr rfl) (fun z => by rw [hnd] at z; cases z) (fun _ => ⟨rfl, rfl⟩)
        rw [hnd] at f3
        refine ⟨_, rfl, .inl ⟨rfl, _, SqL.of f3⟩, _, rfl, la, _, _, rfl, rfl, f3, small1000 (by show ((an (ens zs)).map V.int).length ≤ 1000; rw [List.length_map]; omega), ?_⟩
        exact ⟨_, _, _, zs', rfl, f4⟩
      all_goals
        have ef5 := k5b _ _ nlf ef
        refine ⟨_, rfl, .inl ⟨rfl, _, SqL.of ef5⟩, _, rfl, _, rfl, _, rfl, _, rfl, p, fk, ld, num, n, dn (ens zs), rfl, P5b, F'.kpT (k5b.tup P'), hn2', hn6, k5b _ _ nld ed, nld, dn_nodup hok.nd, by omega, hdn, fun a e H6 k6 P6 E6 hnum hnd hEn => ?_⟩
        obtain ⟨f1, f2⟩ := fin a e H6 (k5b.trans k6) P6 E6 hnum (hEn _)
        refine ⟨lf, _, _, rfl, rfl, f1, small1000 (by rw [List.length_map]; omega), ?_⟩
        obtain ⟨f3, zs', f4⟩ := f2 ld ((dn (ens zs)).map V.int ++ [.int num]) (.inl rfl) (fun _ => ⟨rfl, rfl⟩) (fun z => by rw [hnd] at z; cases z)
        rw [hnd] at f3
        refine ⟨_, rfl, .inl ⟨rfl, _, SqL.of f3⟩, _, rfl, ld, _, _, rfl, rfl, f3, small1000 (by show ((dn (ens zs)).map V.int).length ≤ 1000; rw [List.length_map]; omega), ?_⟩
        exact ⟨_, _, _, zs', rfl, f4⟩
    · rintro σ H' ⟨y8, y9, y10, zs, rfl, k', P', F', ed, ea, ef, hent, hlen, hok, hlt⟩
      refine ⟨_, rfl, p, 30, rfl, P', by decide, by decide, fun v1 H5 k5 P5 a5 b5 => ?_⟩
      refine ⟨_, rfl, p, 10000, rfl, P5, by decide, by decide, fun v2 H6 k6 P6 a6 b6 => ?_⟩
      refine ⟨(by show 3 ≤ sizeLine; decide), fun l6 nl6 => ?_⟩
      refine ⟨_, rfl, p, 3, rfl, P6.new nl6 _, by decide, by decide, fun v3 H7 k7 P7 a7 b7 => ?_⟩
      obtain ⟨_, g8, age, rfl, a8, b8⟩ := pick (xs := [.int 0, .int v1, .int v2]) (Within 0 9999) a7 b7 (am1 ⟨_, rfl, by omega, by omega⟩ (am1 ⟨_, rfl, by omega, by omega⟩ (am1 ⟨_, rfl, by omega, by omega⟩ am0)))
      refine ⟨l6, _, _, _, rfl, rfl, SqL.of (k7 _ _ (P6.free nl6) upd_same), g8, ?_⟩
      have k57 : Kp p H' H7 := k5.trans (k6.trans ((Kp.new nl6 _).trans k7))
      have hl16 : zs.length ≤ 16 := by omega
      refine ⟨_, rfl, _, rfl, _, rfl, _, rfl, p, lf, _, rfl, P7, .inl (SqL.of (k57 _ _ nlf ef)), by rw [List.length_map]; omega, fun lm ys H8 k8 P8 nlm elm pm => ?_⟩
      obtain ⟨zs', rfl, pm2⟩ := perm_pairs (fun z : Addr × En => V.ref z.1) pm zs rfl
      refine ⟨lm, _, rfl, .inl ⟨SqL.of elm, fun t7 nt7 => ?_⟩⟩
      have k9 : Kp p H8 _ := Kp.new nt7 (.tup (refs zs'))
      have P9 := P8.new nt7 (.tup (refs zs'))
      have e9 : (upd H8 t7 (.tup (refs zs'))) t7 = some (.tup (refs zs')) := upd_same
      refine ⟨(by show 3 ≤ sizeLine; decide), fun t8 nt8 => ?_⟩
      have k10 : Kp p _ _ := Kp.new nt8 (.tup [.ref fk, .int age, .ref t7])
      have kA := (k57.trans (k8.trans (k9.trans k10)))
      have kAT := kA.tup P'
      refine q t8 fk t7 n age zs' _ (k'.trans kA) (P9.new nt8 _) ⟨upd_same, F'.kpT kAT, hn2', hn6, a8, b8, k10.tup P9 _ _ e9, fun z hz => (hent z (pm2.mem_iff.mp hz)).kp kAT, hok.perm (pm2.map _), by rw [pm2.length_eq]; exact hl16⟩ ?_
      rw [pm2.length_eq, hlen]
      omega
end
end Deed

namespace Deed
open PySem PySem.Spec PyProof.Rows L2 LamX
section
variable {P : Program} {w : World} {K : PySem.W.Frag} {mg : Str → Option Value} {base : Heap} {fRi fDe : Addr} {dRi dDe : FuncData} {T : List (Addr × Str)}
abbrev sDeedE : Stmt := topS 12
theorem scDeedE : FnScope ["book", "entry"] ["book"] (defScope sDeedE) := ⟨rfl, rfl, rfl, by decide +kernel, rfl, by decide +kernel, by decide +kernel⟩
theorem ok_deedE {f : Addr} {fd : FuncData} {k : Nat} (F : Fun K "deed_entries" "deed_entries" sDeedE f fd) (R : RisD K mg base T fRi dRi) (mW : MgInt mg "WORD" 4) : FnOk P w K mg base CX0 (k + 3) f fd ["book"] (spPick (·.isDeed) T) := by
  have GR : FnOk P w K mg base CX0 (k + 2) fRi dRi ["book"] (spRising T) := R.ok
  refine F.ok scDeedE (fun vs H Q E h => ?_) (fun cdv A outer s H vs Q E hr h => ?_)
  · obtain ⟨b, fk, t, n, age, zs, rfl, _⟩ := h
    rfl
  · obtain ⟨b, fk, t, n, age, zs, rfl, hB, hT, q⟩ := h
    refine ⟨_, pss_one (ps_ret (pe_lc (own := [("entry", 1)]) (g := gName 1) (by rfl) scDeedE.nd (pi_list (pe_call GR hr (by rfl) R.D.g R.D.F.kp R.D.b .nil pass0 (pa_cons (pv 0) pa_nil))) (blkOk_by (own := [("entry", 1)]) (N := ["book", "entry"]) (sc := defScope sDeedE) (by decide +kernel)) (fun _ _ _ _ _ => pg_name (i := 1) scDeedE.nd rfl (Or.inl rfl))
      (fun _ _ _ _ _ => pts_one (pt_cmpR op_eq (show PE _ _ (tOp (rIxT K) (tVar 1) (tC (.int 4))) from pe_ix ix_tup (pv 1) (pe_num (by rfl) mW) (fun _ _ => rfl)) pe_str (nomark _))) (fun _ _ _ _ _ => pv 1))), ?_⟩
    refine ⟨_, rfl, b, fk, t, n, age, zs, rfl, hB, hT, fun p zs' H1 eN T1 fr ep pm so => ?_⟩
    have hent : ∀ z ∈ zs', EntAt H1 z.1 z.2 := fun z hz => (hB.ent z (pm.mem_iff.mp hz)).kp (ExtN.tup eN)
    refine ⟨p, rfl, ⟨_, SqL.of ep⟩, fun D nD => ?_⟩
    have npD : p ≠ D := ne_of_none ep nD
    refine lc_list (K := K) (a := p) (xs := refs zs') (fun i H' => H' D = some (.lst (refs ((zs'.take i).filter fun z => z.2.isDeed))) ∧ Same H1 H') ⟨upd_same, fun b o e => by rw [upd_ne (ne_of_none e nD)]; exact e⟩ (fun i H' _ h => SqL.of (h.2 _ _ ep)) ?_ ?_
    · rintro i x H' hx ⟨eD, sm⟩
      obtain ⟨z, hz, rfl⟩ := ref_at hx
      have hzm : z ∈ zs' := List.mem_of_getElem? hz
      obtain ⟨xs, ex, _, _, _, _, g4⟩ := ((hent z hzm).kp (Same.tup sm)).tup
      refine ⟨rfl, _, rfl, z.1, xs, 4, _, rfl, rfl, SqT.of ex, g4, rfl, _, rfl, ?_⟩
      have wd := (hB.ok.ok z.2 (List.mem_map.mpr ⟨z, pm.mem_iff.mp hzm, rfl⟩)).word
      have et := take_more hz
      refine ite2 (fun c => ?_) (fun c => ?_)
      · have hd : z.2.isDeed = true := wd.mp (by
          have := of_decide_eq_true c
          injection this)
        refine ⟨_, rfl, _, eD, small1000 ?_, ?_, fun b o e => ?_⟩
        · have h1 := List.length_filter_le (fun z : Addr × En => z.2.isDeed) (zs'.take i)
          have h2 := pm.length_eq
          have h3 := hB.len
          rw [List.length_map]
          rw [List.length_take] at h1
          omega
        · rw [upd_same, et, List.filter_append]
          simp [hd, refs]
        · have nb : b ≠ D := ne_of_none e nD
          rw [upd_ne nb]
          exact sm _ _ e
      · have hd : z.2.isDeed = false := by
          cases hh : z.2.isDeed with
          | false => rfl
          | true =>
            refine absurd (decide_eq_true ?_) c
            rw [wd.mpr hh]
        refine ⟨?_, sm⟩
        rw [eD, et, List.filter_append]
        simp [hd]
    · rintro H' ⟨eD, sm⟩
      have el : zs'.take (refs zs').length = zs' := List.take_of_length_le (by rw [List.length_map]; exact Nat.le_refl _)
      rw [el] at eD
      exact q D zs' H' (eN.trans (.of sm)) (T1.ext sm) (Fresh.of eN nD) eD pm so
end
end Deed

namespace Deed
open PySem PySem.Spec PyProof.Rows L2 LamX
section
variable {P : Program} {w : World} {K : PySem.W.Frag} {mg : Str → Option Value} {base : Heap} {fRi fDe : Addr} {dRi dDe : FuncData} {T : List (Addr × Str)}
abbrev sActE : Stmt := topS 13
theorem scActE : FnScope ["book", "entry"] ["book"] (defScope sActE) := ⟨rfl, rfl, rfl, by decide +kernel, rfl, by decide +kernel, by decide +kernel⟩
theorem ok_actE {f : Addr} {fd : FuncData} {k : Nat} (F : Fun K "act_entries" "act_entries" sActE f fd) (R : RisD K mg base T fRi dRi) (mW : MgInt mg "WORD" 4) : FnOk P w K mg base CX0 (k + 3) f fd ["book"] (spPick (fun e => !e.isDeed) T) := by
  have GR : FnOk P w K mg base CX0 (k + 2) fRi dRi ["book"] (spRising T) := R.ok
  refine F.ok scActE (fun vs H Q E h => ?_) (fun cdv A outer s H vs Q E hr h => ?_)
  · obtain ⟨b, fk, t, n, age, zs, rfl, _⟩ := h
    rfl
  · obtain ⟨b, fk, t, n, age, zs, rfl, hB, hT, q⟩ := h
    refine ⟨_, pss_one (ps_ret (pe_lc (own := [("entry", 1)]) (g := gName 1) (by rfl) scActE.nd (pi_list (pe_call GR hr (by rfl) R.D.g R.D.F.kp R.D.b .nil pass0 (pa_cons (pv 0) pa_nil))) (blkOk_by (own := [("entry", 1)]) (N := ["book", "entry"]) (sc := defScope sActE) (by decide +kernel)) (fun _ _ _ _ _ => pg_name (i := 1) scActE.nd rfl (Or.inl rfl))
      (fun _ _ _ _ _ => pts_one (pt_cmpR op_ne (show PE _ _ (tOp (rIxT K) (tVar 1) (tC (.int 4))) from pe_ix ix_tup (pv 1) (pe_num (by rfl) mW) (fun _ _ => rfl)) pe_str (nomark _))) (fun _ _ _ _ _ => pv 1))), ?_⟩
    refine ⟨_, rfl, b, fk, t, n, age, zs, rfl, hB, hT, fun p zs' H1 eN T1 fr ep pm so => ?_⟩
    have hent : ∀ z ∈ zs', EntAt H1 z.1 z.2 := fun z hz => (hB.ent z (pm.mem_iff.mp hz)).kp (ExtN.tup eN)
    refine ⟨p, rfl, ⟨_, SqL.of ep⟩, fun D nD => ?_⟩
    have npD : p ≠ D := ne_of_none ep nD
    refine lc_list (K := K) (a := p) (xs := refs zs') (fun i H' => H' D = some (.lst (refs ((zs'.take i).filter fun z => !z.2.isDeed))) ∧ Same H1 H') ⟨upd_same, fun b o e => by rw [upd_ne (ne_of_none e nD)]; exact e⟩ (fun i H' _ h => SqL.of (h.2 _ _ ep)) ?_ ?_
    · rintro i x H' hx ⟨eD, sm⟩
      obtain ⟨z, hz, rfl⟩ := ref_at hx
      have hzm : z ∈ zs' := List.mem_of_getElem? hz
      obtain ⟨xs, ex, _, _, _, _, g4⟩ := ((hent z hzm).kp (Same.tup sm)).tup
      refine ⟨rfl, _, rfl, z.1, xs, 4, _, rfl, rfl, SqT.of ex, g4, rfl, _, rfl, ?_⟩
      have wd := (hB.ok.ok z.2 (List.mem_map.mpr ⟨z, pm.mem_iff.mp hzm, rfl⟩)).word
      have et := take_more hz
      refine ite2 (fun c => ?_) (fun c => ?_)
      · have hd : z.2.isDeed = false := by
          cases hh : z.2.isDeed with
          | false => rfl
          | true =>
            have c' : (!decide (V.str z.2.word = V.str "deed")) = true := c
            rw [wd.mpr hh] at c'
            simp at c'
        refine ⟨_, rfl, _, eD, small1000 ?_, ?_, fun b o e => ?_⟩
        · have h1 := List.length_filter_le (fun z : Addr × En => !z.2.isDeed) (zs'.take i)
          have h2 := pm.length_eq
          have h3 := hB.len
          rw [List.length_map]
          rw [List.length_take] at h1
          omega
        · rw [upd_same, et, List.filter_append]
          simp [hd, refs]
        · have nb : b ≠ D := ne_of_none e nD
          rw [upd_ne nb]
          exact sm _ _ e
      · have hd : z.2.isDeed = true := by
          cases hh : z.2.isDeed with
          | true => rfl
          | false =>
            refine absurd ?_ c
            show (!decide (V.str z.2.word = V.str "deed")) = true
            have : ¬ (V.str z.2.word = V.str "deed") := fun q => by
              injection q with q
              rw [wd.mp q] at hh
              cases hh
            rw [decide_eq_false this]
            rfl
        refine ⟨?_, sm⟩
        rw [eD, et, List.filter_append]
        simp [hd]
    · rintro H' ⟨eD, sm⟩
      have el : zs'.take (refs zs').length = zs' := List.take_of_length_le (by rw [List.length_map]; exact Nat.le_refl _)
      rw [el] at eD
      exact q D zs' H' (eN.trans (.of sm)) (T1.ext sm) (Fresh.of eN nD) eD pm so
end
end Deed

namespace Deed
open PySem PySem.Spec PyProof.Rows L2 LamX
section
variable {P : Program} {w : World} {K : PySem.W.Frag} {mg : Str → Option Value} {base : Heap} {fRi fDe : Addr} {dRi dDe : FuncData} {T : List (Addr × Str)}
abbrev sDeedsOf : Stmt := topS 14
theorem scDeedsOf : FnScope ["book", "entry"] ["book"] (defScope sDeedsOf) := ⟨rfl, rfl, rfl, by decide +kernel, rfl, by decide +kernel, by decide +kernel⟩
theorem ok_DeedsOf {f : Addr} {fd : FuncData} {k : Nat} (F : Fun K "deeds_of" "deeds_of" sDeedsOf f fd) (DE : Df K mg "deed_entries" sDeedE ["book"] fDe dDe) (GE : FnOk P w K mg base CX0 (k + 3) fDe dDe ["book"] (spPick (·.isDeed) T)) (mN : MgInt mg "NUMBER" 0) : FnOk P w K mg base CX0 (k + 4) f fd ["book"] (spNums (·.isDeed) T) := by
  refine F.ok scDeedsOf (fun vs H Q E h => ?_) (fun cdv A outer s H vs Q E hr h => ?_)
  · obtain ⟨b, fk, t, n, age, zs, rfl, _⟩ := h
    rfl
  · obtain ⟨b, fk, t, n, age, zs, rfl, hB, hT, q⟩ := h
    refine ⟨_, pss_one (ps_ret (pe_lc (own := [("entry", 1)]) (g := gName 1) (by rfl) scDeedsOf.nd (pi_list (pe_call GE hr (by rfl) DE.g DE.F.kp DE.b .nil pass0 (pa_cons (pv 0) pa_nil))) (blkOk_by (own := [("entry", 1)]) (N := ["book", "entry"]) (sc := defScope sDeedsOf) (by decide +kernel)) (fun _ _ _ _ _ => pg_name (i := 1) scDeedsOf.nd rfl (Or.inl rfl))
      (fun _ _ _ _ _ => pts_nil) (fun _ _ _ _ _ => show PE _ _ (tOp (rIxT K) (tVar 1) (tC (.int 0))) from pe_ix ix_tup (pv 1) (pe_num (by rfl) mN) (fun _ _ => rfl)))), ?_⟩
    refine ⟨_, rfl, b, fk, t, n, age, zs, rfl, hB, hT, fun p zs' H1 eN T1 fr ep pm so => ?_⟩
    have hent : ∀ z ∈ zs', EntAt H1 z.1 z.2 := fun z hz => (hB.ent z (pm.mem_iff.mp hz)).kp (ExtN.tup eN)
    refine ⟨p, rfl, ⟨_, SqL.of ep⟩, fun D nD => ?_⟩
    refine lc_list (K := K) (a := p) (xs := refs (zs'.filter fun z => (·.isDeed) z.2)) (fun i H' => H' D = some (.lst ((((zs'.filter fun z => (·.isDeed) z.2).take i).map fun z => z.2.num).map V.int)) ∧ Same H1 H') ⟨upd_same, fun b o e => by rw [upd_ne (ne_of_none e nD)]; exact e⟩ (fun i H' _ h => SqL.of (h.2 _ _ ep)) ?_ ?_
    · rintro i x H' hx ⟨eD, sm⟩
      obtain ⟨z, hz, rfl⟩ := ref_at hx
      have hzm : z ∈ zs' := (List.mem_filter.mp (List.mem_of_getElem? hz)).1
      obtain ⟨xs, ex, g0, _⟩ := ((hent z hzm).kp (Same.tup sm)).tup
      refine ⟨rfl, ?_⟩
      unfold tYes
      dsimp only
      rw [if_pos rfl]
      refine ⟨_, rfl, z.1, xs, 0, _, rfl, rfl, SqT.of ex, g0, _, eD, small1000 ?_, ?_, fun b o e => ?_⟩
      · have h1 := List.length_filter_le (fun z : Addr × En => (·.isDeed) z.2) zs'
        have h2 := pm.length_eq
        have h3 := hB.len
        rw [List.length_map, List.length_map, List.length_take]
        omega
      · rw [upd_same, take_more hz, List.map_append, List.map_append]
        rfl
      · have nb : b ≠ D := ne_of_none e nD
        rw [upd_ne nb]
        exact sm _ _ e
    · rintro H' ⟨eD, sm⟩
      have el : (zs'.filter fun z => (·.isDeed) z.2).take (refs (zs'.filter fun z => (·.isDeed) z.2)).length = zs'.filter fun z => (·.isDeed) z.2 := List.take_of_length_le (by rw [List.length_map]; exact Nat.le_refl _)
      rw [el] at eD
      exact q D zs' H' (eN.trans (.of sm)) (T1.ext sm) (Fresh.of eN nD) eD pm so
end
end Deed

namespace Deed
open PySem PySem.Spec PyProof.Rows L2 LamX
theorem Tabs.kp {T : List (Addr × Str)} {H H' : Hp} {p : Addr} (t : Tabs T H) (k : Kp p H H') (P : PenAt H p) : Tabs T H' := fun q hq => by
  obtain ⟨ps, h1, h2, h3⟩ := t q hq
  refine ⟨ps, k _ _ (P.ne h1 fun _ z => by cases z) h1, h2, fun pos cv hc => ?_⟩
  obtain ⟨c, e1, e2⟩ := h3 pos cv hc
  exact ⟨c, e1, k _ _ (P.ne e2 fun _ z => by unfold CodeO at z; cases z) e2⟩
theorem ExtN.sqL {K : PySem.W.Frag} {H H' : Hp} {a : Addr} {xs : List V} (e : ExtN H H') (h : SqL K H a xs) : SqL K H' a xs := by
  rcases h with (z | ⟨o, z⟩) | z
  · exact .inl (.inl (e _ _ z fun ps z' => by cases z'))
  · exact .inl (.inr ⟨o, e _ _ z fun ps z' => by cases z'⟩)
  · exact .inr z
theorem ExtN.pen {H H' : Hp} {p : Addr} (e : ExtN H H') (h : PenAt H p) : PenAt H' p := by
  obtain ⟨x1, x2, x3, x4, z1, z2⟩ := h
  exact ⟨x1, x2, x3, x4, e _ _ z1 fun ps z => (by cases z), z2⟩
/-- with a pen that is new -/
theorem ExtN.kp {H H1 H2 : Hp} {p : Addr} (e : ExtN H H1) (n : H p = none) (k : Kp p H1 H2) : ExtN H H2 := fun b o z h => k b o (ne_of_none z n) (e b o z h)
theorem ExtN.put {H H' : Hp} {p : Addr} (e : ExtN H H') (f : Fresh H p) (o : HO) : ExtN H (upd H' p o) := fun b u z h => by
  rw [upd_ne (f.ne z h)]
  exact e b u z h
theorem rising_one : ∀ {l m : List Int}, l.Pairwise (· < ·) → m.Pairwise (· < ·) → (∀ x, x ∈ l ↔ x ∈ m) → l = m
  | [], [], _, _, _ => rfl
  | [], y :: m, _, _, h => absurd ((h y).mpr List.mem_cons_self) (by simp)
  | x :: l, [], _, _, h => absurd ((h x).mp List.mem_cons_self) (by simp)
  | x :: l, y :: m, h1, h2, h => by
    have a1 := List.pairwise_cons.mp h1
    have a2 := List.pairwise_cons.mp h2
    have exy : x = y := by
      have m1 := (h x).mp List.mem_cons_self
      have m2 := (h y).mpr List.mem_cons_self
      rcases List.mem_cons.mp m1 with e | e
      · exact e
      · rcases List.mem_cons.mp m2 with e' | e'
        · exact e'.symm
        · have := a1.1 y e'
          have := a2.1 x e
          omega
    subst exy
    congr 1
    refine rising_one a1.2 a2.2 fun z => ?_
    constructor
    · intro hz
      rcases List.mem_cons.mp ((h z).mp (List.mem_cons_of_mem _ hz)) with e | e
      · have := a1.1 z hz
        omega
      · exact e
    · intro hz
      rcases List.mem_cons.mp ((h z).mpr (List.mem_cons_of_mem _ hz)) with e | e
      · have := a2.1 z hz
        omega
      · exact e
/-- the picked numbers of an arrangement by numbers -/
def picked (φ : En → Bool) (zs : List (Addr × En)) : List Int := (zs.filter fun z => φ z.2).map fun z => z.2.num
theorem picked_up {φ : En → Bool} {zs : List (Addr × En)} (h : zs.Pairwise (fun a b => a.2.num < b.2.num)) : (picked φ zs).Pairwise (· < ·) := by
  unfold picked
  exact List.pairwise_map.mpr (h.filter _)
theorem mem_picked {φ : En → Bool} {zs : List (Addr × En)} {x : Int} : x ∈ picked φ zs ↔ ∃ z ∈ zs, φ z.2 = true ∧ z.2.num = x := by
  unfold picked
  simp only [List.mem_map, List.mem_filter]
  constructor
  · rintro ⟨z, ⟨h1, h2⟩, h3⟩
    exact ⟨z, h1, h2, h3⟩
  · rintro ⟨z, h1, h2, h3⟩
    exact ⟨z, ⟨h1, h2⟩, h3⟩
theorem picked_len (φ : En → Bool) (zs : List (Addr × En)) : (picked φ zs).length ≤ zs.length := by
  unfold picked
  rw [List.length_map]
  exact List.length_filter_le _ _
/-- two arrangements of the same entries -/
theorem picked_one {φ : En → Bool} {zs zs' : List (Addr × En)} (h : zs.Pairwise (fun a b => a.2.num < b.2.num)) (h' : zs'.Pairwise (fun a b => a.2.num < b.2.num)) (e : ∀ x, x ∈ ens zs ↔ x ∈ ens zs') : picked φ zs = picked φ zs' := by
  refine rising_one (picked_up h) (picked_up h') fun x => ?_
  rw [mem_picked, mem_picked]
  constructor
  · rintro ⟨z, h1, h2, h3⟩
    obtain ⟨z', h4, h5⟩ := List.mem_map.mp ((e z.2).mp (List.mem_map.mpr ⟨z, h1, rfl⟩))
    exact ⟨z', h4, by rw [h5]; exact h2, by rw [h5]; exact h3⟩
  · rintro ⟨z, h1, h2, h3⟩
    obtain ⟨z', h4, h5⟩ := List.mem_map.mp ((e z.2).mpr (List.mem_map.mpr ⟨z, h1, rfl⟩))
    exact ⟨z', h4, by rw [h5]; exact h2, by rw [h5]; exact h3⟩
theorem ens_perm {zs zs' : List (Addr × En)} (h : zs'.Perm zs) : ∀ x, x ∈ ens zs' ↔ x ∈ ens zs := fun x => (h.map _).mem_iff
end Deed

namespace Deed
open PySem PySem.Spec PyProof.Rows L2 LamX
/-! ### acts in force: the mathematics -/
def En.of (e : En) : Int := match e.kd with
  | .deed _ _ _ _ => -1
  | .act _ o => o
def isOpen (d k : Int) (e : En) : Bool := decide (e.day ≤ d) && decide (e.wri ≤ k)
/-- an entry of the word x that is of the number n -/
def isOn (x : Str) (n : Int) (e : En) : Bool := decide (e.word = x) && decide (e.of = n)
def frcF (es : List En) (d k : Int) : Nat → En → Bool
  | 0, _ => false
  | f + 1, e => isOpen d k e && es.all fun u => !(isOn "undone" e.num u && frcF es d k f u)
def frc (es : List En) (d k : Int) (e : En) : Bool := frcF es d k (31 - e.num).toNat e
theorem EnOk.of_lt {n : Nat} {ds as : List Int} {e : En} (h : EnOk n ds as e) (hd : e.isDeed = false) : e.of < e.num ∧ ((e.word = "undone" ∧ e.of ∈ as) ∨ ((e.word = "paid" ∨ e.word = "void") ∧ e.of ∈ ds)) := by
  unfold En.isDeed at hd
  unfold En.of En.word
  cases hk : e.kd with
  | deed g t rs ws =>
    rw [hk] at hd
    cases hd
  | act x o =>
    have h4 := h.2.2.2
    rw [hk] at h4
    exact ⟨h4.2, h4.1⟩
theorem isOn_act {n : Nat} {ds as : List Int} {e : En} {x : Str} {m : Int} (h : EnOk n ds as e) (hx : x ≠ "deed") (ho : isOn x m e = true) : e.isDeed = false ∧ e.word = x ∧ e.of = m := by
  unfold isOn at ho
  rw [Bool.and_eq_true] at ho
  have h1 := of_decide_eq_true ho.1
  have h2 := of_decide_eq_true ho.2
  refine ⟨?_, h1, h2⟩
  cases hd : e.isDeed with
  | false => rfl
  | true => exact absurd ((h.word.mpr hd).symm.trans h1) (fun z => hx z.symm)
theorem frcF_one {n : Nat} {es : List En} (hB : BkOk n es) (d k : Int) : ∀ (f g : Nat) (e : En), e ∈ es → (31 - e.num).toNat ≤ f → (31 - e.num).toNat ≤ g → frcF es d k f e = frcF es d k g e := by
  intro f
  induction f with
  | zero =>
    intro g e he hf _
    have := hB.rng e he
    omega
  | succ f ih =>
    intro g e he hf hg
    have re := hB.rng e he
    cases g with
    | zero => omega
    | succ g =>
      show (isOpen d k e && es.all fun u => !(isOn "undone" e.num u && frcF es d k f u)) = (isOpen d k e && es.all fun u => !(isOn "undone" e.num u && frcF es d k g u))
      congr 1
      have key : ∀ u ∈ es, (isOn "undone" e.num u && frcF es d k f u) = (isOn "undone" e.num u && frcF es d k g u) := fun u hu => by
        cases ho : isOn "undone" e.num u with
        | false => rfl
        | true =>
          obtain ⟨h1, h2, h3⟩ := isOn_act (hB.ok u hu) (by decide) ho
          have lt := ((hB.ok u hu).of_lt h1).1
          rw [ih g u hu (by omega) (by omega)]
      rw [Bool.eq_iff_iff, List.all_eq_true, List.all_eq_true]
      constructor
      · intro h u hu
        rw [← key u hu]
        exact h u hu
      · intro h u hu
        rw [key u hu]
        exact h u hu
theorem frcF_eq {n : Nat} {es : List En} (hB : BkOk n es) (d k : Int) {f : Nat} {e : En} (he : e ∈ es) (hf : (31 - e.num).toNat ≤ f) : frcF es d k f e = frc es d k e := frcF_one hB d k _ _ e he hf (Nat.le_refl _)
/-- in force: open, and no undone of it in force -/
theorem frc_eq {n : Nat} {es : List En} (hB : BkOk n es) (d k : Int) {e : En} (he : e ∈ es) : frc es d k e = (isOpen d k e && es.all fun u => !(isOn "undone" e.num u && frc es d k u)) := by
  have re := hB.rng e he
  rw [← frcF_eq hB d k (f := 31) he (by omega)]
  show (isOpen d k e && es.all fun u => !(isOn "undone" e.num u && frcF es d k 30 u)) = _
  congr 1
  have key : ∀ u ∈ es, (isOn "undone" e.num u && frcF es d k 30 u) = (isOn "undone" e.num u && frc es d k u) := fun u hu => by
    cases ho : isOn "undone" e.num u with
    | false => rfl
    | true =>
      obtain ⟨h1, h2, h3⟩ := isOn_act (hB.ok u hu) (by decide) ho
      have lt := ((hB.ok u hu).of_lt h1).1
      rw [frcF_eq hB d k hu (by omega)]
  rw [Bool.eq_iff_iff, List.all_eq_true, List.all_eq_true]
  constructor
  · intro h u hu
    rw [← key u hu]
    exact h u hu
  · intro h u hu
    rw [key u hu]
    exact h u hu
theorem frc_open {n : Nat} {es : List En} (hB : BkOk n es) {d k : Int} {e : En} (he : e ∈ es) (h : frc es d k e = true) : isOpen d k e = true := by
  rw [frc_eq hB d k he, Bool.and_eq_true] at h
  exact h.1
theorem num_inj {n : Nat} {es : List En} (hB : BkOk n es) {e e' : En} (he : e ∈ es) (he' : e' ∈ es) (h : e.num = e'.num) : e = e' := by
  obtain ⟨i1, hi1, ei1⟩ := List.mem_iff_getElem.mp he
  obtain ⟨i2, hi2, ei2⟩ := List.mem_iff_getElem.mp he'
  have h1 : (es.map (·.num))[i1]? = some e.num := by rw [List.getElem?_map, List.getElem?_eq_getElem hi1, ei1]; rfl
  have h2 : (es.map (·.num))[i2]? = some e.num := by rw [List.getElem?_map, List.getElem?_eq_getElem hi2, ei2, h]; rfl
  have h3 := nd_ix hB.nd h1 h2
  subst h3
  rw [← ei1, ← ei2]
end Deed

namespace Deed
open PySem PySem.Spec PyProof.Rows L2 LamX
/-! ### the law's own book of entries -/
abbrev dks (zs : List (Addr × En)) : List (Key × V) := zs.map fun z => (Sum.inl z.2.num, V.ref z.1)
structure EdAt (H : Hp) (ed : Addr) (n : Nat) (zs : List (Addr × En)) : Prop where
  at_ : H ed = some (.dK (dks zs))
  ent : ∀ z ∈ zs, EntAt H z.1 z.2
  ok : BkOk n (ens zs)
  len : zs.length ≤ 16
theorem EdAt.same {H H' : Hp} {ed : Addr} {n : Nat} {zs : List (Addr × En)} (h : EdAt H ed n zs) (s : Same H H') : EdAt H' ed n zs := ⟨s _ _ h.at_, fun z hz => (h.ent z hz).kp (Same.tup s), h.ok, h.len⟩
theorem valV_dks {zs : List (Addr × En)} (nd : ((ens zs).map (·.num)).Nodup) {z : Addr × En} (hz : z ∈ zs) : valV (dks zs) (.inl z.2.num) = some (.ref z.1) := by
  induction zs with
  | nil => cases hz
  | cons y r ih =>
    have nd' : (y.2.num :: (ens r).map (·.num)).Nodup := nd
    have h2 := List.nodup_cons.mp nd'
    show Option.map (·.2) (List.find? (fun kv => decide (kv.1 = (Sum.inl z.2.num : Key))) ((Sum.inl y.2.num, V.ref y.1) :: dks r)) = _
    rw [List.find?_cons]
    rcases List.mem_cons.mp hz with rfl | hz
    · simp
    · have hne : ¬ (Sum.inl y.2.num : Key) = Sum.inl z.2.num := fun q => by
        injection q with q
        exact h2.1 (List.mem_map.mpr ⟨z.2, List.mem_map.mpr ⟨z, hz, rfl⟩, q.symm⟩)
      rw [decide_eq_false hne]
      exact ih h2.2 hz
theorem EdAt.get {H : Hp} {ed : Addr} {n : Nat} {zs : List (Addr × En)} (h : EdAt H ed n zs) {z : Addr × En} (hz : z ∈ zs) : DGet H ed (.int z.2.num) (some (.ref z.1)) := by
  have := DGet.k (k := Sum.inl z.2.num) h.at_
  rw [valV_dks h.ok.nd hz] at this
  exact this
theorem mem_inS {x : Str} {ws : List Str} : inV (.str x) (ws.map V.str) = decide (x ∈ ws) := by
  induction ws with
  | nil => simp [inV]
  | cons m r ih =>
    have e : inV (.str x) ((m :: r).map V.str) = (eqV (.str m) (.str x) || inV (.str x) (r.map V.str)) := by simp [inV]
    have e2 : eqV (.str m) (.str x) = decide (m = x) := by
      first | rfl | simp [eqV] | (unfold eqV; simp)
    rw [e, ih, e2]
    by_cases h : m = x
    · subst h
      simp
    · have h' : ¬ x = m := fun z => h z.symm
      simp [h, h']
theorem flat_strs (ws : List Str) : (ws.map V.str).all flatV = true := by
  induction ws with
  | nil => rfl
  | cons n r ih =>
    rw [List.map_cons, List.all_cons, ih]
    rfl
theorem EntAt.five {H : Hp} {a : Addr} {e : En} (h : EntAt H a e) (hd : e.isDeed = false) : ∃ xs, H a = some (.tup xs) ∧ atI xs 5 = some (.int e.of) := by
  unfold EntAt at h
  unfold En.isDeed at hd
  unfold En.of
  cases hk : e.kd with
  | deed g t rs ws =>
    rw [hk] at hd
    cases hd
  | act x o =>
    rw [hk] at h
    exact ⟨_, h, atI_nat (j := 5) rfl⟩
theorem putK_new {kvs : List (Key × V)} {k : Key} {v : V} (h : k ∉ kvs.map (·.1)) : putK kvs k v = kvs ++ [(k, v)] := by
  unfold putK
  rw [if_neg]
  intro z
  obtain ⟨kv, h1, h2⟩ := List.any_eq_true.mp z
  exact h (List.mem_map.mpr ⟨kv, h1, of_decide_eq_true h2⟩)
theorem mergeK_new : ∀ (more kvs : List (Key × V)), ((kvs ++ more).map (·.1)).Nodup → mergeK kvs more = kvs ++ more
  | [], kvs, _ => (List.append_nil kvs).symm
  | (k, v) :: r, kvs, h => by
    show mergeK (putK kvs k v) r = kvs ++ (k, v) :: r
    have hk : k ∉ kvs.map (·.1) := fun z => by
      rw [List.map_append, List.nodup_append] at h
      exact h.2.2 k z k List.mem_cons_self rfl
    rw [putK_new hk, mergeK_new r (kvs ++ [(k, v)]) (by rw [List.append_assoc]; exact h), List.append_assoc]
    rfl
theorem dks_nodup {zs : List (Addr × En)} (h : ((ens zs).map (·.num)).Nodup) : ((dks zs).map (·.1)).Nodup := by
  have e : (dks zs).map (·.1) = ((ens zs).map (·.num)).map (Sum.inl : Int → Key) := by
    simp [dks, ens, List.map_map, Function.comp_def]
  rw [e]
  exact List.pairwise_map.mpr (h.imp fun hne e => hne (Sum.inl.inj e))
theorem paired_mono {α β : Type} {F G : α → β → Prop} {l : List α} {m : List β} (h : Paired F l m) (i : ∀ a b, F a b → G a b) : Paired G l m := by
  induction h with
  | nil => exact .nil
  | cons a _ ih => exact .cons (i _ _ a) ih
/-- a lesser number stands ahead -/
theorem mem_before {ys : List (Addr × En)} {i : Nat} {z v : Addr × En} (up : ys.Pairwise (fun a b => a.2.num < b.2.num)) (hz : ys[i]? = some z) (hv : v ∈ ys) (h : v.2.num < z.2.num) : v ∈ ys.take i := by
  obtain ⟨j, hj, ej⟩ := List.mem_iff_getElem.mp hv
  obtain ⟨hi, ei⟩ := List.getElem?_eq_some_iff.mp hz
  have hji : j < i := by
    rcases Nat.lt_or_ge j i with q1 | q1
    · exact q1
    · rcases Nat.eq_or_lt_of_le q1 with q2 | q2
      · subst q2
        rw [ei] at ej
        rw [ej] at h
        omega
      · have := List.pairwise_iff_getElem.mp up i j hi hj q2
        rw [ei, ej] at this
        omega
  exact List.mem_take_iff_getElem.mpr ⟨j, by omega, ej⟩
theorem not_before {ys : List (Addr × En)} {i : Nat} {z v : Addr × En} (up : ys.Pairwise (fun a b => a.2.num < b.2.num)) (hz : ys[i]? = some z) (hv : v ∈ ys.take i) : v.2.num < z.2.num := by
  obtain ⟨hi, ei⟩ := List.getElem?_eq_some_iff.mp hz
  obtain ⟨j, hj, ej⟩ := List.mem_take_iff_getElem.mp hv
  have := List.pairwise_iff_getElem.mp up j i (by omega) hi (by omega)
  rw [ei, ej] at this
  exact this
end Deed

namespace Deed
open PySem PySem.Spec PyProof.Rows L2 LamX
section
variable {P : Program} {w : World} {K : PySem.W.Frag} {mg : Str → Option Value} {base : Heap} {T : List (Addr × Str)} {fW fI fY fA : Addr} {dW dI dY dA : FuncData}
/-! ### whole numbers, days: where they are such -/
abbrev sWhole : Stmt := topS 8
theorem scWhole : FnScope ["thing"] ["thing"] (defScope sWhole) := ⟨rfl, rfl, rfl, by decide +kernel, rfl, by decide +kernel, by decide +kernel⟩
def spWholeI : Sp := fun vs H Q _ => ∃ i : Int, vs = [.int i] ∧ Q (.bl true) H
theorem ok_wholeI {f : Addr} {fd : FuncData} {k : Nat} (F : Fun K "is_whole" "is_whole" sWhole f fd) (mi : mg "isinstance" = none) (mn : mg "int" = none) (mb : mg "bool" = none) : FnOk P w K mg base CX0 (k + 1) f fd ["thing"] spWholeI := by
  refine F.ok scWhole (fun vs H Q E h => ?_) (fun cdv A outer s H vs Q E hr h => ?_)
  · obtain ⟨i, rfl, _⟩ := h
    rfl
  · obtain ⟨i, rfl, q⟩ := h
    refine ⟨_, pss_one (ps_ret (pe_and (pe_callB call_isi (by rfl) mi (by decide +kernel) (pa_cons (pv 0) (pa_cons (pe_bltn (v := .ty "int") (by rfl) mn (by decide +kernel) rfl) pa_nil))) (pe_one (pe_not (pe_callB call_isi (by rfl) mi (by decide +kernel) (pa_cons (pv 0) (pa_cons (pe_bltn (v := .ty "bool") (by rfl) mb (by decide +kernel) rfl) pa_nil))))))), ?_⟩
    refine ⟨_, rfl, _, _, _, _, true, rfl, .ty "int", .base (.int i), kit_ty (by decide +kernel), _, rfl, ?_⟩
    refine iteT ?_
    exact ⟨_, rfl, _, _, _, _, false, rfl, .ty "bool", .base (.int i), kit_ty (by decide +kernel), _, rfl, q⟩
abbrev sWithin : Stmt := topS 9
theorem scWithin : FnScope ["thing", "low", "high"] ["thing", "low", "high"] (defScope sWithin) := ⟨rfl, rfl, rfl, by decide +kernel, rfl, by decide +kernel, by decide +kernel⟩
def spWithinI : Sp := fun vs H Q _ => ∃ i lo hi : Int, vs = [.int i, .int lo, .int hi] ∧ lo ≤ i ∧ i ≤ hi ∧ Q (.bl true) H
theorem ok_withinI {f : Addr} {fd : FuncData} {k : Nat} (F : Fun K "is_within" "is_within" sWithin f fd) (DW : Df K mg "is_whole" sWhole ["thing"] fW dW) (mi : mg "isinstance" = none) (mn : mg "int" = none) (mb : mg "bool" = none) : FnOk P w K mg base CX0 (k + 2) f fd ["thing", "low", "high"] spWithinI := by
  have GW : FnOk P w K mg base CX0 (k + 1) fW dW ["thing"] spWholeI := ok_wholeI DW.F mi mn mb
  refine F.ok scWithin (fun vs H Q E h => ?_) (fun cdv A outer s H vs Q E hr h => ?_)
  · obtain ⟨i, lo, hi, rfl, _⟩ := h
    rfl
  · obtain ⟨i, lo, hi, rfl, h1, h2, q⟩ := h
    refine ⟨_, pss_one (ps_ret (pe_and (pe_call GW hr (by rfl) DW.g DW.F.kp DW.b .nil pass0 (pa_cons (pv 0) pa_nil)) (pe_one (pe_chain op_le op_le (pv 1) (pv 0) (pv 2))))), ?_⟩
    refine ⟨_, rfl, i, rfl, true, rfl, ?_⟩
    refine iteT ?_
    refine ⟨_, rfl, _, rfl, _, _, rfl, rfl, _, rfl, ?_⟩
    rw [decide_eq_true h1]
    refine iteT ?_
    refine ⟨_, rfl, _, _, rfl, rfl, ?_⟩
    dsimp only
    rw [decide_eq_true h2]
    exact q
abbrev sIsDay : Stmt := topS 10
theorem scIsDay : FnScope ["thing"] ["thing"] (defScope sIsDay) := ⟨rfl, rfl, rfl, by decide +kernel, rfl, by decide +kernel, by decide +kernel⟩
def spDayI : Sp := fun vs H Q _ => ∃ i : Int, vs = [.int i] ∧ 0 ≤ i ∧ i ≤ 9999 ∧ Q (.bl true) H
theorem ok_dayI {f : Addr} {fd : FuncData} {k : Nat} (F : Fun K "is_day" "is_day" sIsDay f fd) (DI : Df K mg "is_within" sWithin ["thing", "low", "high"] fI dI) (DW : Df K mg "is_whole" sWhole ["thing"] fW dW) (mi : mg "isinstance" = none) (mn : mg "int" = none) (mb : mg "bool" = none) (mL : MgInt mg "LAST_DAY" 9999) : FnOk P w K mg base CX0 (k + 3) f fd ["thing"] spDayI := by
  have GI : FnOk P w K mg base CX0 (k + 2) fI dI ["thing", "low", "high"] spWithinI := ok_withinI DI.F DW mi mn mb
  refine F.ok scIsDay (fun vs H Q E h => ?_) (fun cdv A outer s H vs Q E hr h => ?_)
  · obtain ⟨i, rfl, _⟩ := h
    rfl
  · obtain ⟨i, rfl, h0, h1, q⟩ := h
    refine ⟨_, pss_one (ps_ret (pe_call GI hr (by rfl) DI.g DI.F.kp DI.b .nil pass0 (pa_cons (pv 0) (pa_cons pe_int (pa_cons (pe_num (by rfl) mL) pa_nil))))), ?_⟩
    exact ⟨_, rfl, i, 0, 9999, rfl, h0, h1, q⟩
abbrev sCheckDay : Stmt := topS 19
theorem scCheckDay : FnScope ["thing"] ["thing"] (defScope sCheckDay) := ⟨rfl, rfl, rfl, by decide +kernel, rfl, by decide +kernel, by decide +kernel⟩
def spCkDay : Sp := fun vs H Q _ => ∃ i : Int, vs = [.int i] ∧ 0 ≤ i ∧ i ≤ 9999 ∧ Q .non H
theorem ok_ckDay {f : Addr} {fd : FuncData} {k : Nat} (F : Fun K "check_day" "check_day" sCheckDay f fd) (DY : Df K mg "is_day" sIsDay ["thing"] fY dY) (DI : Df K mg "is_within" sWithin ["thing", "low", "high"] fI dI) (DW : Df K mg "is_whole" sWhole ["thing"] fW dW) (mi : mg "isinstance" = none) (mn : mg "int" = none) (mb : mg "bool" = none) (mL : MgInt mg "LAST_DAY" 9999) : FnOk P w K mg base CX0 (k + 4) f fd ["thing"] spCkDay := by
  have GY : FnOk P w K mg base CX0 (k + 3) fY dY ["thing"] spDayI := ok_dayI DY.F DI DW mi mn mb mL
  refine F.ok scCheckDay (fun vs H Q E h => ?_) (fun cdv A outer s H vs Q E hr h => ?_)
  · obtain ⟨i, rfl, _⟩ := h
    rfl
  · obtain ⟨i, rfl, h0, h1, q⟩ := h
    refine ⟨_, pss_one (ps_if (pt_not (pt_val (pe_call GY hr (by rfl) DY.g DY.F.kp DY.b .nil pass0 (pa_cons (pv 0) pa_nil)))) pss_never pss_nil), ?_⟩
    refine ⟨_, rfl, i, rfl, h0, h1, _, rfl, ?_⟩
    exact iteF q
end
end Deed

namespace Deed
open PySem PySem.Spec PyProof.Rows L2 LamX
section
variable {P : Program} {w : World} {K : PySem.W.Frag} {mg : Str → Option Value} {base : Heap} {T : List (Addr × Str)} {fAe fOn : Addr} {dAe dOn : FuncData}
/-! ### the open acts -/
abbrev sOpenA : Stmt := topS 22
abbrev nOpenA : List Str := ["book", "d", "k", "act"]
theorem scOpenA : FnScope nOpenA ["book", "d", "k"] (defScope sOpenA) := ⟨rfl, rfl, rfl, by decide +kernel, rfl, by decide +kernel, by decide +kernel⟩
/-- the open acts, by their numbers -/
structure OpenActs (n : Nat) (es : List En) (d k : Int) (ys : List (Addr × En)) : Prop where
  mem : ∀ z ∈ ys, z.2 ∈ es ∧ z.2.isDeed = false ∧ isOpen d k z.2 = true
  all : ∀ u ∈ es, u.isDeed = false → isOpen d k u = true → ∃ z ∈ ys, z.2 = u
  up : ys.Pairwise (fun a b => a.2.num < b.2.num)
  len : ys.length ≤ 16
def spOpenA (T : List (Addr × Str)) : Sp := fun vs H Q _ => ∃ (b fk t : Addr) (n : Nat) (age : Int) (zs : List (Addr × En)) (d k : Int), vs = [.ref b, .int d, .int k] ∧ BookAt H b fk t n age zs ∧ Tabs T H ∧
  ∀ (p : Addr) (ys : List (Addr × En)) (H' : Hp), ExtN H H' → Tabs T H' → Fresh H p → H' p = some (.lst (refs ys)) → (∀ z ∈ ys, EntAt H' z.1 z.2) → OpenActs n (ens zs) d k ys → Q (.ref p) H'
def t_openA (K : PySem.W.Frag) : TT := tAnd (tTest (tOp (rI0 fun i j => .bl (decide (i ≤ j))) (tOp (rIxT K) (tVar 3) (tC (.int 2))) (tVar 2))) (tTest (tOp (rI0 fun i j => .bl (decide (i ≤ j))) (tOp (rIxT K) (tVar 3) (tC (.int 1))) (tVar 1)))
theorem ok_openA {f : Addr} {fd : FuncData} {k : Nat} (F : Fun K "open_acts" "open_acts" sOpenA f fd) (DE : Df K mg "act_entries" sActE ["book"] fAe dAe) (GE : FnOk P w K mg base CX0 (k + 3) fAe dAe ["book"] (spPick (fun e => !e.isDeed) T)) (mW : MgInt mg "WRITTEN" 2) (mD : MgInt mg "DAY" 1) :
    FnOk P w K mg base CX0 (k + 4) f fd ["book", "d", "k"] (spOpenA T) := by
  refine F.ok scOpenA (fun vs H Q E h => ?_) (fun cdv A outer s H vs Q E hr h => ?_)
  · obtain ⟨b, fk, t, n, age, zs, d, k, rfl, _⟩ := h
    rfl
  · obtain ⟨b, fk, t, n, age, zs, d, kk, rfl, hB, hT, q⟩ := h
    refine ⟨_, pss_one (ps_ret (pe_lc (own := [("act", 3)]) (g := gName 3) (by rfl) scOpenA.nd (pi_list (pe_call GE hr (by rfl) DE.g DE.F.kp DE.b .nil pass0 (pa_cons (pv 0) pa_nil))) (blkOk_by (own := [("act", 3)]) (N := nOpenA) (sc := defScope sOpenA) (by decide +kernel)) (fun _ _ _ _ _ => pg_name (i := 3) scOpenA.nd rfl (Or.inl rfl))
      (fun _ _ _ _ _ => show PTs _ _ (t_openA K) from pts_one (PW.pt (pw_and (pt_cmpR op_le (pe_ix ix_tup (pv 3) (pe_num (by rfl) mW) (fun _ _ => rfl)) (pv 2) (nomark _)) (pw_and1 (pt_cmpR op_le (pe_ix ix_tup (pv 3) (pe_num (by rfl) mD) (fun _ _ => rfl)) (pv 1) (nomark _)))))) (fun _ _ _ _ _ => pv 3))), ?_⟩
    refine ⟨_, rfl, b, fk, t, n, age, zs, rfl, hB, hT, fun p zs' H1 eN T1 fr ep pm so => ?_⟩
    have hent : ∀ z ∈ zs', EntAt H1 z.1 z.2 := fun z hz => (hB.ent z (pm.mem_iff.mp hz)).kp (ExtN.tup eN)
    have hmem : ∀ z ∈ zs'.filter (fun z => !z.2.isDeed), z ∈ zs' := fun z hz => (List.mem_filter.mp hz).1
    have hlen : (zs'.filter fun z => !z.2.isDeed).length ≤ 16 := by
      have h1 := List.length_filter_le (fun z : Addr × En => !z.2.isDeed) zs'
      have h2 := pm.length_eq
      have h3 := hB.len
      omega
    have hso : (zs'.filter fun z => !z.2.isDeed).Pairwise (fun a b => a.2.num < b.2.num) := so.filter _
    have hact : ∀ z ∈ zs'.filter (fun z => !z.2.isDeed), z.2.isDeed = false := fun z hz => by
      have := (List.mem_filter.mp hz).2
      simpa using this
    have hall : ∀ u ∈ ens zs, u.isDeed = false → ∃ z ∈ zs'.filter (fun z => !z.2.isDeed), z.2 = u := fun u hu hd => by
      obtain ⟨z, hz, rfl⟩ := List.mem_map.mp ((ens_perm pm u).mpr hu)
      exact ⟨z, List.mem_filter.mpr ⟨hz, by rw [hd]; rfl⟩, rfl⟩
    generalize (zs'.filter fun z => !z.2.isDeed) = as at ep hmem hlen hso hact hall
    refine ⟨p, rfl, ⟨_, SqL.of ep⟩, fun D nD => ?_⟩
    refine lc_list (K := K) (a := p) (xs := refs as) (fun i H' => H' D = some (.lst (refs ((as.take i).filter fun z => isOpen d kk z.2))) ∧ Same H1 H') ⟨upd_same, fun b o e => by rw [upd_ne (ne_of_none e nD)]; exact e⟩ (fun i H' _ h => SqL.of (h.2 _ _ ep)) ?_ ?_
    · rintro i x H' hx ⟨eD, sm⟩
      obtain ⟨z, hz, rfl⟩ := ref_at hx
      have hzm := List.mem_of_getElem? hz
      obtain ⟨xs, ex, _, g1, g2, _⟩ := ((hent z (hmem z hzm)).kp (Same.tup sm)).tup
      have et := take_more hz
      have out : ∀ hno : isOpen d kk z.2 = false, H' D = some (.lst (refs ((as.take (i + 1)).filter fun z => isOpen d kk z.2))) ∧ Same H1 H' := fun hno => by
        refine ⟨?_, sm⟩
        rw [eD, et, List.filter_append]
        simp [hno]
      refine ⟨rfl, _, rfl, z.1, xs, 2, _, rfl, rfl, SqT.of ex, g2, _, rfl, _, _, rfl, rfl, _, rfl, ?_⟩
      refine ite2 (fun c1 => ?_) (fun c1 => ?_)
      · have c1' : z.2.wri ≤ kk := of_decide_eq_true c1
        refine ⟨_, rfl, z.1, xs, 1, _, rfl, rfl, SqT.of ex, g1, _, rfl, _, _, rfl, rfl, _, rfl, ?_⟩
        refine ite2 (fun c2 => ?_) (fun c2 => ?_)
        · have c2' : z.2.day ≤ d := of_decide_eq_true c2
          have hyes : isOpen d kk z.2 = true := by
            unfold isOpen
            rw [decide_eq_true c1', decide_eq_true c2']
            rfl
          refine ⟨_, rfl, _, eD, small1000 ?_, ?_, fun b o e => ?_⟩
          · have h1 := List.length_filter_le (fun z : Addr × En => isOpen d kk z.2) (as.take i)
            rw [List.length_map]
            rw [List.length_take] at h1
            omega
          · rw [upd_same, et, List.filter_append]
            simp [hyes, refs]
          · rw [upd_ne (ne_of_none e nD)]
            exact sm _ _ e
        · refine out ?_
          have c2' : ¬ z.2.day ≤ d := fun z0 => c2 (decide_eq_true z0)
          unfold isOpen
          rw [decide_eq_false c2', Bool.false_and]
      · refine iteF (out ?_)
        have c1' : ¬ z.2.wri ≤ kk := fun z0 => c1 (decide_eq_true z0)
        unfold isOpen
        rw [decide_eq_false c1', Bool.and_false]
    · rintro H' ⟨eD, sm⟩
      have el : as.take (refs as).length = as := List.take_of_length_le (by rw [List.length_map]; exact Nat.le_refl _)
      rw [el] at eD
      have esub : ∀ z ∈ as.filter (fun z => isOpen d kk z.2), z ∈ as := fun z hz => (List.mem_filter.mp hz).1
      refine q D _ H' (eN.trans (.of sm)) (T1.ext sm) (Fresh.of eN nD) eD (fun z hz => (hent z (hmem z (esub z hz))).kp (Same.tup sm)) ⟨fun z hz => ⟨?_, hact z (esub z hz), (List.mem_filter.mp hz).2⟩, fun u hu hd ho => ?_, hso.filter _, ?_⟩
      · exact (ens_perm pm _).mp (List.mem_map.mpr ⟨z, hmem z (esub z hz), rfl⟩)
      · obtain ⟨z, hz, rfl⟩ := hall u hu hd
        exact ⟨z, List.mem_filter.mpr ⟨hz, ho⟩, rfl⟩
      · have h1 := List.length_filter_le (fun z : Addr × En => isOpen d kk z.2) as
        omega
/-! ### acts of a word upon a number -/
abbrev sActsOn : Stmt := topS 23
abbrev nActsOn : List Str := ["acts", "word", "number", "act"]
abbrev pActsOn : List Str := ["acts", "word", "number"]
theorem scActsOn : FnScope nActsOn pActsOn (defScope sActsOn) := ⟨rfl, rfl, rfl, by decide +kernel, rfl, by decide +kernel, by decide +kernel⟩
def spActsOn : Sp := fun vs H Q _ => ∃ (la : Addr) (x : Str) (m : Int) (ys : List (Addr × En)), vs = [.ref la, .str x, .int m] ∧ H la = some (.lst (refs ys)) ∧ (∀ z ∈ ys, EntAt H z.1 z.2 ∧ z.2.isDeed = false) ∧ ys.length ≤ 1000 ∧
  ∀ p H', Same H H' → H p = none → H' p = some (.lst (((ys.filter fun z => isOn x m z.2).map fun z => z.2.num).map V.int)) → Q (.ref p) H'
def t_on (K : PySem.W.Frag) : TT := tAnd (tTest (tOp rEq (tOp (rIxT K) (tVar 3) (tC (.int 4))) (tVar 1))) (tTest (tOp rEq (tOp (rIxT K) (tVar 3) (tC (.int 5))) (tVar 2)))
theorem ok_actsOn {f : Addr} {fd : FuncData} {k : Nat} (F : Fun K "acts_on" "acts_on" sActsOn f fd) (mW : MgInt mg "WORD" 4) (mO : MgInt mg "OF" 5) (mN : MgInt mg "NUMBER" 0) : FnOk P w K mg base CX0 (k + 1) f fd pActsOn spActsOn := by
  refine F.ok scActsOn (fun vs H Q E h => ?_) (fun cdv A outer s H vs Q E hr h => ?_)
  · obtain ⟨la, x, m, ys, rfl, _⟩ := h
    rfl
  · obtain ⟨la, x, m, ys, rfl, hl, hys, hlen, q⟩ := h
    refine ⟨_, pss_one (ps_ret (pe_lc (own := [("act", 3)]) (g := gName 3) (by rfl) scActsOn.nd (pi_list (pv 0)) (blkOk_by (own := [("act", 3)]) (N := nActsOn) (sc := defScope sActsOn) (by decide +kernel)) (fun _ _ _ _ _ => pg_name (i := 3) scActsOn.nd rfl (Or.inl rfl))
      (fun _ _ _ _ _ => show PTs _ _ (t_on K) from pts_one (PW.pt (pw_and (pt_cmpR op_eq (pe_ix ix_tup (pv 3) (pe_num (by rfl) mW) (fun _ _ => rfl)) (pv 1) (nomark _)) (pw_and1 (pt_cmpR op_eq (pe_ix ix_tup (pv 3) (pe_num (by rfl) mO) (fun _ _ => rfl)) (pv 2) (nomark _))))))
      (fun _ _ _ _ _ => show PE _ _ (tOp (rIxT K) (tVar 3) (tC (.int 0))) from pe_ix ix_tup (pv 3) (pe_num (by rfl) mN) (fun _ _ => rfl)))), ?_⟩
    refine ⟨_, rfl, la, rfl, ⟨_, SqL.of hl⟩, fun D nD => ?_⟩
    refine lc_list (K := K) (a := la) (xs := refs ys) (fun i H' => H' D = some (.lst ((((ys.take i).filter fun z => isOn x m z.2).map fun z => z.2.num).map V.int)) ∧ Same H H') ⟨upd_same, fun b o e => by rw [upd_ne (ne_of_none e nD)]; exact e⟩ (fun i H' _ h => SqL.of (h.2 _ _ hl)) ?_ ?_
    · rintro i y H' hx ⟨eD, sm⟩
      obtain ⟨z, hz, rfl⟩ := ref_at hx
      have hzm := List.mem_of_getElem? hz
      have hi : i < ys.length := (List.getElem?_eq_some_iff.mp hz).1
      have hEz := (hys z hzm).1.kp (Same.tup sm)
      obtain ⟨xs, ex, g0, _, _, _, g4⟩ := hEz.tup
      obtain ⟨xs5, ex5, g5⟩ := hEz.five (hys z hzm).2
      have et := take_more hz
      have out : ∀ hno : isOn x m z.2 = false, H' D = some (.lst ((((ys.take (i + 1)).filter fun z => isOn x m z.2).map fun z => z.2.num).map V.int)) ∧ Same H H' := fun hno => by
        refine ⟨?_, sm⟩
        rw [eD, et, List.filter_append]
        simp [hno]
      refine ⟨rfl, _, rfl, z.1, xs, 4, _, rfl, rfl, SqT.of ex, g4, _, rfl, rfl, _, rfl, ?_⟩
      refine ite2 (fun c1 => ?_) (fun c1 => ?_)
      · have c1' : z.2.word = x := by
          have := of_decide_eq_true c1
          injection this
        refine ⟨_, rfl, z.1, xs5, 5, _, rfl, rfl, SqT.of ex5, g5, _, rfl, rfl, _, rfl, ?_⟩
        refine ite2 (fun c2 => ?_) (fun c2 => ?_)
        · have c2' : z.2.of = m := by
            have := of_decide_eq_true c2
            injection this
          have hyes : isOn x m z.2 = true := by
            unfold isOn
            rw [decide_eq_true c1', decide_eq_true c2']
            rfl
          refine ⟨_, rfl, z.1, xs, 0, _, rfl, rfl, SqT.of ex, g0, _, eD, small1000 ?_, ?_, fun b o e => ?_⟩
          · have h1 := List.length_filter_le (fun z : Addr × En => isOn x m z.2) (ys.take i)
            rw [List.length_map, List.length_map]
            rw [List.length_take] at h1
            omega
          · rw [upd_same, et, List.filter_append]
            simp [hyes]
          · rw [upd_ne (ne_of_none e nD)]
            exact sm _ _ e
        · refine out ?_
          have c2' : ¬ z.2.of = m := fun z0 => c2 (decide_eq_true (by rw [z0]))
          unfold isOn
          rw [decide_eq_false c2', Bool.and_false]
      · refine iteF (out ?_)
        have c1' : ¬ z.2.word = x := fun z0 => c1 (decide_eq_true (by rw [z0]))
        unfold isOn
        rw [decide_eq_false c1', Bool.false_and]
    · rintro H' ⟨eD, sm⟩
      have el : ys.take (refs ys).length = ys := List.take_of_length_le (by rw [List.length_map]; exact Nat.le_refl _)
      rw [el] at eD
      exact q D H' sm nD eD
/-! ### those in force -/
abbrev sForced : Stmt := topS 24
abbrev nForced : List Str := ["acts", "forced", "act"]
theorem scForced : FnScope nForced ["acts"] (defScope sForced) := ⟨rfl, rfl, rfl, by decide +kernel, rfl, by decide +kernel, by decide +kernel⟩
def spForced : Sp := fun vs H Q _ => ∃ (la : Addr) (n : Nat) (es : List En) (d k : Int) (ys : List (Addr × En)), vs = [.ref la] ∧ H la = some (.lst (refs ys)) ∧ (∀ z ∈ ys, EntAt H z.1 z.2) ∧ BkOk n es ∧ OpenActs n es d k ys ∧
  ∀ p H', Same H H' → H p = none → H' p = some (.lst (refs (ys.reverse.filter fun z => frc es d k z.2))) → Q (.ref p) H'
theorem ok_forced {f : Addr} {fd : FuncData} {k : Nat} (F : Fun K "acts_in_force" "acts_in_force" sForced f fd) (DO : Df K mg "acts_on" sActsOn pActsOn fOn dOn) (mW : MgInt mg "WORD" 4) (mO : MgInt mg "OF" 5) (mN : MgInt mg "NUMBER" 0) : FnOk P w K mg base CX0 (k + 2) f fd ["acts"] spForced := by
  have GO : FnOk P w K mg base CX0 (k + 1) fOn dOn pActsOn spActsOn := ok_actsOn DO.F mW mO mN
  refine F.ok scForced (fun vs H Q E h => ?_) (fun cdv A outer s H vs Q E hr h => ?_)
  · obtain ⟨la, n, es, d, k, ys, rfl, _⟩ := h
    rfl
  · obtain ⟨la, n, es, d, kk, ys, rfl, hl, hys, hB, hO, q⟩ := h
    refine ⟨_, pss_cons (ps_set (i := 1) scForced.nd rfl (.inl rfl) (pe_lst pa_nil))
      (pss_cons (ps_for PassesOwn.never rfl (pi_list (pe_revL (pv 0))) (pg_name (i := 2) scForced.nd rfl (.inl rfl))
        (pss_one (ps_if (pt_not (pt_truth (pe_call GO hr (by rfl) DO.g DO.F.kp DO.b .nil pass0 (pa_cons (pv 1) (pa_cons pe_str (pa_cons (pe_ix ix_tup (pv 2) (pe_num (by rfl) mN) (fun _ _ => rfl)) pa_nil)))) (by intro _; rfl)))
          (pss_one (ps_expr (pe_bm PySem.F.plainAttrs_list PySem.F.slot_list_append PySem.F.type_list_append mt_append (pv 1) (pa_cons (pv 2) pa_nil)))) pss_nil)))
      (pss_one (ps_ret (pv 1)))), ?_⟩
    refine ⟨Nat.zero_le _, fun fo nfo => ?_⟩
    have s1 : Same H (upd H fo (.lst [])) := fun b o e => by rw [upd_ne (ne_of_none e nfo)]; exact e
    have e1 : (upd H fo (.lst [])) fo = some (.lst []) := upd_same
    generalize (upd H fo (.lst [])) = H1 at s1 e1
    refine ⟨_, rfl, la, _, rfl, SqL.of (s1 _ _ hl), fun rv nrv => ?_⟩
    have s2 : Same H1 (upd H1 rv (.lst (refs ys).reverse)) := fun b o e => by rw [upd_ne (ne_of_none e nrv)]; exact e
    have erv : (upd H1 rv (.lst (refs ys).reverse)) rv = some (.lst (refs ys.reverse)) := by rw [upd_same, ← List.map_reverse]
    have e2 := s2 _ _ e1
    have nfr : fo ≠ rv := ne_of_none e1 nrv
    generalize (upd H1 rv (.lst (refs ys).reverse)) = H2 at s2 erv e2
    have s12 := s1.trans s2
    refine ⟨rv, rfl, ⟨_, SqL.of erv⟩, ?_⟩
    refine for_list (K := K) (a := rv) (xs := refs ys.reverse) (fun i σ H' => ∃ y2, σ = [some (.ref la), some (.ref fo), y2] ∧ Same H H' ∧ H' rv = some (.lst (refs ys.reverse)) ∧ H' fo = some (.lst (refs ((ys.reverse.take i).filter fun z => frc es d kk z.2)))) ⟨none, rfl, s12, erv, e2⟩ (fun i σ H' _ h => ?_) ?_ ?_
    · obtain ⟨_, _, _, e, _⟩ := h
      exact SqL.of e
    · rintro i x σ H' hx ⟨y2, rfl, sm, ev, ef⟩
      obtain ⟨z, hz, rfl⟩ := ref_at hx
      have hzr := List.mem_of_getElem? hz
      have hzm : z ∈ ys := List.mem_reverse.mp hzr
      have hi : i < ys.reverse.length := (List.getElem?_eq_some_iff.mp hz).1
      have hlr : ys.reverse.length = ys.length := List.length_reverse
      have hyl := hO.len
      obtain ⟨xs, ex, g0, _⟩ := ((hys z hzm).kp (Same.tup sm)).tup
      obtain ⟨m1, m2, m3⟩ := hO.mem z hzm
      have et := take_more hz
      have hsub : ∀ u ∈ (ys.reverse.take i).filter (fun z => frc es d kk z.2), u ∈ ys ∧ frc es d kk u.2 = true := fun u hu =>
        ⟨List.mem_reverse.mp (List.mem_of_mem_take (List.mem_filter.mp hu).1), (List.mem_filter.mp hu).2⟩
      have hfl : ((ys.reverse.take i).filter (fun z => frc es d kk z.2)).length ≤ 16 := by
        have h1 := List.length_filter_le (fun z : Addr × En => frc es d kk z.2) (ys.reverse.take i)
        rw [List.length_take] at h1
        omega
      refine ⟨_, rfl, _, rfl, z.1, xs, 0, _, rfl, rfl, SqT.of ex, g0, fo, "undone", z.2.num, _, rfl, ef, fun u hu => ⟨(hys u (hsub u hu).1).kp (Same.tup sm), (hO.mem u (hsub u hu).1).2.1⟩, by omega, fun p H3 s3 np ep => ⟨_, .inl ⟨_, SqL.of ep, rfl⟩, ?_⟩⟩
      -- none of the forced undoes it: just where it is in force
      have key : (((((ys.reverse.take i).filter fun z => frc es d kk z.2).filter fun u => isOn "undone" z.2.num u.2).map fun z => z.2.num).map V.int).isEmpty = frc es d kk z.2 := by
        rw [frc_eq hB d kk m1, m3, Bool.true_and, Bool.eq_iff_iff, List.all_eq_true]
        constructor
        · intro h u hu
          cases ho : isOn "undone" z.2.num u with
          | false => rfl
          | true =>
            cases hf : frc es d kk u with
            | false => rfl
            | true =>
              exfalso
              obtain ⟨h1, h2, h3⟩ := isOn_act (hB.ok u hu) (by decide) ho
              have lt := ((hB.ok u hu).of_lt h1).1
              obtain ⟨v, hv, rfl⟩ := hO.all u hu h1 (frc_open hB hu hf)
              -- it stands ahead in the turned list
              have hpre : v ∈ ys.reverse.take i := by
                have hv' : v ∈ ys.reverse := List.mem_reverse.mpr hv
                obtain ⟨j, hj, ej⟩ := List.mem_iff_getElem.mp hv'
                have hup : ys.reverse.Pairwise (fun a b => b.2.num < a.2.num) := List.pairwise_reverse.mpr hO.up
                have hji : j < i := by
                  rcases Nat.lt_trichotomy j i with q1 | q1 | q1
                  · exact q1
                  · subst q1
                    rw [List.getElem?_eq_getElem hj, ej] at hz
                    injection hz with hz
                    rw [hz] at lt h3
                    omega
                  · have := List.pairwise_iff_getElem.mp hup i j hi hj q1
                    have ei : ys.reverse[i] = z := by
                      rw [List.getElem?_eq_getElem hi] at hz
                      exact Option.some.inj hz
                    rw [ei, ej] at this
                    omega
                exact List.mem_take_iff_getElem.mpr ⟨j, by omega, ej⟩
              have hmem : v.2.num ∈ (((ys.reverse.take i).filter fun z => frc es d kk z.2).filter fun u => isOn "undone" z.2.num u.2).map fun z => z.2.num :=
                List.mem_map.mpr ⟨v, List.mem_filter.mpr ⟨List.mem_filter.mpr ⟨hpre, hf⟩, ho⟩, rfl⟩
              rw [List.isEmpty_iff] at h
              have h' := List.map_eq_nil_iff.mp h
              rw [h'] at hmem
              cases hmem
        · intro h
          rw [List.isEmpty_iff, List.map_eq_nil_iff, List.map_eq_nil_iff, List.filter_eq_nil_iff]
          intro u hu ho
          obtain ⟨hu1, hu2⟩ := hsub u hu
          have := h u.2 (hO.mem u hu1).1
          rw [ho, hu2] at this
          cases this
      rw [key]
      have ef3 := s3 _ _ ef
      cases hf : frc es d kk z.2 with
      | true =>
        refine iteT ?_
        refine ⟨_, rfl, .inl ⟨rfl, _, SqL.of ef3⟩, _, rfl, fo, _, _, rfl, rfl, ef3, small1000 (by rw [List.length_map]; omega), ?_⟩
        refine ⟨_, rfl, fun b o e => ?_, ?_, ?_⟩
        · rw [upd_ne (ne_of_none e nfo)]
          exact s3 _ _ (sm _ _ e)
        · rw [upd_ne nfr.symm]
          exact s3 _ _ ev
        · rw [upd_same, et, List.filter_append]
          simp [hf, refs]
      | false =>
        refine iteF ?_
        refine ⟨_, rfl, sm.trans s3, s3 _ _ ev, ?_⟩
        rw [ef3, et, List.filter_append]
        simp [hf]
    · rintro σ H' ⟨y2, rfl, sm, ev, ef⟩
      have el : ys.reverse.take (refs ys.reverse).length = ys.reverse := List.take_of_length_le (by rw [List.length_map]; exact Nat.le_refl _)
      rw [el] at ef
      exact ⟨_, rfl, q fo H' sm nfo ef⟩
end
end Deed

namespace Deed
open PySem PySem.Spec PyProof.Rows L2 LamX
/-! ### what a deed is: the mathematics -/
def En.rests (e : En) : List Int := match e.kd with
  | .deed _ _ rs _ => rs
  | .act _ _ => []
/-- some act of the word upon the number is in force -/
def anyF (es : List En) (d k : Int) (x : Str) (m : Int) : Bool := es.any fun u => isOn x m u && frc es d k u
def carries (x : Str) : Bool := decide (x ∈ ([("stands" : Str), "paid"] : List Str))
/-- by what its rests are -/
def wordBy (es : List En) (d k : Int) (e : En) (lost : Bool) : Str :=
  if k < e.wri then "unknown" else if d < e.day then "ahead" else if anyF es d k "void" e.num = true then "void" else if lost = true then "fallen" else if anyF es d k "paid" e.num = true then "paid" else "stands"
def isD (m : Int) (e : En) : Bool := e.isDeed && decide (e.num = m)
def stF (es : List En) (d k : Int) : Nat → En → Str
  | 0, _ => "unknown"
  | f + 1, e => wordBy es d k e (e.rests.any fun r => es.any fun u => isD r u && !carries (stF es d k f u))
def st (es : List En) (d k : Int) (e : En) : Str := stF es d k (e.num.toNat + 1) e
theorem EnOk.rest {n : Nat} {ds as : List Int} {e : En} (h : EnOk n ds as e) : ∀ r ∈ e.rests, r ∈ ds ∧ r < e.num := by
  intro r hr
  unfold En.rests at hr
  cases hk : e.kd with
  | deed g t rs ws =>
    rw [hk] at hr
    have h4 := h.2.2.2
    rw [hk] at h4
    exact h4.2.2.2.2.2.1 r hr
  | act x o =>
    rw [hk] at hr
    cases hr
theorem any_congr {α : Type} {l : List α} {p q : α → Bool} (h : ∀ x ∈ l, p x = q x) : l.any p = l.any q := by
  induction l with
  | nil => rfl
  | cons a r ih =>
    rw [List.any_cons, List.any_cons, h a List.mem_cons_self, ih fun x hx => h x (List.mem_cons_of_mem _ hx)]
theorem stF_one {n : Nat} {es : List En} (hB : BkOk n es) (d k : Int) : ∀ (f g : Nat) (e : En), e ∈ es → e.num.toNat + 1 ≤ f → e.num.toNat + 1 ≤ g → stF es d k f e = stF es d k g e := by
  intro f
  induction f with
  | zero =>
    intro g e he hf _
    omega
  | succ f ih =>
    intro g e he hf hg
    cases g with
    | zero => omega
    | succ g =>
      show wordBy es d k e _ = wordBy es d k e _
      congr 1
      refine any_congr fun r hr => any_congr fun u hu => ?_
      cases hd : isD r u with
      | false => rfl
      | true =>
        unfold isD at hd
        rw [Bool.and_eq_true] at hd
        have hn := of_decide_eq_true hd.2
        have lt := ((hB.ok e he).rest r hr).2
        have r1 := hB.rng e he
        have r2 := hB.rng u hu
        rw [ih g u hu (by omega) (by omega)]
theorem st_eq {n : Nat} {es : List En} (hB : BkOk n es) (d k : Int) {e : En} (he : e ∈ es) : st es d k e = wordBy es d k e (e.rests.any fun r => es.any fun u => isD r u && !carries (st es d k u)) := by
  show wordBy es d k e _ = wordBy es d k e _
  congr 1
  refine any_congr fun r hr => any_congr fun u hu => ?_
  cases hd : isD r u with
  | false => rfl
  | true =>
    unfold isD at hd
    rw [Bool.and_eq_true] at hd
    have hn := of_decide_eq_true hd.2
    have lt := ((hB.ok e he).rest r hr).2
    have r1 := hB.rng e he
    have r2 := hB.rng u hu
    rw [stF_one hB d k e.num.toNat (u.num.toNat + 1) u hu (by omega) (by omega)]
    rfl
/-- a rest is lost just where that very deed carries nothing -/
theorem lost_one {n : Nat} {es : List En} (hB : BkOk n es) (d k : Int) {r : Int} {u : En} (hu : u ∈ es) (hd : u.isDeed = true) (hn : u.num = r) : (es.any fun u => isD r u && !carries (st es d k u)) = !carries (st es d k u) := by
  rw [Bool.eq_iff_iff, List.any_eq_true]
  constructor
  · rintro ⟨u', hu', h⟩
    rw [Bool.and_eq_true] at h
    unfold isD at h
    rw [Bool.and_eq_true] at h
    have := num_inj hB hu' hu ((of_decide_eq_true h.1.2).trans hn.symm)
    rw [← this]
    exact h.2
  · intro h
    refine ⟨u, hu, ?_⟩
    unfold isD
    rw [hd, decide_eq_true hn, h]
    rfl
theorem dn_at {es : List En} {r : Int} (h : r ∈ dn es) : ∃ u ∈ es, u.isDeed = true ∧ u.num = r := mem_dn.mp h
/-- the words of deeds, as a dict's pairs -/
abbrev wds (es : List En) (d k : Int) (ys : List (Addr × En)) : List (Key × V) := ys.map fun z => (Sum.inl z.2.num, V.str (st es d k z.2))
theorem valV_map {α : Type} {f : α → Int} {g : α → V} {l : List α} (nd : (l.map f).Nodup) {z : α} (hz : z ∈ l) : valV (l.map fun z => ((Sum.inl (f z) : Key), g z)) (.inl (f z)) = some (g z) := by
  induction l with
  | nil => cases hz
  | cons y r ih =>
    have h2 := List.nodup_cons.mp (show (f y :: r.map f).Nodup from nd)
    show Option.map (·.2) (List.find? (fun kv => decide (kv.1 = (Sum.inl (f z) : Key))) ((Sum.inl (f y), g y) :: r.map fun z => ((Sum.inl (f z) : Key), g z))) = _
    rw [List.find?_cons]
    rcases List.mem_cons.mp hz with rfl | hz
    · simp
    · have hne : ¬ (Sum.inl (f y) : Key) = Sum.inl (f z) := fun q => by
        injection q with q
        exact h2.1 (List.mem_map.mpr ⟨z, hz, q.symm⟩)
      rw [decide_eq_false hne]
      exact ih h2.2 hz
theorem EntAt.seven {H : Hp} {a : Addr} {e : En} (h : EntAt H a e) (hd : e.isDeed = true) : ∃ xs r, H a = some (.tup xs) ∧ atI xs 7 = some (.ref r) ∧ H r = some (.tup (e.rests.map V.int)) := by
  unfold EntAt at h
  unfold En.isDeed at hd
  unfold En.rests
  cases hk : e.kd with
  | deed g t rs ws =>
    rw [hk] at h
    obtain ⟨r, w, h1, h2, _⟩ := h
    exact ⟨_, r, h1, atI_nat (j := 7) rfl, h2⟩
  | act x o =>
    rw [hk] at hd
    cases hd
end Deed

namespace Deed
open PySem PySem.Spec PyProof.Rows L2 LamX
/-- the acts in force, in whatever order -/
structure ForcedAt (es : List En) (d k : Int) (fs : List (Addr × En)) : Prop where
  mem : ∀ z ∈ fs, z.2 ∈ es ∧ z.2.isDeed = false ∧ frc es d k z.2 = true
  all : ∀ u ∈ es, u.isDeed = false → frc es d k u = true → ∃ z ∈ fs, z.2 = u
  len : fs.length ≤ 16
theorem ForcedAt.any {n : Nat} {es : List En} {d k : Int} {fs : List (Addr × En)} (h : ForcedAt es d k fs) (hB : BkOk n es) (x : Str) (hx : x ≠ "deed") (m : Int) : (!((((fs.filter fun z => isOn x m z.2).map fun z => z.2.num).map V.int).isEmpty)) = anyF es d k x m := by
  unfold anyF
  rw [Bool.eq_iff_iff, List.any_eq_true]
  constructor
  · intro hh
    have hne : ¬ (((fs.filter fun z => isOn x m z.2).map fun z => z.2.num).map V.int) = [] := fun z => by
      rw [z] at hh
      cases hh
    have hne2 : fs.filter (fun z => isOn x m z.2) ≠ [] := fun z => hne (by rw [z]; rfl)
    obtain ⟨z, hz⟩ := List.exists_mem_of_ne_nil _ hne2
    obtain ⟨h1, h2⟩ := List.mem_filter.mp hz
    exact ⟨z.2, (h.mem z h1).1, by rw [h2, (h.mem z h1).2.2]; rfl⟩
  · rintro ⟨u, hu, hh⟩
    rw [Bool.and_eq_true] at hh
    obtain ⟨hd, _, _⟩ := isOn_act (hB.ok u hu) hx hh.1
    obtain ⟨z, hz, rfl⟩ := h.all u hu hd hh.2
    have hm : z ∈ fs.filter fun z => isOn x m z.2 := List.mem_filter.mpr ⟨hz, hh.1⟩
    cases hl : fs.filter (fun z => isOn x m z.2) with
    | nil => rw [hl] at hm; cases hm
    | cons a r => rfl
section
variable {P : Program} {w : World} {K : PySem.W.Frag} {mg : Str → Option Value} {base : Heap} {T : List (Addr × Str)} {fOn : Addr} {dOn : FuncData}
/-- the words that carry, of the module's top -/
def CarryAt (K : PySem.W.Frag) (mg : Str → Option Value) : Prop := ∃ a : Addr, mg "CARRYING" = some (.ref a) ∧ ∀ H : Hp, SqT K H a [.str "stands", .str "paid"]
abbrev sWordOf : Stmt := topS 25
abbrev nWordOf : List Str := ["deed", "forced", "words", "d", "k", "rest"]
abbrev pWordOf : List Str := ["deed", "forced", "words", "d", "k"]
theorem scWordOf : FnScope nWordOf pWordOf (defScope sWordOf) := ⟨rfl, rfl, rfl, by decide +kernel, rfl, by decide +kernel, by decide +kernel⟩
def spWordOf : Sp := fun vs H Q _ => ∃ (a fo wd : Addr) (e : En) (n : Nat) (es : List En) (d k : Int) (fs : List (Addr × En)) (kvs : List (Key × V)), vs = [.ref a, .ref fo, .ref wd, .int d, .int k] ∧ EntAt H a e ∧ e ∈ es ∧ e.isDeed = true ∧ BkOk n es ∧ H fo = some (.lst (refs fs)) ∧ (∀ z ∈ fs, EntAt H z.1 z.2) ∧ ForcedAt es d k fs ∧
  H wd = some (.dK kvs) ∧ (∀ r ∈ e.rests, ∃ u ∈ es, u.isDeed = true ∧ u.num = r ∧ valV kvs (.inl r) = some (.str (st es d k u))) ∧ ∀ H', Same H H' → Q (.str (st es d k e)) H'
theorem ok_wordOf {f : Addr} {fd : FuncData} {k : Nat} (F : Fun K "word_of_deed" "word_of_deed" sWordOf f fd) (DO : Df K mg "acts_on" sActsOn pActsOn fOn dOn) (mW : MgInt mg "WORD" 4) (mO : MgInt mg "OF" 5) (mN : MgInt mg "NUMBER" 0) (mWr : MgInt mg "WRITTEN" 2) (mD : MgInt mg "DAY" 1) (mR : MgInt mg "RESTS" 7) (mA : mg "any" = none) (mC : CarryAt K mg) : FnOk P w K mg base CX0 (k + 2) f fd pWordOf spWordOf := by
  have GO : FnOk P w K mg base CX0 (k + 1) fOn dOn pActsOn spActsOn := ok_actsOn DO.F mW mO mN
  obtain ⟨aC, gC, sC⟩ := mC
  refine F.ok scWordOf (fun vs H Q E h => ?_) (fun cdv A outer s H vs Q E hr h => ?_)
  · obtain ⟨a, fo, wd, e, n, es, d, k, fs, kvs, rfl, _⟩ := h
    rfl
  · obtain ⟨a, fo, wd, e, n, es, d, kk, fs, kvs, rfl, hE, he, hd, hB, hfo, hfs, hF, hwd, hrs, q⟩ := h
    have hu := hu_of hr
    refine ⟨_, pss_cons (ps_if (pt_cmpR op_gt (pe_ix ix_tup (pv 0) (pe_num (by rfl) mWr) (fun _ _ => rfl)) (pv 4) (nomark _)) (pss_one (ps_ret pe_str)) pss_nil)
      (pss_cons (ps_if (pt_cmpR op_gt (pe_ix ix_tup (pv 0) (pe_num (by rfl) mD) (fun _ _ => rfl)) (pv 3) (nomark _)) (pss_one (ps_ret pe_str)) pss_nil)
      (pss_cons (ps_if (pt_truth (pe_call GO hr (by rfl) DO.g DO.F.kp DO.b .nil pass0 (pa_cons (pv 1) (pa_cons pe_str (pa_cons (pe_ix ix_tup (pv 0) (pe_num (by rfl) mN) (fun _ _ => rfl)) pa_nil)))) (by intro _; rfl)) (pss_one (ps_ret pe_str)) pss_nil)
      (pss_cons (ps_if (pt_val (pe_callB (cr_any rfl) (by rfl) mA (by decide +kernel) (pa_cons (pe_lc (own := [("rest", 5)]) (g := gName 5) (by rfl) scWordOf.nd (pi_tup (pe_ix ix_tup (pv 0) (pe_num (by rfl) mR) (fun _ _ => rfl))) (blkOk_by (own := [("rest", 5)]) (N := nWordOf) (sc := defScope sWordOf) (by decide +kernel)) (fun _ _ _ _ _ => pg_name (i := 5) scWordOf.nd rfl (Or.inl rfl)) (fun _ _ _ _ _ => pts_nil)
          (fun _ _ _ _ _ => show PE _ _ (tOp (rIn K true) (tDGet (tVar 2) (tVar 5)) (tC (.ref aC))) from pe_cmpR op_notIn_seq (pe_dget hu (pv 2) (pv 5) (fun _ _ => rfl)) (pe_glob (by rfl) gC rfl) (by rfl))) pa_nil))) (pss_one (ps_ret pe_str)) pss_nil)
      (pss_cons (ps_if (pt_truth (pe_call GO hr (by rfl) DO.g DO.F.kp DO.b .nil pass0 (pa_cons (pv 1) (pa_cons pe_str (pa_cons (pe_ix ix_tup (pv 0) (pe_num (by rfl) mN) (fun _ _ => rfl)) pa_nil)))) (by intro _; rfl)) (pss_one (ps_ret pe_str)) pss_nil)
      (pss_one (ps_ret pe_str)))))), ?_⟩
    have sq := st_eq hB d kk he
    unfold wordBy at sq
    obtain ⟨xs, ex, g0, g1, g2, _⟩ := hE.tup
    have hlen := hF.len
    refine ⟨_, rfl, a, xs, 2, _, rfl, rfl, SqT.of ex, g2, _, rfl, _, _, rfl, rfl, _, rfl, ?_⟩
    refine ite2 (fun c => ?_) (fun c => ?_)
    · have c' : kk < e.wri := of_decide_eq_true c
      rw [if_pos c'] at sq
      rw [sq] at q
      exact q H (Same.refl H)
    have c' : ¬ kk < e.wri := fun z => c (decide_eq_true z)
    rw [if_neg c'] at sq
    refine ⟨_, rfl, a, xs, 1, _, rfl, rfl, SqT.of ex, g1, _, rfl, _, _, rfl, rfl, _, rfl, ?_⟩
    refine ite2 (fun c2 => ?_) (fun c2 => ?_)
    · have c2' : d < e.day := of_decide_eq_true c2
      rw [if_pos c2'] at sq
      rw [sq] at q
      exact q H (Same.refl H)
    have c2' : ¬ d < e.day := fun z => c2 (decide_eq_true z)
    rw [if_neg c2'] at sq
    refine ⟨_, rfl, _, rfl, a, xs, 0, _, rfl, rfl, SqT.of ex, g0, fo, "void", e.num, fs, rfl, hfo, fun z hz => ⟨hfs z hz, (hF.mem z hz).2.1⟩, by omega, fun p1 H1 s1 np1 ep1 => ⟨_, .inl ⟨_, SqL.of ep1, rfl⟩, ?_⟩⟩
    rw [hF.any hB "void" (by decide) e.num]
    refine ite2 (fun c3 => ?_) (fun c3 => ?_)
    · rw [if_pos c3] at sq
      rw [sq] at q
      exact q H1 s1
    rw [if_neg c3] at sq
    -- the rests
    obtain ⟨xs7, r, ex7, g7, er⟩ := (hE.kp (Same.tup s1)).seven hd
    refine ⟨_, rfl, a, xs7, 7, _, rfl, rfl, SqT.of ex7, g7, r, rfl, ⟨_, SqT.of er⟩, fun D nD => ?_⟩
    refine lc_tup (K := K) (a := r) (xs := e.rests.map V.int) (fun i H' => H' D = some (.lst (((e.rests.take i).map fun r => es.any fun u => isD r u && !carries (st es d kk u)).map V.bl)) ∧ Same H1 H') ⟨upd_same, fun b o e => by rw [upd_ne (ne_of_none e nD)]; exact e⟩ (fun i H' _ h => SqT.of (h.2 _ _ er)) ?_ ?_
    · rintro i x H' hx ⟨eD, sm⟩
      rw [List.getElem?_map] at hx
      cases hn : e.rests[i]? with
      | none => rw [hn] at hx; cases hx
      | some m =>
        rw [hn] at hx
        injection hx with hx
        subst hx
        obtain ⟨u, hu1, hu2, hu3, hu4⟩ := hrs m (List.mem_of_getElem? hn)
        have hi : i < e.rests.length := (List.getElem?_eq_some_iff.mp hn).1
        have hrl : e.rests.length ≤ 2 := by
          have h4 := (hB.ok e he).2.2.2
          unfold En.rests
          cases hk : e.kd with
          | deed g t rs ws =>
            rw [hk] at h4
            exact h4.2.2.2.1
          | act x o => exact Nat.zero_le _
        refine ⟨rfl, ?_⟩
        unfold tYes
        dsimp only
        rw [if_pos rfl]
        have dg : DGet H' wd (.int m) (some (.str (st es d kk u))) := by
          have h1 := DGet.k (k := Sum.inl m) (sm _ _ (s1 _ _ hwd))
          rw [hu4] at h1
          exact h1
        refine ⟨_, rfl, _, rfl, wd, _, rfl, dg, aC, _, rfl, .inr (sC H'), rfl, rfl, _, eD, small1000 (by rw [List.length_map, List.length_map, List.length_take]; omega), ?_, fun b o e => ?_⟩
        · rw [upd_same, take_more hn, List.map_append, List.map_append]
          have e1 : inV (.str (st es d kk u)) [.str "stands", .str "paid"] = carries (st es d kk u) := mem_inS (ws := ["stands", "paid"])
          have e2 := lost_one hB d kk hu1 hu2 hu3
          simp [e1, e2]
        · rw [upd_ne (ne_of_none e nD)]
          exact sm _ _ e
    rintro H2 ⟨eD, sm⟩
    have el : e.rests.take (e.rests.map V.int).length = e.rests := List.take_of_length_le (by rw [List.length_map]; exact Nat.le_refl _)
    rw [el] at eD
    have s2 := s1.trans sm
    refine ⟨D, _, rfl, SqL.of eD, _, rfl, ?_⟩
    have ea : ((e.rests.map fun r => es.any fun u => isD r u && !carries (st es d kk u)).any id) = e.rests.any fun r => es.any fun u => isD r u && !carries (st es d kk u) := by
      rw [List.any_map]
      rfl
    rw [ea]
    refine ite2 (fun c4 => ?_) (fun c4 => ?_)
    · rw [if_pos c4] at sq
      rw [sq] at q
      exact q H2 s2
    rw [if_neg c4] at sq
    obtain ⟨xs2, ex2, h0, _⟩ := (hE.kp (Same.tup s2)).tup
    refine ⟨_, rfl, _, rfl, a, xs2, 0, _, rfl, rfl, SqT.of ex2, h0, fo, "paid", e.num, fs, rfl, s2 _ _ hfo, fun z hz => ⟨(hfs z hz).kp (Same.tup s2), (hF.mem z hz).2.1⟩, by omega, fun p3 H3 s3 np3 ep3 => ⟨_, .inl ⟨_, SqL.of ep3, rfl⟩, ?_⟩⟩
    rw [hF.any hB "paid" (by decide) e.num]
    refine ite2 (fun c5 => ?_) (fun c5 => ?_)
    · rw [if_pos c5] at sq
      rw [sq] at q
      exact q H3 (s2.trans s3)
    · rw [if_neg c5] at sq
      rw [sq] at q
      exact q H3 (s2.trans s3)
end
end Deed

namespace Deed
open PySem PySem.Spec PyProof.Rows L2 LamX
/-- the deeds of zs by their numbers -/
def DeedsUp (zs ys : List (Addr × En)) : Prop := ys.Pairwise (fun a b => a.2.num < b.2.num) ∧ (∀ x, x ∈ ens ys ↔ x ∈ ens zs ∧ x.isDeed = true) ∧ ys.length ≤ 16
theorem DeedsUp.nodup {zs ys : List (Addr × En)} (h : DeedsUp zs ys) : ((ens ys).map (·.num)).Nodup := by
  have h1 := h.1
  refine List.pairwise_map.mpr (List.pairwise_map.mpr (h1.imp fun hh => ?_))
  omega
theorem wds_one {zs ys ys' : List (Addr × En)} (h : DeedsUp zs ys) (h' : DeedsUp zs ys') : ens ys = ens ys' := by
  have key : ∀ (l m : List En), l.Pairwise (fun a b => a.num < b.num) → m.Pairwise (fun a b => a.num < b.num) → (∀ x, x ∈ l ↔ x ∈ m) → l = m := by
    intro l
    induction l with
    | nil =>
      intro m _ _ hh
      cases m with
      | nil => rfl
      | cons y r => exact absurd ((hh y).mpr List.mem_cons_self) (by simp)
    | cons x l ih =>
      intro m h1 h2 hh
      cases m with
      | nil => exact absurd ((hh x).mp List.mem_cons_self) (by simp)
      | cons y m =>
        have a1 := List.pairwise_cons.mp h1
        have a2 := List.pairwise_cons.mp h2
        have exy : x = y := by
          rcases List.mem_cons.mp ((hh x).mp List.mem_cons_self) with e | e
          · exact e
          · rcases List.mem_cons.mp ((hh y).mpr List.mem_cons_self) with e' | e'
            · exact e'.symm
            · have := a1.1 y e'
              have := a2.1 x e
              omega
        subst exy
        congr 1
        refine ih m a1.2 a2.2 fun z => ?_
        constructor
        · intro hz
          rcases List.mem_cons.mp ((hh z).mp (List.mem_cons_of_mem _ hz)) with e | e
          · have := a1.1 z hz
            rw [e] at this
            omega
          · exact e
        · intro hz
          rcases List.mem_cons.mp ((hh z).mpr (List.mem_cons_of_mem _ hz)) with e | e
          · have := a2.1 z hz
            rw [e] at this
            omega
          · exact e
  refine key _ _ (List.pairwise_map.mpr h.1) (List.pairwise_map.mpr h'.1) fun x => ?_
  rw [h.2.1 x, h'.2.1 x]
/-- the words of deeds, by entries alone -/
abbrev wdE (es : List En) (d k : Int) (ys : List En) : List (Key × V) := ys.map fun e => (Sum.inl e.num, V.str (st es d k e))
section
variable {P : Program} {w : World} {K : PySem.W.Frag} {mg : Str → Option Value} {base : Heap} {T : List (Addr × Str)} {fCD fOA fFo fDE fWo fCk fAl : Addr} {dCD dOA dFo dDE dWo dCk dAl : FuncData}
abbrev sAllSt : Stmt := topS 26
abbrev nAllSt : List Str := ["book", "d", "k", "forced", "words", "entry"]
abbrev pAllSt : List Str := ["book", "d", "k"]
theorem scAllSt : FnScope nAllSt pAllSt (defScope sAllSt) := ⟨rfl, rfl, rfl, by decide +kernel, rfl, by decide +kernel, by decide +kernel⟩
def spAllSt (T : List (Addr × Str)) : Sp := fun vs H Q _ => ∃ (b fk t : Addr) (n : Nat) (age : Int) (zs : List (Addr × En)) (d k : Int), vs = [.ref b, .int d, .int k] ∧ BookAt H b fk t n age zs ∧ Tabs T H ∧ (0 ≤ d ∧ d ≤ 9999) ∧ (0 ≤ k ∧ k ≤ 9999) ∧
  ∀ (p : Addr) (ys : List (Addr × En)) (H' : Hp), ExtN H H' → Tabs T H' → Fresh H p → H' p = some (.dK (wdE (ens zs) d k (ens ys))) → DeedsUp zs ys → Q (.ref p) H'
theorem ok_allSt {f : Addr} {fd : FuncData} {k : Nat} {dv : List V} (F : FunD K "all_standing" "all_standing" (defArgs sAllSt) (defBody sAllSt) (defScope sAllSt) dv [] f fd) (mN : MgInt mg "NUMBER" 0)
    (DCD : Df K mg "check_day" sCheckDay ["thing"] fCD dCD) (GCD : FnOk P w K mg base CX0 k fCD dCD ["thing"] spCkDay)
    (DOA : Df K mg "open_acts" sOpenA ["book", "d", "k"] fOA dOA) (GOA : FnOk P w K mg base CX0 k fOA dOA ["book", "d", "k"] (spOpenA T)) (DFo : Df K mg "acts_in_force" sForced ["acts"] fFo dFo) (GFo : FnOk P w K mg base CX0 k fFo dFo ["acts"] spForced)
    (DDE : Df K mg "deed_entries" sDeedE ["book"] fDE dDE) (GDE : FnOk P w K mg base CX0 k fDE dDE ["book"] (spPick (·.isDeed) T)) (DWo : Df K mg "word_of_deed" sWordOf pWordOf fWo dWo) (GWo : FnOk P w K mg base CX0 k fWo dWo pWordOf spWordOf) : FnOk P w K mg base CX0 (k + 1) f fd pAllSt (spAllSt T) := by
  refine F.ok scAllSt (fun vs H Q E h => ?_) (fun cdv A outer s H vs Q E hr h => ?_)
  · obtain ⟨b, fk, t, n, age, zs, d, k, rfl, _⟩ := h
    rfl
  · obtain ⟨b, fk, t, n, age, zs, d, kk, rfl, hB, hT, hd0, hk0, q⟩ := h
    have hu := hu_of hr
    refine ⟨_, PSs.nox (pss_cons (ps_expr (pe_call GCD hr (by rfl) DCD.g DCD.F.kp DCD.b .nil pass0 (pa_cons (pv 1) pa_nil)))
      (pss_cons (ps_expr (pe_call GCD hr (by rfl) DCD.g DCD.F.kp DCD.b .nil pass0 (pa_cons (pv 2) pa_nil)))
      (pss_cons (ps_set (i := 3) scAllSt.nd rfl (.inl rfl) (pe_call GFo hr (by rfl) DFo.g DFo.F.kp DFo.b .nil pass0 (pa_cons (pe_call GOA hr (by rfl) DOA.g DOA.F.kp DOA.b .nil pass0 (pa_cons (pv 0) (pa_cons (pv 1) (pa_cons (pv 2) pa_nil)))) pa_nil)))
      (pss_cons (ps_set (i := 4) scAllSt.nd rfl (.inl rfl) pe_dnewK)
      (pss_cons (ps_for PassesOwn.never rfl (pi_list (pe_call GDE hr (by rfl) DDE.g DDE.F.kp DDE.b .nil pass0 (pa_cons (pv 0) pa_nil))) (pg_name (i := 5) scAllSt.nd rfl (.inl rfl))
        (pss_one (ps_dput hu (pv 4) (pe_ix ix_tup (pv 5) (pe_num (by rfl) mN) (fun _ _ => rfl)) (pe_call GWo hr (by rfl) DWo.g DWo.F.kp DWo.b .nil pass0 (pa_cons (pv 5) (pa_cons (pv 3) (pa_cons (pv 4) (pa_cons (pv 1) (pa_cons (pv 2) pa_nil)))))) rfl)))
      (pss_one (ps_ret (pv 4)))))))), ?_⟩
    refine ⟨_, rfl, d, rfl, hd0.1, hd0.2, ?_⟩
    refine ⟨_, rfl, kk, rfl, hk0.1, hk0.2, ?_⟩
    refine ⟨_, rfl, _, rfl, _, rfl, b, fk, t, n, age, zs, d, kk, rfl, hB, hT, fun p ys H2 e2 T2 fr2 ep2 hy2 hO => ?_⟩
    refine ⟨p, n, ens zs, d, kk, ys, rfl, ep2, hy2, hB.ok, hO, fun r H3 s3 nr er => ?_⟩
    have hF : ForcedAt (ens zs) d kk (ys.reverse.filter fun z => frc (ens zs) d kk z.2) := by
      refine ⟨fun z hz => ?_, fun u hu hd ho => ?_, ?_⟩
      · have h1 := (List.mem_filter.mp hz)
        have h2 := hO.mem z (List.mem_reverse.mp h1.1)
        exact ⟨h2.1, h2.2.1, h1.2⟩
      · obtain ⟨z, hz, rfl⟩ := hO.all u hu hd (frc_open hB.ok hu ho)
        exact ⟨z, List.mem_filter.mpr ⟨List.mem_reverse.mpr hz, ho⟩, rfl⟩
      · have h1 := List.length_filter_le (fun z : Addr × En => frc (ens zs) d kk z.2) ys.reverse
        have h2 := hO.len
        rw [List.length_reverse] at h1
        omega
    have hfE : ∀ z ∈ ys.reverse.filter (fun z => frc (ens zs) d kk z.2), EntAt H3 z.1 z.2 := fun z hz => (hy2 z (List.mem_reverse.mp (List.mem_filter.mp hz).1)).kp (Same.tup s3)
    generalize (ys.reverse.filter fun z => frc (ens zs) d kk z.2) = fs at er hF hfE
    have e3 : ExtN H H3 := e2.trans (.of s3)
    have T3 : Tabs T H3 := T2.ext s3
    refine fun wd nwd => ?_
    have e4 : ExtN H3 (upd H3 wd (.dK [])) := ExtN.new nwd _
    have T4 : Tabs T (upd H3 wd (.dK [])) := Tabs.new T3 nwd _
    have ew : (upd H3 wd (.dK [])) wd = some (.dK []) := upd_same
    have frw : Fresh H wd := Fresh.of e3 nwd
    generalize (upd H3 wd (.dK [])) = H4 at e4 T4 ew
    have e04 := e3.trans e4
    have hB4 := hB.kp (ExtN.tup e04)
    have nl : ∀ xs : List V, ∀ ps, HO.lst xs ≠ .tbl ps := fun xs ps z => by cases z
    have nk : ∀ kv : List (Key × V), ∀ ps, HO.dK kv ≠ .tbl ps := fun xs ps z => by cases z
    refine ⟨_, rfl, b, fk, t, n, age, zs, rfl, hB4, T4, fun p5 zs' H5 e5 T5 fr5 ep5 pm so => ?_⟩
    have hsub : ∀ z ∈ zs'.filter (fun z => z.2.isDeed), z ∈ zs ∧ z.2.isDeed = true := fun z hz => ⟨pm.mem_iff.mp (List.mem_filter.mp hz).1, (List.mem_filter.mp hz).2⟩
    have hDU : DeedsUp zs (zs'.filter fun z => z.2.isDeed) := by
      refine ⟨so.filter _, fun x => ?_, ?_⟩
      · constructor
        · intro hx
          obtain ⟨z, hz, rfl⟩ := List.mem_map.mp hx
          exact ⟨List.mem_map.mpr ⟨z, (hsub z hz).1, rfl⟩, (hsub z hz).2⟩
        · rintro ⟨hx, hd⟩
          obtain ⟨z, hz, rfl⟩ := List.mem_map.mp hx
          exact List.mem_map.mpr ⟨z, List.mem_filter.mpr ⟨pm.mem_iff.mpr hz, hd⟩, rfl⟩
      · have h1 := List.length_filter_le (fun z : Addr × En => z.2.isDeed) zs'
        have h2 := pm.length_eq
        have h3 := hB.len
        omega
    generalize (zs'.filter fun z => z.2.isDeed) = ds at ep5 hsub hDU
    have nwp : wd ≠ p5 := fr5.ne ew (nk _)
    have nwr : wd ≠ r := fun z => by
      rw [z, er] at nwd
      cases nwd
    refine ⟨p5, rfl, ⟨_, SqL.of ep5⟩, ?_⟩
    refine for_list (K := K) (a := p5) (xs := refs ds) (fun i σ H' => ∃ y5, σ = [some (.ref b), some (.int d), some (.int kk), some (.ref r), some (.ref wd), y5] ∧ (∀ b o, b ≠ wd → H5 b = some o → H' b = some o) ∧ H' wd = some (.dK (wdE (ens zs) d kk (ens (ds.take i)))) ∧ Tabs T H') ⟨none, rfl, fun _ _ _ h => h, e5 _ _ ew (nk _), T5⟩ (fun i σ H' _ h => ?_) ?_ ?_
    · obtain ⟨_, _, kp, _⟩ := h
      exact SqL.of (kp _ _ nwp.symm ep5)
    · rintro i x σ H' hx ⟨y5, rfl, kp, ewd, T'⟩
      obtain ⟨z, hz, rfl⟩ := ref_at hx
      have hzm := List.mem_of_getElem? hz
      have hi : i < ds.length := (List.getElem?_eq_some_iff.mp hz).1
      have hdl := hDU.2.2
      obtain ⟨hz1, hz2⟩ := hsub z hzm
      have hez : z.2 ∈ ens zs := List.mem_map.mpr ⟨z, hz1, rfl⟩
      have kT : KpT H H' := fun b0 xs0 h0 => kp _ _ (frw.ne h0 fun ps z => by cases z).symm.symm (ExtN.tup (e04.trans e5) _ _ h0)
      have er' : H' r = some (.lst (refs fs)) := kp _ _ nwr.symm (e5 _ _ (e4 _ _ er (nl _)) (nl _))
      have kT3 : KpT H3 H' := fun b0 xs0 h0 => kp _ _ (ne_of_none h0 nwd) (ExtN.tup (e4.trans e5) _ _ h0)
      have hEz := (hB.ent z hz1).kp kT
      obtain ⟨xs, ex, g0, _⟩ := hEz.tup
      have hnd : ((ens ds).map (·.num)).Nodup := hDU.nodup
      have hnt : ((ds.take i).map (fun z => z.2.num)).Nodup := by
        have e1 : (ens ds).map (·.num) = ds.map (fun z => z.2.num) := by simp [ens, List.map_map, Function.comp_def]
        rw [e1] at hnd
        exact ((List.take_sublist i ds).map _).nodup hnd
      refine ⟨_, rfl, _, rfl, _, rfl, _, rfl, _, rfl, z.1, r, wd, z.2, n, ens zs, d, kk, fs, _, rfl, hEz, hez, hz2, hB.ok, er', fun u hu => (hfE u hu).kp kT3, hF, ewd, fun m hm => ?_, fun H6 s6 => ?_⟩
      · obtain ⟨h1, h2⟩ := (hB.ok.ok z.2 hez).rest m hm
        obtain ⟨u, hu1, hu2, hu3⟩ := dn_at h1
        refine ⟨u, hu1, hu2, hu3, ?_⟩
        obtain ⟨v, hv, rfl⟩ := List.mem_map.mp ((hDU.2.1 u).mpr ⟨hu1, hu2⟩)
        have hvt : v ∈ ds.take i := by
          obtain ⟨j, hj, ej⟩ := List.mem_iff_getElem.mp hv
          have hji : j < i := by
            rcases Nat.lt_or_ge j i with q1 | q1
            · exact q1
            · have ei : ds[i] = z := by
                rw [List.getElem?_eq_getElem hi] at hz
                exact Option.some.inj hz
              rcases Nat.eq_or_lt_of_le q1 with q2 | q2
              · subst q2
                rw [ei] at ej
                rw [← ej] at hu3
                omega
              · have := List.pairwise_iff_getElem.mp hDU.1 i j hi hj q2
                rw [ei, ej] at this
                omega
          exact List.mem_take_iff_getElem.mpr ⟨j, by omega, ej⟩
        have hv1 := valV_map (f := fun z : Addr × En => z.2.num) (g := fun z : Addr × En => V.str (st (ens zs) d kk z.2)) hnt hvt
        rw [← hu3, show wdE (ens zs) d kk (ens (ds.take i)) = (ds.take i).map (fun z : Addr × En => ((Sum.inl z.2.num : Key), V.str (st (ens zs) d kk z.2))) by simp [wdE, ens, List.map_map, Function.comp_def]]
        exact hv1
      · obtain ⟨xs6, ex6, g06, _⟩ := (hEz.kp (Same.tup s6)).tup
        have ewd6 := s6 _ _ ewd
        have hnew : (Sum.inl z.2.num : Key) ∉ (wdE (ens zs) d kk (ens (ds.take i))).map (·.1) := fun hm => by
          obtain ⟨kv, hkv, ekv⟩ := List.mem_map.mp hm
          obtain ⟨e', he', rfl⟩ := List.mem_map.mp hkv
          injection ekv with ekv
          obtain ⟨v, hv, rfl⟩ := List.mem_map.mp he'
          obtain ⟨j, hj, ej⟩ := List.mem_take_iff_getElem.mp hv
          have ei : ds[i] = z := by
            rw [List.getElem?_eq_getElem hi] at hz
            exact Option.some.inj hz
          have := List.pairwise_iff_getElem.mp hDU.1 j i (by omega) hi (by omega)
          rw [ei, ej] at this
          omega
        refine ⟨_, rfl, _, rfl, z.1, xs6, 0, _, rfl, rfl, SqT.of ex6, g06, wd, _, rfl, DPut.k (k := Sum.inl z.2.num) ewd6 (small1000 ?_), ?_⟩
        · rw [List.length_map, List.length_map, List.length_take]
          omega
        refine ⟨_, rfl, fun b0 o0 nb0 h0 => ?_, ?_, ?_⟩
        · rw [upd_ne nb0]
          exact s6 _ _ (kp _ _ nb0 h0)
        · rw [upd_same, putK_new hnew, take_more hz]
          simp [wdE, ens]
        · intro q0 hq0
          obtain ⟨ps, h1, h2, h3⟩ := (T'.ext s6) q0 hq0
          have n1 : q0.1 ≠ wd := fun z0 => by
            rw [z0, ewd6] at h1
            cases h1
          refine ⟨ps, by rw [upd_ne n1]; exact h1, h2, fun pos cv hcv => ?_⟩
          obtain ⟨c0, e1, e2'⟩ := h3 pos cv hcv
          refine ⟨c0, e1, ?_⟩
          have n2 : c0 ≠ wd := fun z0 => by
            rw [z0, ewd6] at e2'
            unfold CodeO at e2'
            cases e2'
          rw [upd_ne n2]
          exact e2'
    · rintro σ H' ⟨y5, rfl, kp, ewd, T'⟩
      have el : ds.take (refs ds).length = ds := List.take_of_length_le (by rw [List.length_map]; exact Nat.le_refl _)
      rw [el] at ewd
      refine ⟨_, rfl, q wd ds H' (fun b0 o0 h0 ht => ?_) T' frw ewd hDU⟩
      exact kp _ _ (frw.ne h0 ht) ((e04.trans e5) _ _ h0 ht)
end
end Deed

namespace Deed
open PySem PySem.Spec PyProof.Rows L2 LamX
/-! ### list(d.values()) -/
def tListVals (te : TE) : TE := fun σ H Q => te σ H fun x H1 => ∃ (d : Addr) (kvs : List (Key × V)), x = .ref d ∧ H1 d = some (.dK kvs) ∧ ∀ p, H1 p = none → Q (.ref p) (upd H1 p (.lst (kvs.map (·.2))))
theorem vals_snd {kvs : List (Key × V)} {vs : List (Key × Value)} (kv : KV kvs vs) : Vals (kvs.map (·.2)) (vs.map (·.2)) := by
  have kv' : Paired (fun (p : Key × V) (q : Key × Value) => p.1 = q.1 ∧ RelV p.2 q.2) kvs vs := kv
  induction kv' with
  | nil => exact .nil
  | cons h _ ih => exact .cons h.2 (ih (by assumption))
section
variable {X : Cx} {e : Expr} {te : TE} {p apos cpos pos : Pos}
theorem pe_listVals (hc : X.calm = true) (he : PE X e te) (hg : Gl X "list") (hm : X.mg "list" = none) (hbase : attributeBase e "values" X.env (eval e X.env) = eval e X.env := by rfl) (hline : (apos.endLine == cpos.line) = true := by rfl)
    (hs : starEach [.Call (.Attribute e "values" apos) [] [] cpos] X.env = (false, eval (.Call (.Attribute e "values" apos) [] [] cpos) X.env) :: starEach [] X.env := by rfl) :
    PE X (.Call (.Name "list" p) [.Call (.Attribute e "values" apos) [] [] cpos] [] pos) (tListVals te) := by
  refine ⟨fun pins s σ H Q I hq => ?_⟩
  refine wpAny_Call_Name_kw (ld_blt I hg hm (show bootBuiltins "list" = some (.type "list") by decide +kernel) ?_)
  refine PyProof.Rows.callWith_type1 (?_) hs rfl
  rw [hs]
  show wpAny _ _ (spliced ((false, eval (.Call (.Attribute e "values" apos) [] [] cpos) X.env) :: backTo pos (starEach [] X.env))) _ _ s
  refine Calls.spliced_cons (?_)
  refine wpAny_Call_method (T := "dict") (id := "dict.values") hbase rfl hline F.plainAttrs_dict F.slot_dict_values F.type_dict_values (thn (he.run pins s σ H _ I hq) fun u s1 ⟨x, H1, I1, rx, d, kvs, ex, hd, q⟩ => ?_)
  subst ex
  obtain rfl : u = Value.ref d := rx
  obtain ⟨hz, hs0, vs, kv, hdo⟩ := I1.hok d _ hd
  obtain ⟨ep, hat⟩ := hdo.dictAt
  have lk : kvs.length = vs.length := Paired.length kv
  have I2 : Inv X pins σ H1 { s1 with heap := s1.heap.push { cls := .type "dict_values", data := .fields #[.ref d] } } := I1.kept (t' := s1.toks) fun b ob q => Heap.get?_push_of_some _ q
  refine ⟨hdo.typeIs, hdo.mapOf.noDict, ?_⟩
  show wpAny _ _ (callWith cpos (.builtin "dict.values") [.ref d] [] []) _ X.xe s1
  refine method_meetsIn F.slot_dict_values F.entry_dict_values rfl (PySem.evalArgs_none ⟨rfl, hdo.typeIs, F.args_dict_values_1 _, _, meets_dict_values (mixKind X.prog X.w) d hs0, ⟨vs, hdo⟩, ?_⟩)
  refine Calls.spliced_nil (?_)
  refine PySem.W.kdl_call (PySem.W.kdl_values (knd := mixKind X.prog X.w) (kvs := vs) (ep := ep)) (I1.ok.hd hc) ⟨⟨_, Heap.get?_push_size _ rfl, rfl, rfl⟩, hat.push _⟩ (by omega) fun h' tk acc c hk hS hit => ?_
  have ea : acc.toList = vs.map (·.2) := by
    apply List.ext_getElem?
    intro i
    rw [List.getElem?_map]
    by_cases hi : i < vs.length
    · have h1 : i < acc.size := by rw [hit.1]; exact hi
      obtain ⟨k, hk'⟩ := hit.2 i acc[i] (Array.getElem?_eq_getElem h1)
      rw [hk', Array.getElem?_toList, Array.getElem?_eq_getElem h1]
      rfl
    · have h1 : acc.size ≤ i := by rw [hit.1]; omega
      have h2 : vs[i]? = none := List.getElem?_eq_none (by omega)
      rw [h2, Array.getElem?_toList, Array.getElem?_eq_none h1]
      rfl
  have hv := vals_snd kv
  rw [← ea] at hv
  exact ⟨.ref _, _, I2.laid (t' := tk) hk (Nat.le_refl _) (show ObjOk X.prog X.w _ h' _ (.lst (kvs.map (·.2))) from ⟨by rw [List.length_map]; exact hz, acc.toList, c, hv, by rw [Array.toArray_toList]; exact hS⟩), rfl, q _ (I2.hok.fresh (Nat.le_refl _))⟩
end
end Deed

namespace Deed
open PySem PySem.Spec PyProof.Rows L2
/-! ### set(xs), xs a list of ints -/
abbrev eSet (w : World) : Obj := { cls := .type "set", dict := none, data := .set #[] 0 (.fresh 0 0 (!w.params.followText "set-order")) }
section
variable {P : Program} {w : World} {A : Around} {E : Value → Shared → Prop} {s : Shared}
set_option maxHeartbeats 8000000 in
theorem call_setL {l : Addr} {items : Array Value} (ns : List Int) {Q : Value → Shared → Prop} (nh : A.handled = none) (il : s.heap.IsList l items) (ia : IntsAre items.toList ns) (bd : ns.length + 1 < scanBound)
    (fin : ∀ (h' : Heap) (tk c : Nat), SetR w h' s.heap.objs.size (fun j => decide (j ∈ ns)) c → c ≤ ns.length → (∀ b o, s.heap.get? b = some o → h'.get? b = some o) → Q (.ref s.heap.objs.size) { s with heap := h', toks := tk }) :
    wpAny (model P w) A (call (.type "set") [Value.ref l]) Q E s := by
  have zl : items.size = ns.length := by
    rw [← Array.length_toList]
    exact IntsAre.length ia
  obtain ⟨mc, mt, f1⟩ := F.called_set.mro
  have f2 := F.called_set.made
  have f3 := F.called_set.sub
  refine wpAny_call (codeAny_of_tree (?_))
  show wpAny _ _ (callAny (Value.type "set") _) _ _ _
  refine wpAny_pure ⟨Code.quiet_builtin _ (by decide +kernel), (codeAny_builtin F.entry_type_call ?_)⟩
  rw [Around.under_plain (weight_type_call_type "set" [Value.ref l] []) rfl]
  have f4 := F.called_set.notType
  have f5 := F.called_set.canCreate
  have f6 := F.typeCall_set_1 (.ref l)
  repeat (any_goals (first | assumption | wp_step))
  refine codeAny_mono (code_set_led1 (Value.ref l) (E := E) (Q₁ := fun o s₁ => o = .ref s.heap.objs.size ∧ s₁ = { s with heap := s.heap.push (eSet w) }) ⟨rfl, rfl⟩) fun r s₁ hr => ?_
  match r, hr with
  | .error e, hr => exact hr
  | .ok .next, hr => exact hr.elim
  | .ok .brk, hr => exact hr.elim
  | .ok .cont, hr => exact hr.elim
  | .ok (.ret o), hr =>
    obtain ⟨rfl, rfl⟩ := hr
    have atS : (s.heap.push (eSet w)).get? s.heap.objs.size = some (eSet w) := Heap.get?_push_size _ rfl
    have tyS : Shared.TypeIs { s with heap := s.heap.push (eSet w) } (.ref s.heap.objs.size) "set" := ⟨_, atS, rfl⟩
    have f7 := F.called_set.init.lookup
    have f8 := F.called_set.init.bind (.ref s.heap.objs.size)
    repeat (any_goals (first | assumption | wp_step))
    refine codeAny_mono (codeAny_call_builtin (R := wants (fun r s₂ => r = .none ∧ ∃ h' tk c, s₂ = { s with heap := h', toks := tk } ∧ SetR w h' s.heap.objs.size (fun j => decide (j ∈ ns)) c ∧ c ≤ ns.length ∧ (∀ b o, s.heap.get? b = some o → h'.get? b = some o)) E) F.called_set.init.plain F.entry_set_init (check_set_init_1 tyS ?_)) fun r₂ s₂ hr₂ => ?_
    · obtain ⟨⟨oc, od, dt, sl⟩, gl, gc, en, gd⟩ := il
      simp only at gc gd
      subst gc
      subst gd
      have gl' : (s.heap.push (eSet w)).get? l = some { cls := .type "list", dict := od, data := .seq items en, slots := sl } := Heap.get?_push_of_some _ gl
      have f9 := F.sub_list_set
      have f10 := F.sub_list_frozenset
      have f11 : (Value.type "list" == Value.type "dict") = false := by decide
      have il' : (s.heap.push (eSet w)).IsList l items := ⟨_, gl', rfl, en, rfl⟩
      unfold Builtin.«set.__init__» noKeywords Builtin.Frozenset.updateFrom
      generalize ePI : pyIter = IT
      wp_walk
      subst ePI
      refine wpAny_pyIter_list il' ?_
      refine wpAny_bind (wpAny_runValue (?_))
      have lt0 : l < s.heap.objs.size := Heap.lt_size gl
      have nh3 : A.in1.in1.in1.handled = none := by simp [nh]
      have nI : l ≠ (s.heap.push (eSet w)).objs.size := by rw [Heap.size_push]; exact Nat.ne_of_lt (Nat.lt_succ_of_lt lt0)
      have nS : s.heap.objs.size ∉ [(s.heap.push (eSet w)).objs.size, l] := by
        rw [Heap.size_push]
        simp only [List.mem_cons, List.not_mem_nil, or_false, not_or]
        exact ⟨Nat.ne_of_lt (Nat.lt_succ_self _), Nat.ne_of_gt lt0⟩
      have vals : ∀ (i : Nat) (v : Value), items[i]? = some v → ∃ k t, ns[i]? = some k ∧ v = .int k t := fun i v hv => by
        have hi : i < ns.length := zl ▸ (Array.getElem?_eq_some_iff.mp hv).1
        obtain ⟨t, e⟩ := PyProof.Rows.IntsAre.int_at ia i v (by rw [Array.getElem?_toList]; exact hv)
        refine ⟨ns[i], t, List.getElem?_eq_getElem hi, e.trans ?_⟩
        rw [List.getD_eq_getElem?_getD, List.getElem?_eq_getElem hi]
        rfl
      refine set_update_ints ((Walks.list nh3 _ l nI items).toS) s.heap.objs.size nS ns zl bd vals (items.size - 0) 0 _ (by omega) (Nat.zero_le _) ⟨⟨_, Heap.get?_push_size _ rfl, rfl, rfl⟩, il'.push _⟩ ⟨0, Nat.le_refl 0, setR_new_at (Heap.get?_push_of_some _ atS)⟩ fun s' c' mv lc R' => ?_
      obtain ⟨h', g', d', tk', os'⟩ := s'
      obtain rfl : g' = s.gens := mv.gens
      obtain rfl : d' = s.drawn := mv.drawn
      obtain rfl : os' = s.os := mv.os
      show wpAny _ _ _ _ _ _
      refine wpAny_pure (?_)
      show wpAny _ _ (ret Value.none) _ _ _
      refine wpAny_pure ⟨rfl, h', tk', c', rfl, R', zl ▸ lc, fun b o e => ?_⟩
      have ltb : b < s.heap.objs.size := Heap.lt_size e
      refine mv.heap b o (fun z => ?_) (Heap.get?_push_of_some _ (Heap.get?_push_of_some _ e))
      rw [Heap.size_push] at z
      simp only [List.mem_cons, List.not_mem_nil, or_false] at z
      rcases z with z | z
      · exact absurd z (Nat.ne_of_lt ltb)
      · exact absurd z (Nat.ne_of_lt (Nat.lt_succ_of_lt ltb))
    · match r₂, hr₂ with
      | .error e, hr₂ => exact hr₂
      | .ok .next, hr₂ => exact hr₂.elim
      | .ok .brk, hr₂ => exact hr₂.elim
      | .ok .cont, hr₂ => exact hr₂.elim
      | .ok (.ret r), hr₂ =>
        obtain ⟨rfl, h', tk, c', rfl, R', lc, kp⟩ := hr₂
        repeat (any_goals (first | assumption | wp_step))
        exact fin _ _ _ R' lc kp
end
section
variable {X : Cx}
/-- set(xs) -/
def rSetL (K : PySem.W.Frag) (w : World) : List V → Hp → VK → Prop := fun xs H Q => ∃ (a : Addr) (ns : List Int), xs = [V.ref a] ∧ SqL K H a (ns.map V.int) ∧ ns.length + 1 < scanBound ∧ ∀ (p : Addr) (c : Nat), H p = none → c ≤ ns.length → Q (.ref p) (upd H p (SetO w p (fun j => decide (j ∈ ns)) c))
theorem cr_setL (hc : X.calm = true) : CallR X (.type "set") (rSetL X.K X.w) := by
  intro pins s σ H vs us Q I r h
  obtain ⟨a, ns, rfl, hs, hb, q⟩ := h
  obtain ⟨its, rv, hl, hz⟩ := I.list hs
  rw [Vals.ref1 r]
  refine call_setL ns (I.ok.hd hc) hl.isList (by simpa using rv.ints) hb fun h' tk c R lc kp => ?_
  exact ⟨.ref _, _, I.laid (t' := tk) kp (Nat.le_refl _) (setO_new R), rfl, q _ c (I.hok.fresh (Nat.le_refl _)) lc⟩
end
end Deed

/-! turns among days -/
namespace Deed
abbrev DW (S : Type) := Int × S
section
variable {S : Type} [DecidableEq S]
def lastW (acc : List (Int × S)) : Option S := acc.getLast?.map (·.2)
def stepT (acc : List (Int × S)) (p : Int × S) : List (Int × S) := if lastW acc = some p.2 then acc else acc ++ [p]
def tns (l : List (Int × S)) : List (Int × S) := l.foldl stepT []
theorem lastW_step (acc : List (Int × S)) (p : Int × S) : lastW (stepT acc p) = some p.2 := by
  unfold stepT
  split
  · assumption
  · simp [lastW]
theorem stepT_len (acc : List (Int × S)) (p : Int × S) : (stepT acc p).length ≤ acc.length + 1 := by
  unfold stepT
  split
  · omega
  · simp
theorem foldT_len : ∀ (l acc : List (Int × S)), (l.foldl stepT acc).length ≤ acc.length + l.length
  | [], acc => by simp
  | p :: l, acc => by
    rw [List.foldl_cons]
    have h1 := foldT_len l (stepT acc p)
    have h2 := stepT_len acc p
    simp only [List.length_cons]
    omega
theorem tns_len (l : List (Int × S)) : (tns l).length ≤ l.length := by
  have := foldT_len l []
  simpa [tns] using this
theorem tns_snoc (l : List (Int × S)) (p : Int × S) : tns (l ++ [p]) = stepT (tns l) p := by
  unfold tns
  rw [List.foldl_append]
  rfl
theorem mem_stepT {acc : List (Int × S)} {p q : Int × S} (h : q ∈ stepT acc p) : q ∈ acc ∨ q = p := by
  unfold stepT at h
  split at h
  · exact .inl h
  · rcases List.mem_append.mp h with h | h
    · exact .inl h
    · exact .inr (List.mem_singleton.mp h)
theorem mem_foldT : ∀ {l acc : List (Int × S)} {q : Int × S}, q ∈ l.foldl stepT acc → q ∈ acc ∨ q ∈ l
  | [], _, _, h => .inl h
  | p :: l, acc, q, h => by
    rw [List.foldl_cons] at h
    rcases mem_foldT h with h | h
    · rcases mem_stepT h with h | h
      · exact .inl h
      · exact .inr (by rw [h]; exact List.mem_cons_self)
    · exact .inr (List.mem_cons_of_mem _ h)
theorem mem_tns {l : List (Int × S)} {q : Int × S} (h : q ∈ tns l) : q ∈ l := by
  rcases mem_foldT h with h | h
  · cases h
  · exact h
/-- what turns nothing may be left out -/
theorem fold_skip (W : Int → S) (D : Int → Bool) : ∀ (l : List Int) (x : Int) (acc : List (Int × S)), lastW acc = some (W x) → List.Pairwise (· < ·) (x :: l) → (∀ y ∈ l, D y = false → ∀ z ∈ x :: l, z < y → (∀ u ∈ x :: l, ¬ (z < u ∧ u < y)) → W y = W z) →
    (l.map fun m => (m, W m)).foldl stepT acc = ((l.filter D).map fun m => (m, W m)).foldl stepT acc
  | [], _, _, _, _, _ => rfl
  | y :: l, x, acc, ha, hp, hR => by
    have hp2 := (List.pairwise_cons.mp hp).2
    have hxy : x < y := (List.pairwise_cons.mp hp).1 y List.mem_cons_self
    have hR' : ∀ y' ∈ l, D y' = false → ∀ z ∈ y :: l, z < y' → (∀ u ∈ y :: l, ¬ (z < u ∧ u < y')) → W y' = W z := fun y' hy' hD z hz hzy hn => by
      refine hR y' (List.mem_cons_of_mem _ hy') hD z (List.mem_cons_of_mem _ hz) hzy fun u hu => ?_
      rcases List.mem_cons.mp hu with rfl | hu
      · have : u < z := (List.pairwise_cons.mp hp).1 z hz
        omega
      · exact hn u hu
    cases hD : D y with
    | true =>
      rw [List.map_cons, List.foldl_cons, List.filter_cons, if_pos hD, List.map_cons, List.foldl_cons]
      exact fold_skip W D l y _ (lastW_step _ _) hp2 hR'
    | false =>
      have hW : W y = W x := hR y List.mem_cons_self hD x List.mem_cons_self hxy fun u hu => by
        rcases List.mem_cons.mp hu with rfl | hu
        · omega
        · rcases List.mem_cons.mp hu with rfl | hu
          · omega
          · have := (List.pairwise_cons.mp hp2).1 u hu
            omega
      rw [List.map_cons, List.foldl_cons, List.filter_cons, if_neg (by rw [hD]; decide)]
      have e1 : stepT acc (y, W y) = acc := by
        unfold stepT
        rw [if_pos (by rw [ha, hW])]
      rw [e1]
      exact fold_skip W D l y acc (by rw [ha, hW]) hp2 hR'
theorem up_one : ∀ {l m : List Int}, l.Pairwise (· < ·) → m.Pairwise (· < ·) → (∀ x, x ∈ l ↔ x ∈ m) → l = m
  | [], [], _, _, _ => rfl
  | [], y :: m, _, _, h => absurd ((h y).mpr List.mem_cons_self) (by simp)
  | x :: l, [], _, _, h => absurd ((h x).mp List.mem_cons_self) (by simp)
  | x :: l, y :: m, hl, hm, h => by
    have h1 := List.pairwise_cons.mp hl
    have h2 := List.pairwise_cons.mp hm
    have e : x = y := by
      rcases List.mem_cons.mp ((h x).mp List.mem_cons_self) with e | e
      · exact e
      · rcases List.mem_cons.mp ((h y).mpr List.mem_cons_self) with e' | e'
        · exact e'.symm
        · have := h2.1 x e
          have := h1.1 y e'
          omega
    subst e
    rw [up_one h1.2 h2.2 fun z => ?_]
    constructor
    · intro hz
      rcases List.mem_cons.mp ((h z).mp (List.mem_cons_of_mem _ hz)) with e | e
      · have := h1.1 z hz
        omega
      · exact e
    · intro hz
      rcases List.mem_cons.mp ((h z).mpr (List.mem_cons_of_mem _ hz)) with e | e
      · have := h2.1 z hz
        omega
      · exact e
/-- by more days, none of which is ahead of the first: the same turns -/
theorem tns_marks (W : Int → S) {M D : List Int} (hM : M.Pairwise (· < ·)) (hD : D.Pairwise (· < ·)) (h0 : (0 : Int) ∈ D) (hsub : ∀ x ∈ D, x ∈ M) (hpos : ∀ x ∈ M, 0 ≤ x) (hW : ∀ z y, 0 ≤ z → z < y → (∀ u ∈ D, ¬ (z < u ∧ u ≤ y)) → W y = W z) :
    tns (M.map fun m => (m, W m)) = tns (D.map fun m => (m, W m)) := by
  have eD : M.filter (fun m => decide (m ∈ D)) = D := up_one (hM.filter _) hD fun x => by
    rw [List.mem_filter]
    constructor
    · rintro ⟨_, h⟩
      exact of_decide_eq_true h
    · intro h
      exact ⟨hsub x h, decide_eq_true h⟩
  cases M with
  | nil => exact absurd (hsub 0 h0) (by simp)
  | cons m l =>
    have hm0 : m = 0 := by
      rcases List.mem_cons.mp (hsub 0 h0) with e | e
      · exact e.symm
      · have := (List.pairwise_cons.mp hM).1 0 e
        have := hpos m List.mem_cons_self
        omega
    have hmD : decide (m ∈ D) = true := decide_eq_true (by rw [hm0]; exact h0)
    rw [List.filter_cons, if_pos hmD] at eD
    rw [← eD]
    unfold tns
    rw [List.map_cons, List.map_cons, List.foldl_cons, List.foldl_cons]
    refine fold_skip W _ l m _ (lastW_step _ _) hM fun y hy hDy z hz hzy hn => ?_
    refine hW z y (hpos z hz) hzy fun u hu ⟨h1, h2⟩ => ?_
    have hyD : y ∉ D := of_decide_eq_false hDy
    rcases Int.lt_or_eq_of_le h2 with h3 | h3
    · exact hn u (hsub u hu) ⟨h1, h3⟩
    · rw [h3] at hu
      exact hyD hu
end
end Deed
namespace Deed
open PySem PySem.Spec PyProof.Rows L2 LamX
theorem all_congr' {α : Type} {l : List α} {p q : α → Bool} (h : ∀ x ∈ l, p x = q x) : l.all p = l.all q := by
  rw [Bool.eq_iff_iff, List.all_eq_true, List.all_eq_true]
  exact ⟨fun z x hx => by rw [← h x hx]; exact z x hx, fun z x hx => by rw [h x hx]; exact z x hx⟩
/-- what matters of days -/
def Alike (es : List En) (d k d' k' : Int) : Prop := ∀ u ∈ es, (u.day ≤ d ↔ u.day ≤ d') ∧ (u.wri ≤ k ↔ u.wri ≤ k')
theorem Alike.open {es : List En} {d k d' k' : Int} (h : Alike es d k d' k') {u : En} (hu : u ∈ es) : isOpen d k u = isOpen d' k' u := by
  unfold isOpen
  rw [decide_eq_decide.mpr (h u hu).1, decide_eq_decide.mpr (h u hu).2]
theorem frcF_at {es : List En} {d k d' k' : Int} (h : Alike es d k d' k') : ∀ (f : Nat) (e : En), e ∈ es → frcF es d k f e = frcF es d' k' f e := by
  intro f
  induction f with
  | zero => intro e _; rfl
  | succ f ih =>
    intro e he
    show (isOpen d k e && es.all fun u => !(isOn "undone" e.num u && frcF es d k f u)) = (isOpen d' k' e && es.all fun u => !(isOn "undone" e.num u && frcF es d' k' f u))
    rw [h.open he, all_congr' fun u hu => by rw [ih u hu]]
theorem anyF_at {es : List En} {d k d' k' : Int} (h : Alike es d k d' k') (x : Str) (m : Int) : anyF es d k x m = anyF es d' k' x m := by
  unfold anyF frc
  exact any_congr fun u hu => by rw [frcF_at h _ u hu]
theorem stF_at {es : List En} {d k d' k' : Int} (h : Alike es d k d' k') : ∀ (f : Nat) (e : En), e ∈ es → stF es d k f e = stF es d' k' f e := by
  intro f
  induction f with
  | zero => intro e _; rfl
  | succ f ih =>
    intro e he
    show wordBy es d k e (e.rests.any fun r => es.any fun u => isD r u && !carries (stF es d k f u)) = wordBy es d' k' e (e.rests.any fun r => es.any fun u => isD r u && !carries (stF es d' k' f u))
    have e1 : (e.rests.any fun r => es.any fun u => isD r u && !carries (stF es d k f u)) = (e.rests.any fun r => es.any fun u => isD r u && !carries (stF es d' k' f u)) := any_congr fun r _ => any_congr fun u hu => by rw [ih u hu]
    rw [e1]
    unfold wordBy
    rw [anyF_at h, anyF_at h]
    have h1 := (h e he).1
    have h2 := (h e he).2
    have e2 : (k < e.wri) = (k' < e.wri) := propext ⟨fun z => by omega, fun z => by omega⟩
    have e3 : (d < e.day) = (d' < e.day) := propext ⟨fun z => by omega, fun z => by omega⟩
    simp only [e2, e3]
theorem st_at {es : List En} {d k d' k' : Int} (h : Alike es d k d' k') {e : En} (he : e ∈ es) : st es d k e = st es d' k' e := stF_at h _ e he
/-- the days at a place of the entries -/
def dayAt (pl : Bool) (e : En) : Int := if pl then e.day else e.wri
/-- what a deed is, by a day of that place -/
def stAt (es : List En) (pl : Bool) (o : Int) (e : En) (x : Int) : Str := if pl then st es x o e else st es o x e
def DaysAt (es : List En) (pl : Bool) (D : List Int) : Prop := D.Pairwise (· < ·) ∧ ∀ x, x ∈ D ↔ x = 0 ∨ ∃ e ∈ es, dayAt pl e = x
theorem stAt_same {es : List En} {pl : Bool} {D : List Int} (hD : DaysAt es pl D) (o : Int) {e : En} (he : e ∈ es) : ∀ z y, 0 ≤ z → z < y → (∀ u ∈ D, ¬ (z < u ∧ u ≤ y)) → stAt es pl o e y = stAt es pl o e z := by
  intro z y h0 hzy hn
  have key : ∀ u ∈ es, dayAt pl u ≤ y ↔ dayAt pl u ≤ z := fun u hu => by
    have h1 := hn _ ((hD.2 _).mpr (.inr ⟨u, hu, rfl⟩))
    constructor
    · intro h2
      omega
    · intro h2
      omega
  unfold stAt
  cases pl with
  | true => exact st_at (fun u hu => ⟨key u hu, Iff.rfl⟩) he
  | false => exact st_at (fun u hu => ⟨Iff.rfl, key u hu⟩) he
/-- the course, by whatever more days -/
theorem course_one {es : List En} {pl : Bool} {D M : List Int} (hD : DaysAt es pl D) (hM : M.Pairwise (· < ·)) (hsub : ∀ x ∈ D, x ∈ M) (hpos : ∀ x ∈ M, 0 ≤ x) (o : Int) {e : En} (he : e ∈ es) :
    tns (M.map fun m => (m, stAt es pl o e m)) = tns (D.map fun m => (m, stAt es pl o e m)) :=
  tns_marks _ hM hD.1 ((hD.2 0).mpr (.inl rfl)) hsub hpos (stAt_same hD o he)
end Deed

namespace Deed
open PySem PySem.Spec PyProof.Rows L2 LamX
theorem sNew {H : Hp} {p : Addr} (n : H p = none) (o : HO) : Same H (upd H p o) := fun b u e => by rw [upd_ne (ne_of_none e n)]; exact e
/-- a list of turns -/
def TurnsAt (H : Hp) (p : Addr) (l : List (Int × Str)) : Prop := ∃ zs : List (Addr × (Int × Str)), H p = some (.lst (zs.map fun z => V.ref z.1)) ∧ zs.map (·.2) = l ∧ ∀ z ∈ zs, H z.1 = some (.tup [.int z.2.1, .str z.2.2])
theorem TurnsAt.extN {H H' : Hp} {p : Addr} {l : List (Int × Str)} (h : TurnsAt H p l) (e : ExtN H H') : TurnsAt H' p l := by
  obtain ⟨zs, h1, h2, h3⟩ := h
  exact ⟨zs, e _ _ h1 (fun ps z => by cases z), h2, fun z hz => e _ _ (h3 z hz) (fun ps z => by cases z)⟩
theorem TurnsAt.snoc {H : Hp} {p tp : Addr} {zs : List (Addr × (Int × Str))} {q : Int × Str} (e : H p = some (.lst ((zs.map fun z => V.ref z.1) ++ [.ref tp]))) (et : H tp = some (.tup [.int q.1, .str q.2])) (h : ∀ z ∈ zs, H z.1 = some (.tup [.int z.2.1, .str z.2.2])) : TurnsAt H p (zs.map (·.2) ++ [q]) := by
  refine ⟨zs ++ [(tp, q)], ?_, ?_, fun z hz => ?_⟩
  · rw [e, List.map_append]
    rfl
  · rw [List.map_append]
    rfl
  · rcases List.mem_append.mp hz with hz | hz
    · exact h z hz
    · rw [List.mem_singleton.mp hz]
      exact et
section
variable {P : Program} {w : World} {K : PySem.W.Frag} {mg : Str → Option Value} {base : Heap} {T : List (Addr × Str)}
/-! ### the days of entries -/
abbrev sDaysAt : Stmt := topS 28
abbrev nDaysAt : List Str := ["book", "place", "entry"]
abbrev pDaysAt : List Str := ["book", "place"]
theorem scDaysAt : FnScope nDaysAt pDaysAt (defScope sDaysAt) := ⟨rfl, rfl, rfl, by decide +kernel, rfl, by decide +kernel, by decide +kernel⟩
def plI (pl : Bool) : Int := if pl then 1 else 2
def spDaysAt : Sp := fun vs H Q _ => ∃ (b fk t : Addr) (n : Nat) (age : Int) (zs : List (Addr × En)) (pl : Bool), vs = [.ref b, .int (plI pl)] ∧ BookAt H b fk t n age zs ∧ ∀ (D : List Int) (p : Addr) (H' : Hp), Same H H' → H p = none → H' p = some (.lst (D.map V.int)) → DaysAt (ens zs) pl D → D.length ≤ 17 → Q (.ref p) H'
theorem ok_daysAt {f : Addr} {fd : FuncData} {k : Nat} (F : Fun K "days_at" "days_at" sDaysAt f fd) (ms : mg "sorted" = none) (mS : mg "set" = none) : FnOk P w K mg base CX0 (k + 1) f fd pDaysAt spDaysAt := by
  refine F.ok scDaysAt (fun vs H Q E h => ?_) (fun cdv A outer s H vs Q E hr h => ?_)
  · obtain ⟨b, fk, t, n, age, zs, pl, rfl, _⟩ := h
    rfl
  · obtain ⟨b, fk, t, n, age, zs, pl, rfl, hB, q⟩ := h
    have nd := scDaysAt.nd
    have hl := hB.len
    refine ⟨_, pss_one (ps_ret (pe_callB (show CallR _ (.builtin "sorted") (rSortedSet w) from cr_sortedSet rfl) (by rfl) ms (by decide +kernel) (pa_cons (pe_callTy (show CallR _ (.type "set") (rSetL K w) from cr_setL rfl) (by rfl) mS (by decide +kernel) (pa_cons (pe_op op_cat (pe_lst (pa_cons pe_int pa_nil)) (pe_lc (own := [("entry", 2)]) (g := gName 2) (by rfl) nd (pi_tup (pe_ix ix_tup (pv 0) pe_int (fun _ _ => rfl))) (blkOk_by (own := [("entry", 2)]) (N := nDaysAt) (sc := defScope sDaysAt) (by decide +kernel)) (fun _ _ _ _ _ => pg_name (i := 2) nd rfl (Or.inl rfl)) (fun _ _ _ _ _ => pts_nil)
        (fun _ _ _ _ _ => show PE _ _ (tOp (rIxT K) (tVar 2) (tVar 1)) from pe_ix ix_tup (pv 2) (pv 1) (fun _ _ => rfl)))) pa_nil)) pa_nil))), ?_⟩
    refine ⟨(by show 1 ≤ sizeLine; decide), fun l0 nl0 => ?_⟩
    have s0 := sNew nl0 (.lst [.int 0])
    have e0 : (upd H l0 (.lst [.int 0])) l0 = some (.lst (([0] : List Int).map V.int)) := upd_same
    generalize (upd H l0 (.lst [.int 0])) = H1 at s0 e0
    have hB1 := hB.kp (Same.tup s0)
    refine ⟨_, rfl, b, _, 2, _, rfl, rfl, SqT.of hB1.at_, atI_nat (j := 2) rfl, t, rfl, ⟨_, SqT.of hB1.ents⟩, fun M nM => ?_⟩
    refine lc_tup (K := K) (a := t) (xs := refs zs) (fun i H' => H' M = some (.lst (((zs.take i).map fun z => dayAt pl z.2).map V.int)) ∧ Same H1 H') ⟨upd_same, sNew nM _⟩ (fun i H' _ h => SqT.of (h.2 _ _ hB1.ents)) ?_ ?_
    · rintro i x H' hx ⟨eM, sm⟩
      obtain ⟨z, hz, rfl⟩ := ref_at hx
      have hzm : z ∈ zs := List.mem_of_getElem? hz
      obtain ⟨xs, ex, _, g1, g2, _⟩ := ((hB1.ent z hzm).kp (Same.tup sm)).tup
      have gv : atI xs (plI pl) = some (.int (dayAt pl z.2)) := by
        cases pl with
        | true => exact g1
        | false => exact g2
      have hi : i < zs.length := (List.getElem?_eq_some_iff.mp hz).1
      refine ⟨rfl, ?_⟩
      unfold tYes
      dsimp only
      rw [if_pos rfl]
      refine ⟨_, rfl, _, rfl, z.1, xs, plI pl, _, rfl, rfl, SqT.of ex, gv, _, eM, small1000 (by rw [List.length_map, List.length_map, List.length_take]; omega), ?_, fun b o e => by rw [upd_ne (ne_of_none e nM)]; exact sm _ _ e⟩
      rw [upd_same, take_more hz, List.map_append, List.map_append]
      rfl
    rintro H2 ⟨eM, s2⟩
    rw [show (refs zs).length = zs.length from List.length_map _, List.take_length] at eM
    refine ⟨l0, M, _, _, rfl, rfl, s2 _ _ e0, eM, ?_, fun S nS => ?_⟩
    · rw [List.length_map, List.length_map, List.length_map]
      exact Nat.le_of_lt (small1000 (by show 1 + zs.length ≤ 1000; omega))
    have s3 := sNew nS (.lst (([0] : List Int).map V.int ++ (zs.map fun z => dayAt pl z.2).map V.int))
    have eS : (upd H2 S (.lst (([0] : List Int).map V.int ++ (zs.map fun z => dayAt pl z.2).map V.int))) S = some (.lst ((0 :: zs.map fun z => dayAt pl z.2).map V.int)) := by rw [upd_same]; rfl
    generalize (upd H2 S (.lst (([0] : List Int).map V.int ++ (zs.map fun z => dayAt pl z.2).map V.int))) = H3 at s3 eS
    have hl2 : (0 :: zs.map fun z => dayAt pl z.2).length ≤ 17 := by
      rw [List.length_cons, List.length_map]
      omega
    refine ⟨S, 0 :: zs.map (fun z => dayAt pl z.2), rfl, SqL.of eS, by unfold scanBound; omega, fun q1 c nq1 hc => ?_⟩
    have s4 := sNew nq1 (SetO w q1 (fun j => decide (j ∈ 0 :: zs.map (fun z => dayAt pl z.2))) c)
    have e4 : (upd H3 q1 (SetO w q1 (fun j => decide (j ∈ 0 :: zs.map (fun z => dayAt pl z.2))) c)) q1 = some (SetO w q1 (fun j => decide (j ∈ 0 :: zs.map (fun z => dayAt pl z.2))) c) := upd_same
    generalize (upd H3 q1 (SetO w q1 (fun j => decide (j ∈ 0 :: zs.map (fun z => dayAt pl z.2))) c)) = H4 at s4 e4
    refine ⟨q1, _, c, rfl, e4, by omega, fun D p up mem len np => ?_⟩
    have s14 := s0.trans (s2.trans (s3.trans s4))
    refine q D p _ (s14.trans (sNew np _)) (none_back s14 np) upd_same ⟨up, fun x => ?_⟩ (by omega)
    rw [mem x, decide_eq_true_iff, List.mem_cons, List.mem_map]
    constructor
    · rintro (h | ⟨z, hz, h⟩)
      · exact .inl h
      · exact .inr ⟨z.2, List.mem_map.mpr ⟨z, hz, rfl⟩, h⟩
    · rintro (h | ⟨e, he, h⟩)
      · exact .inl h
      · obtain ⟨z, hz, rfl⟩ := List.mem_map.mp he
        exact .inr ⟨z, hz, h⟩
/-! ### turns among days -/
end
end Deed

namespace Deed
open PySem PySem.Spec PyProof.Rows L2 LamX
/-- all but the pen and the tables is as it was -/
def XP (p : Addr) (H H' : Hp) : Prop := ∀ b o, b ≠ p → H b = some o → (∀ ps, o ≠ .tbl ps) → H' b = some o
theorem XP.refl (p : Addr) (H : Hp) : XP p H H := fun _ _ _ h _ => h
theorem XP.trans {p : Addr} {H H1 H2 : Hp} (a : XP p H H1) (b : XP p H1 H2) : XP p H H2 := fun c o n h t => b c o n (a c o n h t) t
theorem XP.ofN {p : Addr} {H H' : Hp} (e : ExtN H H') : XP p H H' := fun b o _ h t => e b o h t
theorem XP.ofK {p : Addr} {H H' : Hp} (k : Kp p H H') : XP p H H' := fun b o n h _ => k b o n h
theorem XP.ofS {p : Addr} {H H' : Hp} (s : Same H H') : XP p H H' := fun b o _ h _ => s b o h
theorem XP.tup {p : Addr} {H H' : Hp} (x : XP p H H') (P : PenAt H p) : KpT H H' := fun b xs e => x _ _ (P.ne e fun _ z => by cases z) e fun ps z => by cases z
theorem XP.toN {p : Addr} {H0 H H' : Hp} (e : ExtN H0 H) (n : H0 p = none) (x : XP p H H') : ExtN H0 H' := fun b o h t => x b o (ne_of_none h n) (e b o h t) t
theorem EdAt.xp {p : Addr} {H H' : Hp} {ed : Addr} {n : Nat} {zs : List (Addr × En)} (h : EdAt H ed n zs) (x : XP p H H') (P : PenAt H p) : EdAt H' ed n zs :=
  ⟨x _ _ (P.ne h.at_ fun _ z => by cases z) h.at_ fun ps z => (by cases z), fun z hz => (h.ent z hz).kp (x.tup P), h.ok, h.len⟩
theorem EdAt.extN {H H' : Hp} {ed : Addr} {n : Nat} {zs : List (Addr × En)} (h : EdAt H ed n zs) (e : ExtN H H') : EdAt H' ed n zs :=
  ⟨e _ _ h.at_ fun ps z => (by cases z), fun z hz => (h.ent z hz).kp (ExtN.tup e), h.ok, h.len⟩
section
variable (K : PySem.W.Frag) (mg : Str → Option Value)
abbrev CellD := Df K mg "_law_cell_at" sCell ["_law_script", "_law_k"]
abbrev PenD := Df K mg "_law_pen" sPen ["_law_cell"]
abbrev BookD := Df K mg "_law_book" sBook ["_law_pen_here", "_law_most"]
end
/-- how many cells are looked at -/
theorem turns3 (m : Nat) : ∃ tn : Int, (if (if 3 < (m : Int) then 3 else (m : Int)) > 1 then (if 3 < (m : Int) then 3 else (m : Int)) else 1) = tn ∧ 0 ≤ tn ∧ tn ≤ 3 := ⟨_, rfl, by split <;> split <;> omega, by split <;> split <;> omega⟩
end Deed

namespace Deed
open PySem PySem.Spec PyProof.Rows L2 LamX
theorem dp_strs {K : PySem.W.Frag} {H : Hp} : ∀ ns : List Str, DpAll K H (ns.map V.str) (ns.map PyData.str)
  | [] => .nil
  | n :: r => .cons (.str n) (dp_strs r)
theorem lay_strs : ∀ ns : List Str, (∀ x ∈ ns, PyData.strOk x = true) → PyData.canLayAll0 (ns.map PyData.str) = true
  | [], _ => by simp [PyData.canLayAll0]
  | n :: r, h => by simp [PyData.canLayAll0, PyData.canLay0, h n List.mem_cons_self, lay_strs r fun x hx => h x (List.mem_cons_of_mem _ hx)]
theorem depth_strs : ∀ ns : List Str, PyData.depthAll (ns.map PyData.str) ≤ 1
  | [] => by simp [PyData.depthAll]
  | n :: r => by
    have h := depth_strs r
    simp only [List.map_cons, PyData.depthAll, PyData.depth]
    omega
theorem shaped_strs (ns : List Str) (hok : ∀ x ∈ ns, PyData.strOk x = true) : SeqAt.shaped (.list (ns.map PyData.str)) = true := by
  have h1 := depth_strs ns
  have h2 : PyData.depth (.list (ns.map PyData.str)) ≤ 64 := by
    simp only [PyData.depth]
    omega
  show (PyData.canLay0 (.list (ns.map PyData.str)) && decide (PyData.depth (.list (ns.map PyData.str)) ≤ 64)) = true
  rw [Bool.and_eq_true]
  exact ⟨by simp only [PyData.canLay0]; exact lay_strs ns hok, decide_eq_true h2⟩
theorem eqvAll_strs : ∀ ns : List Str, PyData.eqvAll (ns.map PyData.str) (ns.map PyData.str) = true
  | [] => by simp [PyData.eqvAll]
  | n :: r => by simp [PyData.eqvAll, PyData.eqv, eqvAll_strs r]
theorem eqv_strs (ns : List Str) : PyData.eqv (.list (ns.map PyData.str)) (.list (ns.map PyData.str)) = true := by
  simp only [PyData.eqv]
  exact eqvAll_strs ns
theorem st_ok (es : List En) (d k : Int) (e : En) : PyData.strOk (st es d k e) = true := by
  unfold st stF wordBy
  split
  · decide +kernel
  · split
    · decide +kernel
    · split
      · decide +kernel
      · split
        · decide +kernel
        · split
          · decide +kernel
          · decide +kernel
theorem Tabs.lock {T : List (Addr × Str)} {H : Hp} (t : Tabs T H) {d : Addr} {kvs : List (Key × V)} (e : H d = some (.dK kvs)) (o : HO) : Tabs T (upd H d o) := fun q0 hq0 => by
  obtain ⟨ps, h1, h2, h3⟩ := t q0 hq0
  have n1 : q0.1 ≠ d := fun z0 => by
    rw [z0, e] at h1
    cases h1
  refine ⟨ps, by rw [upd_ne n1]; exact h1, h2, fun pos cv hcv => ?_⟩
  obtain ⟨c0, e1, e2⟩ := h3 pos cv hcv
  refine ⟨c0, e1, ?_⟩
  have n2 : c0 ≠ d := fun z0 => by
    rw [z0, e] at e2
    unfold CodeO at e2
    cases e2
  rw [upd_ne n2]
  exact e2
theorem Tabs.unlock {T : List (Addr × Str)} {H : Hp} (t : Tabs T H) {d : Addr} {ob : Obj} {kvs : List (Key × V)} (e : H d = some (.frz ob (.dK kvs))) (o : HO) : Tabs T (upd H d o) := fun q0 hq0 => by
  obtain ⟨ps, h1, h2, h3⟩ := t q0 hq0
  have n1 : q0.1 ≠ d := fun z0 => by
    rw [z0, e] at h1
    cases h1
  refine ⟨ps, by rw [upd_ne n1]; exact h1, h2, fun pos cv hcv => ?_⟩
  obtain ⟨c0, e1, e2⟩ := h3 pos cv hcv
  refine ⟨c0, e1, ?_⟩
  have n2 : c0 ≠ d := fun z0 => by
    rw [z0, e] at e2
    unfold CodeO at e2
    cases e2
  rw [upd_ne n2]
  exact e2
end Deed

namespace Deed
open PySem PySem.Spec PyProof.Rows L2
/-! ### zip of lists and tuples in whatever mix: true is a list -/
def Sq2 (K : PySem.W.Frag) : Bool → Hp → Addr → List V → Prop
  | true, H, a, xs => SqL K H a xs
  | false, H, a, xs => SqT K H a xs
def IsB : Bool → Heap → Addr → Array Value → Prop
  | true, h, a, its => h.IsList a its
  | false, h, a, its => h.IsTuple a its
def IterB : Bool → Heap → Addr → Addr → Nat → Prop
  | true, h, it, a, i => h.IsListIter it a i
  | false, h, it, a, i => h.IsTupleIter it a i
theorem IterB.at {c : Bool} {h h' : Heap} {it a : Addr} {i : Nat} (x : IterB c h it a i) (k : ∀ o, h.get? it = some o → h'.get? it = some o) : IterB c h' it a i := by
  cases c with
  | true => exact Heap.IsListIter.at x k
  | false => exact Heap.IsTupleIter.at x k
theorem IterB.obj {c : Bool} {h : Heap} {it a : Addr} {i : Nat} (x : IterB c h it a i) : ∃ o, h.get? it = some o ∧ ∀ v, o.data ≠ .cell v := by
  cases c with
  | true =>
    obtain ⟨o, e, _, dt⟩ := x
    exact ⟨o, e, fun v q => by rw [dt] at q; cases q⟩
  | false =>
    obtain ⟨o, e, _, dt⟩ := x
    exact ⟨o, e, fun v q => by rw [dt] at q; cases q⟩
theorem drawsB {prog : Program} {w : World} {A : Around} (hh : A.handled = none) (c : Bool) (it l : Addr) (hne : l ≠ it) (items : Array Value) : Draws prog w A it [it, l] items.size (fun i v => items[i]? = some v) (fun i h => IterB c h it l i ∧ IsB c h l items) := by
  cases c with
  | true => exact Draws.list hh it l hne items
  | false => exact Draws.tuple hh it l hne items
section
variable {X : Cx} {pins : List (Addr × Obj)} {σ : L2.St} {H : Hp} {s : Shared}
theorem sq2_is {c : Bool} {a : Addr} {xs : List V} (I : Inv X pins σ H s) (q : Sq2 X.K c H a xs) : ∃ its, Vals xs its ∧ IsB c s.heap a its.toArray ∧ a < s.heap.objs.size := by
  cases c with
  | true =>
    obtain ⟨its, rv, pp, _⟩ := I.list q
    exact ⟨its, rv, pp.isList, pp.lt⟩
  | false =>
    obtain ⟨its, rv, pp, _⟩ := I.tuple q
    obtain ⟨oo, ho, _⟩ := id pp
    exact ⟨its, rv, pp, Heap.lt_size ho⟩
theorem sq2_inj {c : Bool} {a : Addr} {xs ys : List V} (I : Inv X pins σ H s) (q : Sq2 X.K c H a xs) (q' : Sq2 X.K c H a ys) : xs = ys := by
  cases c with
  | true => exact I.list_inj q q'
  | false => exact I.tuple_inj q q'
end
def ItzB (K : PySem.W.Frag) (c1 c2 : Bool) (a b : Addr) : It :=
  ⟨fun i H => ∃ (xs ys : List V) (x y : V), Sq2 K c1 H a xs ∧ Sq2 K c2 H b ys ∧ xs[i]? = some x ∧ ys[i]? = some y,
    fun i H v H' => ∃ T x y, v = .ref T ∧ H T = none ∧ H' = upd H T (.tup [x, y]) ∧ (∀ xs, Sq2 K c1 H a xs → xs[i]? = some x) ∧ ∀ ys, Sq2 K c2 H b ys → ys[i]? = some y,
    fun i H => ∃ xs ys : List V, Sq2 K c1 H a xs ∧ Sq2 K c2 H b ys ∧ i ≤ xs.length ∧ i ≤ ys.length ∧ (xs.length = i ∨ ys.length = i)⟩
theorem turn_zipB {P : Program} {w : World} {K : PySem.W.Frag} {elts : List Expr} {kk : Nat} {tpos : Pos} {c1 c2 : Bool} {a b z TI TO i1 i2 : Addr} (S : ZipSep2 z TI TO i1 i2 [i1, a] [i2, b]) (na : a ≠ i1) (nb : b ≠ i2) :
    Turn P w K (.Tuple elts kk tpos) (ItzB K c1 c2 a b) [z, TI, TO, i1, i2] z (fun i h => IsZip h z TI TO .none ∧ IsTupOf2 h TI (.ref i1) (.ref i2) ∧ (∃ x y, IsTupOf2 h TO x y) ∧ IterB c1 h i1 a i ∧ IterB c2 h i2 b i) where
  mem := List.mem_cons_self
  obj := fun i h st c hc => by
    obtain ⟨hz, hTI, ⟨x, y, hTO⟩, k1, k2⟩ := st
    rcases (show c = z ∨ c = TI ∨ c = TO ∨ c = i1 ∨ c = i2 by simpa using hc) with rfl | rfl | rfl | rfl | rfl
    · exact ⟨_, hz, fun v q => by cases q⟩
    · exact ⟨_, hTI, fun v q => by cases q⟩
    · exact ⟨_, hTO, fun v q => by cases q⟩
    · exact k1.obj
    · exact k2.obj
  keep := fun i h h' st k => by
    obtain ⟨hz, hTI, ⟨x, y, hTO⟩, k1, k2⟩ := st
    refine ⟨k z (by simp) _ hz, k TI (by simp) _ hTI, ⟨x, y, k TO (by simp) _ hTO⟩, ?_, ?_⟩
    · exact k1.at (k i1 (by simp))
    · exact k2.at (k i2 (by simp))
  item := by
    intro X eP ew eK cal i pins s σ H E I hf st hg
    subst eP ew eK
    obtain ⟨hz, hTI, ⟨x0, y0, hTO⟩, k1, k2⟩ := st
    obtain ⟨xs, ys, x, y, qa, qb, gx, gy⟩ := hg
    obtain ⟨va, ra, pa, _⟩ := sq2_is I qa
    obtain ⟨vb, rb, pb, _⟩ := sq2_is I qb
    obtain ⟨u, hu, ru⟩ := ra.get gx
    obtain ⟨t, ht, rt⟩ := rb.get gy
    have hh : X.A.in1.handled = none := I.ok.hd cal
    have zl : z < s.heap.objs.size := Heap.lt_size hz
    have li : i < va.toArray.size := by simpa using (List.getElem?_eq_some_iff.mp hu).1
    have lj : i < vb.toArray.size := by simpa using (List.getElem?_eq_some_iff.mp ht).1
    refine wpAny_pyNext_zipD2_item S (drawsB hh c1 i1 a na va.toArray) (drawsB hh c2 i2 b nb vb.toArray) hz hTI hTO ⟨k1, pa⟩ ⟨k2, pb⟩ li lj fun x1 x2 h1 tk p1 p2 z1 TO1 st1 st2 hT hsz hk => ?_
    obtain rfl : u = x1 := by simpa [hu] using p1
    obtain rfl : t = x2 := by simpa [ht] using p2
    refine ⟨_, rfl, wpAny_letOwnedTupleGo_zip (s := { s with heap := h1, toks := tk }) z1 fun h2 z2 sb => ?_⟩
    have hT2 : h2.get? s.heap.objs.size = some { cls := .type "tuple", data := .seq #[u, t] } := (sb.2 _ (Nat.ne_of_gt zl)).trans hT
    have ok : ObjOk X.prog X.w (upd H s.heap.objs.size (.tup [x, y])) h2 s.heap.objs.size (.tup [x, y]) := ⟨by show 2 ≤ sizeLine; decide, [u, t], .cons ru (.cons rt .nil), ⟨_, hT2, rfl, _, rfl⟩⟩
    have I2 : Inv X pins σ (upd H s.heap.objs.size (.tup [x, y])) { s with heap := h2, toks := tk } := by
      refine I.turnedNew (ch := [z, TI, TO, i1, i2]) (fun c o hc q => ?_) hf (Nat.le_refl _) ok
      simp only [List.mem_cons, List.not_mem_nil, or_false, not_or] at hc
      exact (sb.2 c hc.1).trans (hk c o hc.1 hc.2.2.1 hc.2.2.2.1 hc.2.2.2.2 q)
    refine ⟨.ref s.heap.objs.size, _, I2, rfl, ⟨_, x, y, rfl, I.hok.fresh (Nat.le_refl _), rfl, fun l hl => ?_, fun l hl => ?_⟩, ⟨z2, ?_, ⟨u, t, ?_⟩, ?_, ?_⟩, fun c hc => ?_⟩
    · rw [sq2_inj I hl qa]
      exact gx
    · rw [sq2_inj I hl qb]
      exact gy
    · exact (sb.2 _ S.TIz).trans (hk _ _ S.TIz S.TITO S.TIi1 S.TIi2 hTI)
    · exact (sb.2 _ S.TOz).trans TO1
    · exact st1.1.at fun o q => (sb.2 _ S.zi1.symm).trans q
    · exact st2.1.at fun o q => (sb.2 _ S.zi2.symm).trans q
    · have hlt : c < s.heap.objs.size := by
        obtain ⟨o1, e1, _⟩ := k1.obj
        obtain ⟨o2, e2, _⟩ := k2.obj
        rcases (show c = z ∨ c = TI ∨ c = TO ∨ c = i1 ∨ c = i2 by simpa using hc) with rfl | rfl | rfl | rfl | rfl
        · exact zl
        · exact Heap.lt_size hTI
        · exact Heap.lt_size hTO
        · exact Heap.lt_size e1
        · exact Heap.lt_size e2
      rw [upd_ne (Nat.ne_of_lt hlt)]
      exact (hf c hc).1
  done := by
    intro X eP ew eK cal i pins s σ H E I hf st hg
    subst eP ew eK
    obtain ⟨hz, hTI, ⟨x0, y0, hTO⟩, k1, k2⟩ := st
    obtain ⟨xs, ys, qa, qb, l1, l2, hend⟩ := hg
    obtain ⟨va, ra, pa, _⟩ := sq2_is I qa
    obtain ⟨vb, rb, pb, _⟩ := sq2_is I qb
    have hh : X.A.in1.handled = none := I.ok.hd cal
    have la := ra.length
    have lb := rb.length
    refine wpAny_pyNext_zipD2_end S (drawsB hh c1 i1 a na va.toArray) (drawsB hh c2 i2 b nb vb.toArray) hz hTI hTO ⟨k1, pa⟩ ⟨k2, pb⟩ (by simp; omega) (by simp; omega) (by simp; omega) fun h1 tk hk => ⟨rfl, ?_⟩
    refine I.turnedL (ch := [z, TI, TO, i1, i2]) (fun c o hc q => ?_) hf
    simp only [List.mem_cons, List.not_mem_nil, or_false, not_or] at hc
    exact hk c o hc.1 hc.2.2.1 hc.2.2.2.1 hc.2.2.2.2 q
  self := fun A i s Q E st q => wpAny_pyIter_zip st.1 q
theorem begB (c : Bool) (l : Addr) (its : Array Value) : ∃ o, Begins (.ref l) o (fun h => IsB c h l its) ∧ ∀ h it, h.get? it = some o → IterB c h it l 0 := by
  cases c with
  | true => exact ⟨_, begins_list l its, fun h it e => ⟨_, e, rfl, rfl⟩⟩
  | false => exact ⟨_, begins_tuple l its, fun h it e => ⟨_, e, rfl, rfl⟩⟩
theorem sep_new {m a b : Nat} (la : a < m) (lb : b < m) : ZipSep2 (m + 4) (m + 2) (m + 3) m (m + 1) [m, a] [m + 1, b] := by
  constructor <;> simp <;> (try constructor) <;> (try (first | (refine Nat.ne_of_gt ?_; omega) | (refine Nat.ne_of_lt ?_; omega)))
def iZipB (K : PySem.W.Frag) (c1 c2 : Bool) (ta : TA) : TI := fun σ H R => ta σ H fun vs H1 => ∃ a b xs ys, vs = [.ref a, .ref b] ∧ Sq2 K c1 H1 a xs ∧ Sq2 K c2 H1 b ys ∧ R (ItzB K c1 c2 a b) H1
theorem pi_zipB (c1 c2 : Bool) {X : Cx} {e e2 : Expr} {ta : TA} {p pos tpos : Pos} {elts : List Expr} {kk : Nat} (hg : Gl X "zip") (hm : X.mg "zip" = none) (ha : PA X [e, e2] ta)
    (hs : starEach [e, e2] X.env = (false, eval e X.env) :: starEach [e2] X.env := by rfl) (hp : (backTo pos (starEach [e2] X.env)).any (·.1) = false := by rfl) : PI X (.Tuple elts kk tpos) (.Call (.Name "zip" p) [e, e2] [] pos) (iZipB X.K c1 c2 ta) := by
  refine ⟨fun pins s σ H R I h => Call_ (ld_blt I hg hm PyProof.Rows.boot_zip (PyProof.Rows.callWith_type1 (thn (ha.run pos pins s σ H _ I h) fun us s1 ⟨vs, H1, I1, r1, q1⟩ => ?_) hs hp))⟩
  obtain ⟨a, b, xs, ys, ex, qa, qb, q⟩ := q1
  subst ex
  obtain ⟨va, ra, pa, la⟩ := sq2_is I1 qa
  obtain ⟨vb, rb, pb, lb⟩ := sq2_is I1 qb
  obtain ⟨o1, B1, it1⟩ := begB c1 a va.toArray
  obtain ⟨o2, B2, it2⟩ := begB c2 b vb.toArray
  cases r1 with
  | cons r rr =>
    cases rr with
    | cons r' rr =>
      cases rr
      cases r
      cases r'
      refine zip_begins2 B1 B2 pa pb fun h1 hz hTI hTO g1 g2 hsz hk => wpAny_pyIter_zip hz ?_
      have I2 : Inv X pins σ H1 { s1 with heap := h1 } := I1.kept (t' := s1.toks) hk
      have S := sep_new la lb
      refine ⟨s1.heap.objs.size + 4, [s1.heap.objs.size + 4, s1.heap.objs.size + 2, s1.heap.objs.size + 3, s1.heap.objs.size, s1.heap.objs.size + 1], _, _, H1, rfl, I2, turn_zipB S (Nat.ne_of_lt la) (Nat.ne_of_lt (Nat.lt_succ_of_lt lb)), ⟨hz, hTI, ⟨_, _, hTO⟩, it1 _ _ g1, it2 _ _ g2⟩, fun c hc => ?_, q⟩
      have hle : s1.heap.objs.size ≤ c := by
        simp only [List.mem_cons, List.not_mem_nil, or_false] at hc
        rcases hc with rfl | rfl | rfl | rfl | rfl
        · exact Nat.le_add_right _ 4
        · exact Nat.le_add_right _ 2
        · exact Nat.le_add_right _ 3
        · exact Nat.le_refl _
        · exact Nat.le_add_right _ 1
      exact I1.fpOk hle (I1.hok.fresh hle)
theorem walk_zipB {K : PySem.W.Frag} {c1 c2 : Bool} {a b : Addr} {xs ys : List V} {n : Nat} (hx : xs.length = n) (hy : ys.length = n) : Walk (ItzB K c1 c2 a b) n (fun H => Sq2 K c1 H a xs ∧ Sq2 K c2 H b ys) (YPair (fun i => xs[i]?) (fun i => ys[i]?)) := by
  refine ⟨fun i H hi q => ⟨xs, ys, xs[i], ys[i], q.1, q.2, ?_, ?_⟩, fun H q => ⟨xs, ys, q.1, q.2, by omega, by omega, .inl hx⟩, fun i H v H' _ q y => ?_⟩
  · exact List.getElem?_eq_getElem (by omega)
  · exact List.getElem?_eq_getElem (by omega)
  · obtain ⟨T, x, z, t1, t2, t3, t4, t5⟩ := y
    exact ⟨T, x, z, t1, t2, t3, t4 xs q.1, t5 ys q.2⟩
end Deed

namespace Deed
open PySem PySem.Spec PyProof.Rows L2
/-! ### zip of three -/
def ItzB3 (K : PySem.W.Frag) (c1 c2 c3 : Bool) (a b d : Addr) : It :=
  ⟨fun i H => ∃ (xs ys ws : List V) (x y u : V), Sq2 K c1 H a xs ∧ Sq2 K c2 H b ys ∧ Sq2 K c3 H d ws ∧ xs[i]? = some x ∧ ys[i]? = some y ∧ ws[i]? = some u,
    fun i H v H' => ∃ T x y u, v = .ref T ∧ H T = none ∧ H' = upd H T (.tup [x, y, u]) ∧ (∀ xs, Sq2 K c1 H a xs → xs[i]? = some x) ∧ (∀ ys, Sq2 K c2 H b ys → ys[i]? = some y) ∧ ∀ ws, Sq2 K c3 H d ws → ws[i]? = some u,
    fun i H => ∃ xs ys ws : List V, Sq2 K c1 H a xs ∧ Sq2 K c2 H b ys ∧ Sq2 K c3 H d ws ∧ i ≤ xs.length ∧ i ≤ ys.length ∧ i ≤ ws.length ∧ (xs.length = i ∨ ys.length = i ∨ ws.length = i)⟩
theorem turn_zipB3 {P : Program} {w : World} {K : PySem.W.Frag} {elts : List Expr} {kk : Nat} {tpos : Pos} {c1 c2 c3 : Bool} {a b d z TI TO i1 i2 i3 : Addr} (S : ZipSep3 z TI TO i1 i2 i3 [i1, a] [i2, b] [i3, d]) (na : a ≠ i1) (nb : b ≠ i2) (nc : d ≠ i3) :
    Turn P w K (.Tuple elts kk tpos) (ItzB3 K c1 c2 c3 a b d) [z, TI, TO, i1, i2, i3] z (fun i h => IsZip h z TI TO .none ∧ IsTupOf3 h TI (.ref i1) (.ref i2) (.ref i3) ∧ (∃ x y u, IsTupOf3 h TO x y u) ∧ IterB c1 h i1 a i ∧ IterB c2 h i2 b i ∧ IterB c3 h i3 d i) where
  mem := List.mem_cons_self
  obj := fun i h st c hc => by
    obtain ⟨hz, hTI, ⟨x, y, u, hTO⟩, k1, k2, k3⟩ := st
    rcases (show c = z ∨ c = TI ∨ c = TO ∨ c = i1 ∨ c = i2 ∨ c = i3 by simpa using hc) with rfl | rfl | rfl | rfl | rfl | rfl
    · exact ⟨_, hz, fun v q => by cases q⟩
    · exact ⟨_, hTI, fun v q => by cases q⟩
    · exact ⟨_, hTO, fun v q => by cases q⟩
    · exact k1.obj
    · exact k2.obj
    · exact k3.obj
  keep := fun i h h' st k => by
    obtain ⟨hz, hTI, ⟨x, y, u, hTO⟩, k1, k2, k3⟩ := st
    refine ⟨k z (by simp) _ hz, k TI (by simp) _ hTI, ⟨x, y, u, k TO (by simp) _ hTO⟩, ?_, ?_, ?_⟩
    · exact k1.at (k i1 (by simp))
    · exact k2.at (k i2 (by simp))
    · exact k3.at (k i3 (by simp))
  item := by
    intro X eP ew eK cal i pins s σ H E I hf st hg
    subst eP ew eK
    obtain ⟨hz, hTI, ⟨x0, y0, u0, hTO⟩, k1, k2, k3⟩ := st
    obtain ⟨xs, ys, ws, x, y, q, qa, qb, qc, gx, gy, gq⟩ := hg
    obtain ⟨va, ra, pa, _⟩ := sq2_is I qa
    obtain ⟨vb, rb, pb, _⟩ := sq2_is I qb
    obtain ⟨vc, rc, pc, _⟩ := sq2_is I qc
    obtain ⟨u, hu, ru⟩ := ra.get gx
    obtain ⟨t, ht, rt⟩ := rb.get gy
    obtain ⟨r, hr, rr⟩ := rc.get gq
    have hh : X.A.in1.handled = none := I.ok.hd cal
    have zl : z < s.heap.objs.size := Heap.lt_size hz
    have li : i < va.toArray.size := by simpa using (List.getElem?_eq_some_iff.mp hu).1
    have lj : i < vb.toArray.size := by simpa using (List.getElem?_eq_some_iff.mp ht).1
    have lk : i < vc.toArray.size := by simpa using (List.getElem?_eq_some_iff.mp hr).1
    refine wpAny_pyNext_zipD3_item S (drawsB hh c1 i1 a na va.toArray) (drawsB hh c2 i2 b nb vb.toArray) (drawsB hh c3 i3 d nc vc.toArray) hz hTI hTO ⟨k1, pa⟩ ⟨k2, pb⟩ ⟨k3, pc⟩ li lj lk fun x1 x2 x3 h1 tk p1 p2 p3 z1 TO1 st1 st2 st3 hT hsz hk => ?_
    obtain rfl : u = x1 := by simpa [hu] using p1
    obtain rfl : t = x2 := by simpa [ht] using p2
    obtain rfl : r = x3 := by simpa [hr] using p3
    refine ⟨_, rfl, wpAny_letOwnedTupleGo_zip (s := { s with heap := h1, toks := tk }) z1 fun h2 z2 sb => ?_⟩
    have hT2 : h2.get? s.heap.objs.size = some { cls := .type "tuple", data := .seq #[u, t, r] } := (sb.2 _ (Nat.ne_of_gt zl)).trans hT
    have ok : ObjOk X.prog X.w (upd H s.heap.objs.size (.tup [x, y, q])) h2 s.heap.objs.size (.tup [x, y, q]) := ⟨by show 3 ≤ sizeLine; decide, [u, t, r], .cons ru (.cons rt (.cons rr .nil)), ⟨_, hT2, rfl, _, rfl⟩⟩
    have I2 : Inv X pins σ (upd H s.heap.objs.size (.tup [x, y, q])) { s with heap := h2, toks := tk } := by
      refine I.turnedNew (ch := [z, TI, TO, i1, i2, i3]) (fun c o hc q => ?_) hf (Nat.le_refl _) ok
      simp only [List.mem_cons, List.not_mem_nil, or_false, not_or] at hc
      exact (sb.2 c hc.1).trans (hk c o hc.1 hc.2.2.1 hc.2.2.2.1 hc.2.2.2.2.1 hc.2.2.2.2.2 q)
    refine ⟨.ref s.heap.objs.size, _, I2, rfl, ⟨_, x, y, q, rfl, I.hok.fresh (Nat.le_refl _), rfl, fun l hl => ?_, fun l hl => ?_, fun l hl => ?_⟩, ⟨z2, ?_, ⟨u, t, r, ?_⟩, ?_, ?_, ?_⟩, fun c hc => ?_⟩
    · rw [sq2_inj I hl qa]
      exact gx
    · rw [sq2_inj I hl qb]
      exact gy
    · rw [sq2_inj I hl qc]
      exact gq
    · exact (sb.2 _ S.TIz).trans (hk _ _ S.TIz S.TITO S.TIi1 S.TIi2 S.TIi3 hTI)
    · exact (sb.2 _ S.TOz).trans TO1
    · exact st1.1.at fun o q => (sb.2 _ S.zi1.symm).trans q
    · exact st2.1.at fun o q => (sb.2 _ S.zi2.symm).trans q
    · exact st3.1.at fun o q => (sb.2 _ S.zi3.symm).trans q
    · have hlt : c < s.heap.objs.size := by
        obtain ⟨o1, e1, _⟩ := k1.obj
        obtain ⟨o2, e2, _⟩ := k2.obj
        obtain ⟨o3, e3, _⟩ := k3.obj
        rcases (show c = z ∨ c = TI ∨ c = TO ∨ c = i1 ∨ c = i2 ∨ c = i3 by simpa using hc) with rfl | rfl | rfl | rfl | rfl | rfl
        · exact zl
        · exact Heap.lt_size hTI
        · exact Heap.lt_size hTO
        · exact Heap.lt_size e1
        · exact Heap.lt_size e2
        · exact Heap.lt_size e3
      rw [upd_ne (Nat.ne_of_lt hlt)]
      exact (hf c hc).1
  done := by
    intro X eP ew eK cal i pins s σ H E I hf st hg
    subst eP ew eK
    obtain ⟨hz, hTI, ⟨x0, y0, u0, hTO⟩, k1, k2, k3⟩ := st
    obtain ⟨xs, ys, ws, qa, qb, qc, l1, l2, l3, hend⟩ := hg
    obtain ⟨va, ra, pa, _⟩ := sq2_is I qa
    obtain ⟨vb, rb, pb, _⟩ := sq2_is I qb
    obtain ⟨vc, rc, pc, _⟩ := sq2_is I qc
    have hh : X.A.in1.handled = none := I.ok.hd cal
    have la := ra.length
    have lb := rb.length
    have lc := rc.length
    refine wpAny_pyNext_zipD3_end S (drawsB hh c1 i1 a na va.toArray) (drawsB hh c2 i2 b nb vb.toArray) (drawsB hh c3 i3 d nc vc.toArray) hz hTI hTO ⟨k1, pa⟩ ⟨k2, pb⟩ ⟨k3, pc⟩ (by simp; omega) (by simp; omega) (by simp; omega) (by simp; omega) fun h1 tk hk => ⟨rfl, ?_⟩
    refine I.turnedL (ch := [z, TI, TO, i1, i2, i3]) (fun c o hc q => ?_) hf
    simp only [List.mem_cons, List.not_mem_nil, or_false, not_or] at hc
    exact hk c o hc.1 hc.2.2.1 hc.2.2.2.1 hc.2.2.2.2.1 hc.2.2.2.2.2 q
  self := fun A i s Q E st q => wpAny_pyIter_zip st.1 q
theorem sep_new3 {m a b d : Nat} (la : a < m) (lb : b < m) (ld : d < m) : ZipSep3 (m + 5) (m + 3) (m + 4) m (m + 1) (m + 2) [m, a] [m + 1, b] [m + 2, d] := by
  constructor <;> simp <;> (try constructor) <;> (try (first | (refine Nat.ne_of_gt ?_; omega) | (refine Nat.ne_of_lt ?_; omega)))
def iZipB3 (K : PySem.W.Frag) (c1 c2 c3 : Bool) (ta : TA) : TI := fun σ H R => ta σ H fun vs H1 => ∃ a b d xs ys ws, vs = [.ref a, .ref b, .ref d] ∧ Sq2 K c1 H1 a xs ∧ Sq2 K c2 H1 b ys ∧ Sq2 K c3 H1 d ws ∧ R (ItzB3 K c1 c2 c3 a b d) H1
theorem pi_zipB3 (c1 c2 c3 : Bool) {X : Cx} {e e2 e3 : Expr} {ta : TA} {p pos tpos : Pos} {elts : List Expr} {kk : Nat} (hg : Gl X "zip") (hm : X.mg "zip" = none) (ha : PA X [e, e2, e3] ta)
    (hs : starEach [e, e2, e3] X.env = (false, eval e X.env) :: starEach [e2, e3] X.env := by rfl) (hp : (backTo pos (starEach [e2, e3] X.env)).any (·.1) = false := by rfl) : PI X (.Tuple elts kk tpos) (.Call (.Name "zip" p) [e, e2, e3] [] pos) (iZipB3 X.K c1 c2 c3 ta) := by
  refine ⟨fun pins s σ H R I h => Call_ (ld_blt I hg hm PyProof.Rows.boot_zip (PyProof.Rows.callWith_type1 (thn (ha.run pos pins s σ H _ I h) fun us s1 ⟨vs, H1, I1, r1, q1⟩ => ?_) hs hp))⟩
  obtain ⟨a, b, d, xs, ys, ws, ex, qa, qb, qc, q⟩ := q1
  subst ex
  obtain ⟨va, ra, pa, la⟩ := sq2_is I1 qa
  obtain ⟨vb, rb, pb, lb⟩ := sq2_is I1 qb
  obtain ⟨vc, rc, pc, lc⟩ := sq2_is I1 qc
  obtain ⟨o1, B1, it1⟩ := begB c1 a va.toArray
  obtain ⟨o2, B2, it2⟩ := begB c2 b vb.toArray
  obtain ⟨o3, B3, it3⟩ := begB c3 d vc.toArray
  cases r1 with
  | cons r rr =>
    cases rr with
    | cons r' rr =>
      cases rr with
      | cons r'' rr =>
        cases rr
        cases r
        cases r'
        cases r''
        refine zip_begins3 B1 B2 B3 pa pb pc fun h1 hz hTI hTO g1 g2 g3 hsz hk => wpAny_pyIter_zip hz ?_
        have I2 : Inv X pins σ H1 { s1 with heap := h1 } := I1.kept (t' := s1.toks) hk
        have S := sep_new3 la lb lc
        refine ⟨s1.heap.objs.size + 5, [s1.heap.objs.size + 5, s1.heap.objs.size + 3, s1.heap.objs.size + 4, s1.heap.objs.size, s1.heap.objs.size + 1, s1.heap.objs.size + 2], _, _, H1, rfl, I2, turn_zipB3 S (Nat.ne_of_lt la) (Nat.ne_of_lt (Nat.lt_succ_of_lt lb)) (Nat.ne_of_lt (Nat.lt_succ_of_lt (Nat.lt_succ_of_lt lc))), ⟨hz, hTI, ⟨_, _, _, hTO⟩, it1 _ _ g1, it2 _ _ g2, it3 _ _ g3⟩, fun c hc => ?_, q⟩
        have hle : s1.heap.objs.size ≤ c := by
          simp only [List.mem_cons, List.not_mem_nil, or_false] at hc
          rcases hc with rfl | rfl | rfl | rfl | rfl | rfl
          · exact Nat.le_add_right _ 5
          · exact Nat.le_add_right _ 3
          · exact Nat.le_add_right _ 4
          · exact Nat.le_refl _
          · exact Nat.le_add_right _ 1
          · exact Nat.le_add_right _ 2
        exact I1.fpOk hle (I1.hok.fresh hle)
/-- what the i-th triple is -/
def YTrip (f g h : Nat → Option V) (i : Nat) (H : Hp) (v : V) (H' : Hp) : Prop := ∃ T x y u, v = .ref T ∧ H T = none ∧ H' = upd H T (.tup [x, y, u]) ∧ f i = some x ∧ g i = some y ∧ h i = some u
theorem walk_zipB3 {K : PySem.W.Frag} {c1 c2 c3 : Bool} {a b d : Addr} {xs ys ws : List V} {n : Nat} (hx : xs.length = n) (hy : ys.length = n) (hw : ws.length = n) : Walk (ItzB3 K c1 c2 c3 a b d) n (fun H => Sq2 K c1 H a xs ∧ Sq2 K c2 H b ys ∧ Sq2 K c3 H d ws) (YTrip (fun i => xs[i]?) (fun i => ys[i]?) (fun i => ws[i]?)) := by
  refine ⟨fun i H hi q => ⟨xs, ys, ws, xs[i], ys[i], ws[i], q.1, q.2.1, q.2.2, ?_, ?_, ?_⟩, fun H q => ⟨xs, ys, ws, q.1, q.2.1, q.2.2, by omega, by omega, by omega, .inl hx⟩, fun i H v H' _ q y => ?_⟩
  · exact List.getElem?_eq_getElem (by omega)
  · exact List.getElem?_eq_getElem (by omega)
  · exact List.getElem?_eq_getElem (by omega)
  · obtain ⟨T, x, z, u, t1, t2, t3, t4, t5, t6⟩ := y
    exact ⟨T, x, z, u, t1, t2, t3, t4 xs q.1, t5 ys q.2.1, t6 ws q.2.2⟩
end Deed

namespace Deed
open PySem PySem.Spec PyProof.Rows L2 LamX
theorem wdE_get {H : Hp} {wd : Addr} {es : List En} {d k : Int} {zs ys : List (Addr × En)} (hD : DeedsUp zs ys) (e : H wd = some (.dK (wdE es d k (ens ys)))) {u : En} (hu : u ∈ ens zs) (hd : u.isDeed = true) : DGet H wd (.int u.num) (some (.str (st es d k u))) := by
  obtain ⟨v, hv, rfl⟩ := List.mem_map.mp ((hD.2.1 u).mpr ⟨hu, hd⟩)
  have h4 := DGet.k (k := Sum.inl v.2.num) e
  have hnd := hD.nodup
  rw [show (ens ys).map (·.num) = ys.map (fun z => z.2.num) by simp [ens, List.map_map, Function.comp_def]] at hnd
  have hv1 := valV_map (f := fun z : Addr × En => z.2.num) (g := fun z : Addr × En => V.str (st es d k z.2)) hnd hv
  rw [show wdE es d k (ens ys) = ys.map (fun z : Addr × En => ((Sum.inl z.2.num : Key), V.str (st es d k z.2))) by simp [wdE, ens, List.map_map, Function.comp_def], hv1] at h4
  exact h4
theorem deedsUp_of {zs zs' : List (Addr × En)} (hl : zs.length ≤ 16) (pm : zs'.Perm zs) (so : zs'.Pairwise (fun a b => a.2.num < b.2.num)) : DeedsUp zs (zs'.filter fun z => z.2.isDeed) := by
  refine ⟨so.filter _, fun x => ?_, ?_⟩
  · constructor
    · intro hx
      obtain ⟨z, hz, rfl⟩ := List.mem_map.mp hx
      exact ⟨List.mem_map.mpr ⟨z, pm.mem_iff.mp (List.mem_filter.mp hz).1, rfl⟩, (List.mem_filter.mp hz).2⟩
    · rintro ⟨hx, hd⟩
      obtain ⟨z, hz, rfl⟩ := List.mem_map.mp hx
      exact List.mem_map.mpr ⟨z, List.mem_filter.mpr ⟨pm.mem_iff.mpr hz, hd⟩, rfl⟩
  · have h1 := List.length_filter_le (fun z : Addr × En => z.2.isDeed) zs'
    have h2 := pm.length_eq
    omega
/-- words of a book, at d as known at k -/
def WdD (H : Hp) (a : Addr) (zs : List (Addr × En)) (d k : Int) : Prop := ∃ us, DeedsUp zs us ∧ H a = some (.dK (wdE (ens zs) d k (ens us)))
theorem WdD.ext {H H' : Hp} {a : Addr} {zs : List (Addr × En)} {d k : Int} (h : WdD H a zs d k) (e : ExtN H H') : WdD H' a zs d k := by
  obtain ⟨us, h1, h2⟩ := h
  exact ⟨us, h1, e _ _ h2 fun _ z => by cases z⟩
theorem WdD.get {H : Hp} {a : Addr} {zs : List (Addr × En)} {d k : Int} (h : WdD H a zs d k) {e : En} (he : e ∈ ens zs) (hd : e.isDeed = true) : DGet H a (.int e.num) (some (.str (st (ens zs) d k e))) := by
  obtain ⟨us, h1, h2⟩ := h
  exact wdE_get h1 h2 he hd
/-- rows of a parting -/
abbrev Row4 := Int × Int × Str × Str
def tup4 (r : Row4) : List V := [.int r.1, .int r.2.1, .str r.2.2.1, .str r.2.2.2]
def T4At (H : Hp) (p : Addr) (rs : List Row4) : Prop := ∃ zs : List (Addr × Row4), H p = some (.lst (zs.map fun z => V.ref z.1)) ∧ zs.map (·.2) = rs ∧ ∀ z ∈ zs, H z.1 = some (.tup (tup4 z.2))
theorem T4At.ext {H H' : Hp} {p : Addr} {rs : List Row4} (h : T4At H p rs) (e : ExtN H H') : T4At H' p rs := by
  obtain ⟨zs, h1, h2, h3⟩ := h
  exact ⟨zs, e _ _ h1 (fun _ z => by cases z), h2, fun z hz => e _ _ (h3 z hz) fun _ z => by cases z⟩
def row4D (r : Row4) : PyData := .tuple [.int r.1, .int r.2.1, .str r.2.2.1, .str r.2.2.2]
def rows4D (rs : List Row4) : PyData := .list (rs.map row4D)
theorem dp_rows4 {K : PySem.W.Frag} {H : Hp} : ∀ (zs : List (Addr × Row4)), (∀ z ∈ zs, H z.1 = some (.tup (tup4 z.2))) → DpAll K H (zs.map fun z => V.ref z.1) ((zs.map (·.2)).map row4D)
  | [], _ => .nil
  | z :: r, h => .cons (.tup (SqT.of (h z List.mem_cons_self)) (.cons (.int _) (.cons (.int _) (.cons (.str _) (.cons (.str _) .nil))))) (dp_rows4 r fun x hx => h x (List.mem_cons_of_mem _ hx))
theorem T4At.dp {K : PySem.W.Frag} {H : Hp} {p : Addr} {rs : List Row4} (h : T4At H p rs) : Dp K H (.ref p) (rows4D rs) := by
  obtain ⟨zs, h1, rfl, h3⟩ := h
  exact .lst (SqL.of h1) (dp_rows4 zs h3)
theorem lay_rows4 : ∀ l : List Row4, (∀ q ∈ l, PyData.strOk q.2.2.1 = true ∧ PyData.strOk q.2.2.2 = true) → PyData.canLayAll0 (l.map row4D) = true
  | [], _ => by simp [PyData.canLayAll0]
  | q :: r, h => by
    have h1 := h q List.mem_cons_self
    simp [PyData.canLayAll0, row4D, PyData.canLay0, h1.1, h1.2, lay_rows4 r fun x hx => h x (List.mem_cons_of_mem _ hx)]
theorem depth_rows4 : ∀ l : List Row4, PyData.depthAll (l.map row4D) ≤ 3
  | [] => by simp [PyData.depthAll]
  | q :: r => by
    have h := depth_rows4 r
    simp only [List.map_cons, PyData.depthAll, PyData.depth, row4D]
    omega
theorem shaped_rows4 (l : List Row4) (hok : ∀ q ∈ l, PyData.strOk q.2.2.1 = true ∧ PyData.strOk q.2.2.2 = true) : SeqAt.shaped (rows4D l) = true := by
  have h1 := depth_rows4 l
  have h2 : PyData.depth (rows4D l) ≤ 64 := by
    unfold rows4D
    simp only [PyData.depth]
    omega
  show (PyData.canLay0 (rows4D l) && decide (PyData.depth (rows4D l) ≤ 64)) = true
  rw [Bool.and_eq_true]
  exact ⟨by unfold rows4D; simp only [PyData.canLay0]; exact lay_rows4 l hok, decide_eq_true h2⟩
theorem eqvAll_rows4 : ∀ l : List Row4, PyData.eqvAll (l.map row4D) (l.map row4D) = true
  | [] => by simp [PyData.eqvAll]
  | q :: r => by simp [PyData.eqvAll, row4D, PyData.eqv, eqvAll_rows4 r]
theorem eqv_rows4 (l : List Row4) : PyData.eqv (rows4D l) (rows4D l) = true := by
  unfold rows4D
  simp only [PyData.eqv]
  exact eqvAll_rows4 l
/-! ### what parts two books: the mathematics -/
theorem find_deed2 {n : Nat} {es : List En} (hB : BkOk n es) {e : En} (he : e ∈ es) (hd : e.isDeed = true) : es.find? (isD e.num) = some e := by
  cases hf : es.find? (isD e.num) with
  | none =>
    rw [List.find?_eq_none] at hf
    exact absurd (show isD e.num e = true by unfold isD; rw [hd]; simp) (hf e he)
  | some u =>
    have h1 := List.find?_some hf
    have h2 := List.mem_of_find?_eq_some hf
    unfold isD at h1
    rw [Bool.and_eq_true] at h1
    rw [num_inj hB h2 he (of_decide_eq_true h1.2)]
/-- one deed's row -/
def part1 (es es' : List En) (k : Int) (D : List Int) (e e' : En) : List Row4 :=
  match D.find? fun d => !decide (st es d k e = st es' d k e') with
  | some d => [(e.num, d, st es d k e, st es' d k e')]
  | none => []
def partAt (es es' : List En) (k : Int) (D : List Int) (m : Int) : List Row4 := match es.find? (isD m), es'.find? (isD m) with
  | some e, some e' => part1 es es' k D e e'
  | _, _ => []
def partsAll (es es' : List En) (k : Int) (D : List Int) (ns : List Int) : List Row4 := ns.flatMap (partAt es es' k D)
theorem part1_ok {es es' : List En} {k : Int} {D : List Int} {e e' : En} : ∀ q ∈ part1 es es' k D e e', PyData.strOk q.2.2.1 = true ∧ PyData.strOk q.2.2.2 = true := by
  intro q hq
  unfold part1 at hq
  cases hf : D.find? fun d => !decide (st es d k e = st es' d k e') with
  | none => rw [hf] at hq; cases hq
  | some d =>
    rw [hf] at hq
    rw [List.mem_singleton.mp hq]
    exact ⟨st_ok _ _ _ _, st_ok _ _ _ _⟩
theorem partsAll_ok {es es' : List En} {k : Int} {D ns : List Int} : ∀ q ∈ partsAll es es' k D ns, PyData.strOk q.2.2.1 = true ∧ PyData.strOk q.2.2.2 = true := by
  intro q hq
  obtain ⟨m, _, h⟩ := List.mem_flatMap.mp hq
  unfold partAt at h
  split at h
  · exact part1_ok q h
  · cases h
theorem partAt_len (es es' : List En) (k : Int) (D : List Int) (m : Int) : (partAt es es' k D m).length ≤ 1 := by
  unfold partAt
  split
  · unfold part1
    split <;> simp
  · simp
theorem partsAll_len (es es' : List En) (k : Int) (D : List Int) : ∀ ns : List Int, (partsAll es es' k D ns).length ≤ ns.length
  | [] => by simp [partsAll]
  | n :: r => by
    have h1 := partAt_len es es' k D n
    have h2 := partsAll_len es es' k D r
    unfold partsAll at h2 ⊢
    rw [List.flatMap_cons, List.length_append, List.length_cons]
    omega
/-- the days of both -/
structure Days2 (es es' : List En) (D : List Int) : Prop where
  up : D.Pairwise (· < ·)
  mem : ∀ x, x ∈ D ↔ x = 0 ∨ (∃ e ∈ es, e.day = x) ∨ ∃ e ∈ es', e.day = x
theorem Days2.one {es es' : List En} {D D' : List Int} (h : Days2 es es' D) (h' : Days2 es es' D') : D = D' := up_one h.up h'.up fun x => by rw [h.mem, h'.mem]
end Deed

namespace Deed
open PySem PySem.Spec PyProof.Rows L2 LamX
/-- a list of words of a book, day by day -/
def WdsAt (H : Hp) (l : Addr) (zs : List (Addr × En)) (k : Int) (D : List Int) : Prop := ∃ as : List (Addr × Int), H l = some (.lst (as.map fun z => V.ref z.1)) ∧ as.map (·.2) = D ∧ ∀ z ∈ as, WdD H z.1 zs z.2 k
theorem WdsAt.ext {H H' : Hp} {l : Addr} {zs : List (Addr × En)} {k : Int} {D : List Int} (h : WdsAt H l zs k D) (e : ExtN H H') : WdsAt H' l zs k D := by
  obtain ⟨as, h1, h2, h3⟩ := h
  exact ⟨as, e _ _ h1 (fun _ z => by cases z), h2, fun z hz => (h3 z hz).ext e⟩
section
variable {P : Program} {w : World} {K : PySem.W.Frag} {mg : Str → Option Value} {base : Heap} {T : List (Addr × Str)}
abbrev sFirstP : Stmt := topS 30
abbrev nFirstP : List Str := ["deed", "days", "ones", "others", "day", "one", "other"]
abbrev pFirstP : List Str := ["deed", "days", "ones", "others"]
theorem scFirstP : FnScope nFirstP pFirstP (defScope sFirstP) := ⟨rfl, rfl, rfl, by decide +kernel, rfl, by decide +kernel, by decide +kernel⟩
def spFirstP : Sp := fun vs H Q _ => ∃ (dl l1 l2 : Addr) (n n' : Nat) (zs zs' : List (Addr × En)) (e e' : En) (k : Int) (D : List Int), vs = [.int e.num, .ref dl, .ref l1, .ref l2] ∧ BkOk n (ens zs) ∧ BkOk n' (ens zs') ∧ e ∈ ens zs ∧ e.isDeed = true ∧ e' ∈ ens zs' ∧ e'.isDeed = true ∧ e'.num = e.num ∧ H dl = some (.lst (D.map V.int)) ∧ WdsAt H l1 zs k D ∧ WdsAt H l2 zs' k D ∧
  ∀ p H', Same H H' → H p = none → T4At H' p (part1 (ens zs) (ens zs') k D e e') → Q (.ref p) H'
theorem ok_FirstP {f : Addr} {fd : FuncData} {k : Nat} (F : Fun K "first_parting" "first_parting" sFirstP f fd) (m_zip : mg "zip" = none) : FnOk P w K mg base CX0 (k + 1) f fd pFirstP spFirstP := by
  refine F.ok scFirstP (fun vs H Q E h => ?_) (fun cdv A outer s H vs Q E hr h => ?_)
  · obtain ⟨dl, l1, l2, n, n', zs, zs', e, e', k, D, rfl, _⟩ := h
    rfl
  · obtain ⟨dl, l1, l2, n, n', zs, zs', e, e', kk, D, rfl, hB, hB', he, hed, he', hed', hnn, eD, ⟨as, h1, h2, h3⟩, ⟨bs, g1, g2, g3⟩, q⟩ := h
    have nd := scFirstP.nd
    have hu := hu_of hr
    refine ⟨_, pss_cons (ps_for PassesOwn.never rfl (pi_zipB3 true true true (by rfl) m_zip (pa_cons (pv 1) (pa_cons (pv 2) (pa_cons (pv 3) pa_nil)))) (pg_tup (by rfl) (pgs_cons (pg_name (i := 4) nd rfl (.inl rfl)) (pgs_cons (pg_name (i := 5) nd rfl (.inl rfl)) (pgs_cons (pg_name (i := 6) nd rfl (.inl rfl)) pgs_nil))))
        (pss_one (ps_if (pt_cmpR op_ne (pe_dget hu (pv 5) (pv 0) (fun _ _ => rfl)) (pe_dget hu (pv 6) (pv 0) (fun _ _ => rfl)) (nomark _)) (pss_one (ps_ret (pe_lst (pa_cons (pe_tup (pa_cons (pv 0) (pa_cons (pv 4) (pa_cons (pe_dget hu (pv 5) (pv 0) (fun _ _ => rfl)) (pa_cons (pe_dget hu (pv 6) (pv 0) (fun _ _ => rfl)) pa_nil))))) pa_nil)))) pss_nil)))
      (pss_one (ps_ret (pe_lst pa_nil))), ?_⟩
    have la : as.length = D.length := by rw [← h2, List.length_map]
    have lb : bs.length = D.length := by rw [← g2, List.length_map]
    refine ⟨_, rfl, _, rfl, _, rfl, dl, l1, l2, _, _, _, rfl, SqL.of eD, SqL.of h1, SqL.of g1, ?_⟩
    refine for_it (walk_zipB3 (n := D.length) (xs := D.map V.int) (ys := as.map fun z => V.ref z.1) (ws := bs.map fun z => V.ref z.1) (by rw [List.length_map]) (by rw [List.length_map]; exact la) (by rw [List.length_map]; exact lb)) (fun i σ H' => ∃ y4 y5 y6, σ = [some (.int e.num), some (.ref dl), some (.ref l1), some (.ref l2), y4, y5, y6] ∧ Same H H' ∧ ∀ d ∈ D.take i, st (ens zs) d kk e = st (ens zs') d kk e') ⟨_, _, _, rfl, same_refl _, by simp⟩ (fun i σ H' _ h => ?_) ?_ ?_
    · obtain ⟨_, _, _, _, sX, _⟩ := h
      exact ⟨SqL.of (sX _ _ eD), SqL.of (sX _ _ h1), SqL.of (sX _ _ g1)⟩
    · rintro i x σ H1 H2 hi ⟨y4, y5, y6, rfl, s1, hsame⟩ ⟨T5, w1, w2, w3, rfl, nT, rfl, j1, j2, j3⟩
      dsimp only at j1 j2 j3
      have hD : D[i]? = some D[i] := List.getElem?_eq_getElem hi
      have hA : as[i]? = some as[i] := List.getElem?_eq_getElem (by omega)
      have hBb : bs[i]? = some bs[i] := List.getElem?_eq_getElem (by omega)
      rw [List.getElem?_map, hD] at j1
      rw [List.getElem?_map, hA] at j2
      rw [List.getElem?_map, hBb] at j3
      injection j1 with j1
      injection j2 with j2
      injection j3 with j3
      subst j1 j2 j3
      have ea : as[i].2 = D[i] := by
        have := congrArg (fun l => l[i]?) h2
        simp only [List.getElem?_map, hA, hD] at this
        simpa using this
      have eb : bs[i].2 = D[i] := by
        have := congrArg (fun l => l[i]?) g2
        simp only [List.getElem?_map, hBb, hD] at this
        simpa using this
      have s2 := same_new nT (.tup [.int D[i], .ref as[i].1, .ref bs[i].1])
      have e2 : (upd H1 T5 (.tup [.int D[i], .ref as[i].1, .ref bs[i].1])) T5 = some (.tup [.int D[i], .ref as[i].1, .ref bs[i].1]) := upd_same
      generalize upd H1 T5 (.tup [.int D[i], .ref as[i].1, .ref bs[i].1]) = H2 at s2 e2
      have s12 := s1.trans s2
      have w1 := (h3 as[i] (List.getElem_mem _)).ext (.of s12)
      have w2 := (g3 bs[i] (List.getElem_mem _)).ext (.of s12)
      rw [ea] at w1
      rw [eb] at w2
      have d1 := w1.get he hed
      have d2 := w2.get he' hed'
      rw [hnn] at d2
      refine ⟨T5, _, rfl, SqT.of e2, rfl, _, _, rfl, _, _, rfl, _, _, rfl, rfl, ?_⟩
      refine ⟨_, rfl, _, rfl, _, _, rfl, d1, _, rfl, _, rfl, _, _, rfl, d2, rfl, _, rfl, ?_⟩
      by_cases hq : st (ens zs) D[i] kk e = st (ens zs') D[i] kk e'
      · rw [hq, decide_eq_true rfl]
        refine iteF ?_
        refine ⟨_, _, _, rfl, s12, fun d hd => ?_⟩
        rw [take_more hD] at hd
        rcases List.mem_append.mp hd with hd | hd
        · exact hsame d hd
        · rw [List.mem_singleton.mp hd]
          exact hq
      · rw [decide_eq_false (fun z => hq (by injection z))]
        refine iteT ?_
        refine ⟨_, rfl, _, rfl, _, rfl, _, rfl, _, _, rfl, d1, _, rfl, _, rfl, _, _, rfl, d2, (by show 4 ≤ sizeLine; decide), fun t1 nt1 => ?_⟩
        refine ⟨(by show 1 ≤ sizeLine; decide), fun p3 np3 => ?_⟩
        have s3 := same_new nt1 (.tup [.int e.num, .int D[i], .str (st (ens zs) D[i] kk e), .str (st (ens zs') D[i] kk e')])
        have e3 : (upd H2 t1 (.tup [.int e.num, .int D[i], .str (st (ens zs) D[i] kk e), .str (st (ens zs') D[i] kk e')])) t1 = some (.tup [.int e.num, .int D[i], .str (st (ens zs) D[i] kk e), .str (st (ens zs') D[i] kk e')]) := upd_same
        generalize upd H2 t1 (.tup [.int e.num, .int D[i], .str (st (ens zs) D[i] kk e), .str (st (ens zs') D[i] kk e')]) = H3 at s3 e3 np3
        have s4 := same_new np3 (.lst [.ref t1])
        refine q p3 _ (s12.trans (s3.trans s4)) (none_back (s12.trans s3) np3) ?_
        have hfi : D.find? (fun d => !decide (st (ens zs) d kk e = st (ens zs') d kk e')) = some D[i] := by
          rw [List.find?_eq_some_iff_getElem]
          refine ⟨by simpa using hq, i, hi, rfl, fun j hj => ?_⟩
          have := hsame D[j] (List.mem_take_iff_getElem.mpr ⟨j, by omega, rfl⟩)
          simpa using this
        unfold part1
        rw [hfi]
        exact ⟨[(t1, (e.num, D[i], st (ens zs) D[i] kk e, st (ens zs') D[i] kk e'))], upd_same, rfl, fun z hz => by rw [List.mem_singleton.mp hz]; exact s4 _ _ e3⟩
    · rintro σ H1 ⟨y4, y5, y6, rfl, s1, hsame⟩
      rw [List.take_length] at hsame
      refine ⟨Nat.zero_le _, fun p3 np3 => ?_⟩
      refine q p3 _ (s1.trans (same_new np3 _)) (none_back s1 np3) ?_
      have hfi : D.find? (fun d => !decide (st (ens zs) d kk e = st (ens zs') d kk e')) = none := by
        rw [List.find?_eq_none]
        intro d hd
        simpa using hsame d hd
      unfold part1
      rw [hfi]
      exact ⟨[], upd_same, rfl, fun _ h => nomatch h⟩
end
end Deed

namespace Deed
open PySem PySem.Spec PyProof.Rows L2 LamX
theorem DaysAt.rng {n : Nat} {es : List En} {pl : Bool} {D : List Int} (h : DaysAt es pl D) (hB : BkOk n es) : ∀ x ∈ D, 0 ≤ x ∧ x ≤ 9999 := fun x hx => by
  rcases (h.2 x).mp hx with rfl | ⟨e, he, rfl⟩
  · exact ⟨Int.le_refl _, by decide⟩
  · have h1 := hB.ok e he
    unfold dayAt
    cases pl with
    | true => exact h1.1
    | false => exact h1.2.1
theorem Days2.rng {n n' : Nat} {es es' : List En} {D : List Int} (h : Days2 es es' D) (hB : BkOk n es) (hB' : BkOk n' es') : ∀ x ∈ D, 0 ≤ x ∧ x ≤ 9999 := fun x hx => by
  rcases (h.mem x).mp hx with rfl | ⟨e, he, rfl⟩ | ⟨e, he, rfl⟩
  · exact ⟨Int.le_refl _, by decide⟩
  · exact (hB.ok e he).1
  · exact (hB'.ok e he).1
theorem T4At.app {H : Hp} {p b : Addr} {rs rs' : List Row4} (h : T4At H p rs) (h' : T4At H b rs') : ∃ xs ys : List V, H p = some (.lst xs) ∧ H b = some (.lst ys) ∧ xs.length = rs.length ∧ ys.length = rs'.length ∧ T4At (upd H p (.lst (xs ++ ys))) p (rs ++ rs') := by
  obtain ⟨zs, h1, rfl, h3⟩ := h
  obtain ⟨zs', g1, rfl, g3⟩ := h'
  refine ⟨_, _, h1, g1, by simp, by simp, zs ++ zs', by rw [upd_same, List.map_append], by rw [List.map_append], fun z hz => ?_⟩
  have hz2 : H z.1 = some (.tup (tup4 z.2)) := by
    rcases List.mem_append.mp hz with hz | hz
    · exact h3 z hz
    · exact g3 z hz
  rw [upd_ne fun q => by rw [q, h1] at hz2; cases hz2]
  exact hz2
section
variable {P : Program} {w : World} {K : PySem.W.Frag} {mg : Str → Option Value} {base : Heap} {T : List (Addr × Str)}
abbrev sPartOf : Stmt := topS 31
abbrev nPartOf : List Str := ["book", "other", "k", "days", "ones", "others", "shared", "partings", "deed", "day"]
abbrev pPartOf : List Str := ["book", "other", "k"]
theorem scPartOf : FnScope nPartOf pPartOf (defScope sPartOf) := ⟨rfl, rfl, rfl, by decide +kernel, rfl, by decide +kernel, by decide +kernel⟩
def spPartOf (T : List (Addr × Str)) : Sp := fun vs H Q _ => ∃ (b fk t b' fk' t' : Addr) (n n' : Nat) (age age' : Int) (zs zs' : List (Addr × En)) (k : Int), vs = [.ref b, .ref b', .int k] ∧ BookAt H b fk t n age zs ∧ BookAt H b' fk' t' n' age' zs' ∧ Tabs T H ∧ (0 ≤ k ∧ k ≤ 9999) ∧
  ∀ (p : Addr) (D ns : List Int) (H' : Hp), ExtN H H' → Tabs T H' → Fresh H p → Days2 (ens zs) (ens zs') D → ns.Pairwise (· < ·) → (∀ x, x ∈ ns ↔ x ∈ dn (ens zs)) → T4At H' p (partsAll (ens zs) (ens zs') k D ns) → Q (.ref p) H'
theorem ok_PartOf {f : Addr} {fd : FuncData} {k : Nat} {dv : List V} (F : FunD K "parting_of" "parting_of" (defArgs sPartOf) (defBody sPartOf) (defScope sPartOf) dv [] f fd) (C_check_day : CallOk P w K mg base k "check_day" ["thing"] spCkDay) (C_days_at : CallOk P w K mg base k "days_at" pDaysAt spDaysAt) (C_all_standing : CallOk P w K mg base k "all_standing" pAllSt (spAllSt T)) (C_deeds_of : CallOk P w K mg base k "deeds_of" ["book"] (spNums (·.isDeed) T)) (C_first_parting : CallOk P w K mg base k "first_parting" pFirstP spFirstP) (m_set : mg "set" = none) (m_sorted : mg "sorted" = none) (iDAY : MgInt mg "DAY" 1) : FnOk P w K mg base CX0 (k + 1) f fd pPartOf (spPartOf T) := by
  refine F.ok scPartOf (fun vs H Q E h => ?_) (fun cdv A outer s H vs Q E hr h => ?_)
  · obtain ⟨b, fk, t, b', fk', t', n, n', age, age', zs, zs', k, rfl, _⟩ := h
    rfl
  · obtain ⟨b, fk, t, b', fk', t', n, n', age, age', zs, zs', kk, rfl, hB, hB', hT, hk, q⟩ := h
    have nd := scPartOf.nd
    have hu := hu_of hr
    refine ⟨_, PSs.nox (pss_cons (ps_expr (pe_call C_check_day.ok hr (by rfl) C_check_day.g C_check_day.kp C_check_day.b .nil pass0 (pa_cons (pv 2) pa_nil)))
      (pss_cons (ps_set (i := 3) nd rfl (.inl rfl) (pe_callB (show CallR _ (.builtin "sorted") (rSortedSet w) from cr_sortedSet rfl) (by rfl) m_sorted (by decide +kernel) (pa_cons (pe_callTy (show CallR _ (.type "set") (rSetL K w) from cr_setL rfl) (by rfl) m_set (by decide +kernel) (pa_cons (pe_op op_cat (pe_call C_days_at.ok hr (by rfl) C_days_at.g C_days_at.kp C_days_at.b .nil pass0 (pa_cons (pv 0) (pa_cons (pe_num (by rfl) iDAY) pa_nil))) (pe_call C_days_at.ok hr (by rfl) C_days_at.g C_days_at.kp C_days_at.b .nil pass0 (pa_cons (pv 1) (pa_cons (pe_num (by rfl) iDAY) pa_nil)))) pa_nil)) pa_nil)))
      (pss_cons (ps_setLc (i := 4) (own := [("day", 9)]) (g := gName 9) (by rfl) nd rfl rfl (sw_true rfl rfl rfl (by decide +kernel)) (pi_list (pv 3)) (blkOk_by (own := [("day", 9)]) (N := nPartOf) (sc := defScope sPartOf) (by decide +kernel)) (fun _ _ _ _ _ => (pg_name (i := 9) nd rfl (.inl rfl))) (fun _ _ _ _ _ => pts_nil)
          (fun _ _ _ _ _ => (pe_call C_all_standing.ok hr (by rfl) C_all_standing.g C_all_standing.kp C_all_standing.b .nil pass0 (pa_cons (pv 0) (pa_cons (pv 9) (pa_cons (pv 2) pa_nil))))))
      (pss_cons (ps_setLc (i := 5) (own := [("day", 9)]) (g := gName 9) (by rfl) nd rfl rfl (sw_true rfl rfl rfl (by decide +kernel)) (pi_list (pv 3)) (blkOk_by (own := [("day", 9)]) (N := nPartOf) (sc := defScope sPartOf) (by decide +kernel)) (fun _ _ _ _ _ => (pg_name (i := 9) nd rfl (.inl rfl))) (fun _ _ _ _ _ => pts_nil)
          (fun _ _ _ _ _ => (pe_call C_all_standing.ok hr (by rfl) C_all_standing.g C_all_standing.kp C_all_standing.b .nil pass0 (pa_cons (pv 1) (pa_cons (pv 9) (pa_cons (pv 2) pa_nil))))))
      (pss_cons (ps_set (i := 6) nd rfl (.inl rfl) (pe_call C_deeds_of.ok hr (by rfl) C_deeds_of.g C_deeds_of.kp C_deeds_of.b .nil pass0 (pa_cons (pv 1) pa_nil)))
      (pss_cons (ps_set (i := 7) nd rfl (.inl rfl) (pe_lst pa_nil))
      (pss_cons (ps_for PassesOwn.never rfl (pi_list (pe_call C_deeds_of.ok hr (by rfl) C_deeds_of.g C_deeds_of.kp C_deeds_of.b .nil pass0 (pa_cons (pv 0) pa_nil))) (pg_name (i := 8) nd rfl (.inl rfl))
        (pss_one (ps_if (pt_cmpR op_in_seq (pv 8) (pv 6) (by rfl)) (pss_one (ps_expr (pe_bm PySem.F.plainAttrs_list PySem.F.slot_list_extend PySem.F.type_list_extend mt_extend (pv 7) (pa_cons (pe_call C_first_parting.ok hr (by rfl) C_first_parting.g C_first_parting.kp C_first_parting.b .nil pass0 (pa_cons (pv 8) (pa_cons (pv 3) (pa_cons (pv 4) (pa_cons (pv 5) pa_nil))))) pa_nil)))) pss_nil)))
      (pss_one (ps_ret (pv 7)))))))))), ?_⟩
    have nls : ∀ xs : List V, ∀ ps, HO.lst xs ≠ .tbl ps := fun xs ps z => by cases z
    refine ⟨_, rfl, kk, rfl, hk.1, hk.2, ?_⟩
    refine ⟨_, rfl, b, fk, t, n, age, zs, true, rfl, hB, fun D1 p1 H1 s1 np1 ep1 hD1 hl1 => ?_⟩
    refine ⟨_, rfl, b', fk', t', n', age', zs', true, rfl, hB'.kp (Same.tup s1), fun D2 p2 H2 s2 np2 ep2 hD2 hl2 => ?_⟩
    have s02 := s1.trans s2
    refine ⟨p1, p2, _, _, rfl, rfl, s2 _ _ ep1, ep2, ?_, fun S nS => ?_⟩
    · rw [List.length_map, List.length_map]
      exact Nat.le_of_lt (small1000 (by omega))
    rw [← List.map_append] 
    have s3 := same_new nS (.lst ((D1 ++ D2).map V.int))
    have eS : (upd H2 S (.lst ((D1 ++ D2).map V.int))) S = some (.lst ((D1 ++ D2).map V.int)) := upd_same
    generalize (upd H2 S (.lst ((D1 ++ D2).map V.int))) = H3 at s3 eS
    have hl3 : (D1 ++ D2).length ≤ 34 := by rw [List.length_append]; omega
    refine ⟨S, D1 ++ D2, rfl, SqL.of eS, by unfold scanBound; omega, fun q1 c nq1 hc => ?_⟩
    have s4 := same_new nq1 (SetO w q1 (fun j => decide (j ∈ D1 ++ D2)) c)
    have e4 : (upd H3 q1 (SetO w q1 (fun j => decide (j ∈ D1 ++ D2)) c)) q1 = some (SetO w q1 (fun j => decide (j ∈ D1 ++ D2)) c) := upd_same
    generalize (upd H3 q1 (SetO w q1 (fun j => decide (j ∈ D1 ++ D2)) c)) = H4 at s4 e4
    refine ⟨q1, _, c, rfl, e4, by omega, fun D pD up mem len npD => ?_⟩
    have s5 := same_new npD (.lst (D.map V.int))
    have e5 : (upd H4 pD (.lst (D.map V.int))) pD = some (.lst (D.map V.int)) := upd_same
    generalize (upd H4 pD (.lst (D.map V.int))) = H5 at s5 e5
    have s05 : Same H H5 := s02.trans (s3.trans (s4.trans s5))
    have hD : Days2 (ens zs) (ens zs') D := ⟨up, fun x => by
      rw [mem x, decide_eq_true_iff, List.mem_append, hD1.2 x, hD2.2 x]
      constructor
      · rintro ((h | h) | (h | h))
        · exact .inl h
        · exact .inr (.inl h)
        · exact .inl h
        · exact .inr (.inr h)
      · rintro (h | h | h)
        · exact .inl (.inl h)
        · exact .inl (.inr h)
        · exact .inr (.inr h)⟩
    have hDr := hD.rng hB.ok hB'.ok
    have hDl : D.length ≤ 34 := by omega
    -- the words of the one
    have words : ∀ (H6 : Hp), True := fun _ => trivial
    refine ⟨_, rfl, pD, rfl, ⟨_, SqL.of e5⟩, fun M1 nM1 => ?_⟩
    refine lc_list (K := K) (a := pD) (xs := D.map V.int) (fun i H' => WdsAt H' M1 zs kk (D.take i) ∧ ExtN H5 H' ∧ Tabs T H') ⟨⟨[], upd_same, rfl, fun _ h => nomatch h⟩, ExtN.new nM1 _, Tabs.new (hT.ext s05) nM1 _⟩ (fun i H' _ h => SqL.of (h.2.1 _ _ e5 (nls _))) ?_ ?_
    · rintro i x H6 hx ⟨⟨as, h1, h2, h3⟩, e6, T6⟩
      rw [List.getElem?_map] at hx
      cases hz : D[i]? with
      | none => rw [hz] at hx; cases hx
      | some m =>
        rw [hz] at hx
        injection hx with hx
        subst hx
        have hi : i < D.length := (List.getElem?_eq_some_iff.mp hz).1
        have hm := hDr m (List.mem_of_getElem? hz)
        have las : as.length = i := by
          have := congrArg List.length h2
          rw [List.length_map, List.length_take] at this
          omega
        refine ⟨rfl, ?_⟩
        unfold tYes
        dsimp only
        rw [if_pos rfl]
        refine ⟨_, rfl, _, rfl, _, rfl, b, fk, t, n, age, zs, m, kk, rfl, hB.kp (ExtN.tup ((ExtN.of s05).trans e6)), T6, hm, hk, fun wh ys H7 e7 T7 fr7 ewh hY => ?_⟩
        have h17 := e7 _ _ h1 (nls _)
        refine ⟨_, h17, small1000 (by rw [List.length_map]; omega), ⟨as ++ [(wh, m)], by rw [upd_same, List.map_append]; rfl, by rw [List.map_append, h2, take_more hz]; rfl, fun z hzz => ?_⟩, fun b0 o0 h0 ht => ?_, ?_⟩
        · have key : WdD H7 z.1 zs z.2 kk := by
            rcases List.mem_append.mp hzz with hzz | hzz
            · exact (h3 z hzz).ext e7
            · rw [List.mem_singleton.mp hzz]
              exact ⟨ys, hY, ewh⟩
          obtain ⟨us, k1, k2⟩ := key
          exact ⟨us, k1, by rw [upd_ne fun q => by rw [q, h17] at k2; cases k2]; exact k2⟩
        · rw [upd_ne (fun q => by rw [q, nM1] at h0; cases h0)]
          exact e7 _ _ (e6 _ _ h0 ht) ht
        · exact Tabs.put T7 h17 _
    rintro H6 ⟨hW1, e6, T6⟩
    rw [show (D.map V.int).length = D.length from List.length_map _, List.take_length] at hW1
    have e56 := (ExtN.of s05).trans e6
    have ep6 := e6 _ _ e5 (nls _)
    -- the words of the other
    refine ⟨_, rfl, pD, rfl, ⟨_, SqL.of ep6⟩, fun M2 nM2 => ?_⟩
    refine lc_list (K := K) (a := pD) (xs := D.map V.int) (fun i H' => WdsAt H' M2 zs' kk (D.take i) ∧ ExtN H6 H' ∧ Tabs T H') ⟨⟨[], upd_same, rfl, fun _ h => nomatch h⟩, ExtN.new nM2 _, Tabs.new T6 nM2 _⟩ (fun i H' _ h => SqL.of (h.2.1 _ _ ep6 (nls _))) ?_ ?_
    · rintro i x H7 hx ⟨⟨as, h1, h2, h3⟩, e7, T7⟩
      rw [List.getElem?_map] at hx
      cases hz : D[i]? with
      | none => rw [hz] at hx; cases hx
      | some m =>
        rw [hz] at hx
        injection hx with hx
        subst hx
        have hi : i < D.length := (List.getElem?_eq_some_iff.mp hz).1
        have hm := hDr m (List.mem_of_getElem? hz)
        have las : as.length = i := by
          have := congrArg List.length h2
          rw [List.length_map, List.length_take] at this
          omega
        refine ⟨rfl, ?_⟩
        unfold tYes
        dsimp only
        rw [if_pos rfl]
        refine ⟨_, rfl, _, rfl, _, rfl, b', fk', t', n', age', zs', m, kk, rfl, hB'.kp (ExtN.tup (e56.trans e7)), T7, hm, hk, fun wh ys H8 e8 T8 fr8 ewh hY => ?_⟩
        have h18 := e8 _ _ h1 (nls _)
        refine ⟨_, h18, small1000 (by rw [List.length_map]; omega), ⟨as ++ [(wh, m)], by rw [upd_same, List.map_append]; rfl, by rw [List.map_append, h2, take_more hz]; rfl, fun z hzz => ?_⟩, fun b0 o0 h0 ht => ?_, ?_⟩
        · have key : WdD H8 z.1 zs' z.2 kk := by
            rcases List.mem_append.mp hzz with hzz | hzz
            · exact (h3 z hzz).ext e8
            · rw [List.mem_singleton.mp hzz]
              exact ⟨ys, hY, ewh⟩
          obtain ⟨us, k1, k2⟩ := key
          exact ⟨us, k1, by rw [upd_ne fun q => by rw [q, h18] at k2; cases k2]; exact k2⟩
        · rw [upd_ne (fun q => by rw [q, nM2] at h0; cases h0)]
          exact e8 _ _ (e7 _ _ h0 ht) ht
        · exact Tabs.put T8 h18 _
    rintro H7 ⟨hW2, e7, T7⟩
    rw [show (D.map V.int).length = D.length from List.length_map _, List.take_length] at hW2
    have e57 := e56.trans e7
    refine ⟨_, rfl, b', fk', t', n', age', zs', rfl, hB'.kp (ExtN.tup e57), T7, fun sh zs2 H8 e8 T8 fr8 esh pm2 so2 => ?_⟩
    have e58 := e57.trans e8
    refine ⟨Nat.zero_le _, fun pl npl => ?_⟩
    have e9 : ExtN H8 (upd H8 pl (.lst [])) := ExtN.new npl _
    have T9 : Tabs T (upd H8 pl (.lst [])) := Tabs.new T8 npl _
    have epl : (upd H8 pl (.lst [])) pl = some (.lst []) := upd_same
    have frp : Fresh H8 pl := fun o z => by rw [npl] at z; cases z
    generalize (upd H8 pl (.lst [])) = H9 at e9 T9 epl
    have e59 := e58.trans e9
    refine ⟨_, rfl, b, fk, t, n, age, zs, rfl, hB.kp (ExtN.tup e59), T9, fun L zs1 H10 e10 T10 fr10 eL pm1 so1 => ?_⟩
    have e510 := e59.trans e10
    have ep10 : H10 pl = some (.lst []) := e10 _ _ epl (nls _)
    have nLp : pl ≠ L := fr10.ne epl (nls _)
    generalize hns : ((zs1.filter fun z => z.2.isDeed).map fun z => z.2.num) = ns at eL
    generalize hms : ((zs2.filter fun z => z.2.isDeed).map fun z => z.2.num) = ms at esh
    have hnup : ns.Pairwise (· < ·) := by
      rw [← hns, List.pairwise_map]
      exact so1.filter _
    have hnm : ∀ x, x ∈ ns ↔ x ∈ dn (ens zs) := fun x => by
      rw [← hns, mem_dn]
      simp only [List.mem_map, List.mem_filter]
      constructor
      · rintro ⟨z, ⟨h1, h2⟩, rfl⟩
        exact ⟨z.2, ⟨z, pm1.mem_iff.mp h1, rfl⟩, h2, rfl⟩
      · rintro ⟨_, ⟨z, h1, rfl⟩, h2, rfl⟩
        exact ⟨z, ⟨pm1.mem_iff.mpr h1, h2⟩, rfl⟩
    have hmm : ∀ x, x ∈ ms ↔ x ∈ dn (ens zs') := fun x => by
      rw [← hms, mem_dn]
      simp only [List.mem_map, List.mem_filter]
      constructor
      · rintro ⟨z, ⟨h1, h2⟩, rfl⟩
        exact ⟨z.2, ⟨z, pm2.mem_iff.mp h1, rfl⟩, h2, rfl⟩
      · rintro ⟨_, ⟨z, h1, rfl⟩, h2, rfl⟩
        exact ⟨z, ⟨pm2.mem_iff.mpr h1, h2⟩, rfl⟩
    have hnl : ns.length ≤ 16 := by
      rw [← hns, List.length_map]
      have h1 := List.length_filter_le (fun z : Addr × En => z.2.isDeed) zs1
      have h2 := pm1.length_eq
      have h3 := hB.len
      omega
    refine ⟨L, rfl, ⟨_, SqL.of eL⟩, ?_⟩
    refine for_list (K := K) (a := L) (xs := ns.map V.int) (fun i σ H' => ∃ y8 y9, σ = [some (.ref b), some (.ref b'), some (.int kk), some (.ref pD), some (.ref M1), some (.ref M2), some (.ref sh), some (.ref pl), y8, y9] ∧ ExtN H8 H' ∧ Tabs T H' ∧ H' L = some (.lst (ns.map V.int)) ∧ T4At H' pl (partsAll (ens zs) (ens zs') kk D (ns.take i))) ⟨_, _, rfl, e9.trans e10, T10, eL, ⟨[], ep10, rfl, fun _ h => nomatch h⟩⟩ (fun i σ H' _ h => ?_) ?_ ?_
    · obtain ⟨_, _, _, _, _, eX, _⟩ := h
      exact SqL.of eX
    · rintro i x σ H11 hx ⟨y8, y9, rfl, e11, T11, eL11, h4⟩
      rw [List.getElem?_map] at hx
      cases hz : ns[i]? with
      | none => rw [hz] at hx; cases hx
      | some m =>
        rw [hz] at hx
        injection hx with hx
        subst hx
        have hmn := List.mem_of_getElem? hz
        obtain ⟨e, he, hed, rfl⟩ := dn_at ((hnm m).mp hmn)
        have esh11 := e11 _ _ esh (nls _)
        have hpa : partsAll (ens zs) (ens zs') kk D (ns.take (i + 1)) = partsAll (ens zs) (ens zs') kk D (ns.take i) ++ partAt (ens zs) (ens zs') kk D e.num := by
          rw [take_more hz]
          unfold partsAll
          rw [List.flatMap_append]
          simp
        refine ⟨_, rfl, _, rfl, sh, _, rfl, .inl (SqL.of esh11), rfl, flat_ints _, _, rfl, ?_⟩
        rw [mem_inV]
        refine ite2 (fun c => ?_) (fun c => ?_)
        · have hin : e.num ∈ ms := of_decide_eq_true c
          obtain ⟨e', he', hed', hnn⟩ := dn_at ((hmm _).mp hin)
          have e511 := e58.trans e11
          have e611 : ExtN H6 H11 := e7.trans (e8.trans e11)
          have e711 : ExtN H7 H11 := e8.trans e11
          refine ⟨_, rfl, .inl ⟨rfl, _, SqL.of h4.choose_spec.1⟩, _, rfl, _, rfl, _, rfl, _, rfl, pD, M1, M2, n, n', zs, zs', e, e', kk, D, rfl, hB.ok, hB'.ok, he, hed, he', hed', hnn, e611 _ _ ep6 (nls _), hW1.ext e611, hW2.ext e711, fun pb H12 s12 npb h12 => ?_⟩
          obtain ⟨xs, ys, k1, k2, k3, k4, k5⟩ := (h4.ext (.of s12)).app h12
          have hl1 := partsAll_len (ens zs) (ens zs') kk D (ns.take i)
          have hl2 : (part1 (ens zs) (ens zs') kk D e e').length ≤ 1 := by unfold part1; split <;> simp
          rw [List.length_take] at hl1
          refine ⟨pl, pb, xs, ys, rfl, rfl, k1, k2, Nat.le_of_lt (small1000 (by omega)), ?_⟩
          refine ⟨_, _, rfl, ExtN.put (e11.trans (.of s12)) frp _, Tabs.put (T11.ext s12) k1 _, ?_, ?_⟩
          · rw [upd_ne nLp.symm]
            exact s12 _ _ eL11
          · rw [hpa]
            have : partAt (ens zs) (ens zs') kk D e.num = part1 (ens zs) (ens zs') kk D e e' := by
              unfold partAt
              have f2 := find_deed2 hB'.ok he' hed'
              rw [hnn] at f2
              rw [find_deed2 hB.ok he hed, f2]
            rw [this]
            exact k5
        · have hno : e.num ∉ ms := of_decide_eq_false (Bool.eq_false_iff.mpr c)
          refine ⟨_, _, rfl, e11, T11, eL11, ?_⟩
          have : partAt (ens zs) (ens zs') kk D e.num = [] := by
            unfold partAt
            have : (ens zs').find? (isD e.num) = none := by
              rw [List.find?_eq_none]
              intro u hu h
              unfold isD at h
              rw [Bool.and_eq_true] at h
              exact hno ((hmm _).mpr (mem_dn.mpr ⟨u, hu, h.1, of_decide_eq_true h.2⟩))
            rw [find_deed2 hB.ok he hed, this]
          rw [hpa, this, List.append_nil]
          exact h4
    · rintro σ H11 ⟨y8, y9, rfl, e11, T11, eL11, h4⟩
      rw [show (ns.map V.int).length = ns.length from List.length_map _, List.take_length] at h4
      refine ⟨_, rfl, q pl D ns H11 (e58.trans e11) T11 (fun o z => ?_) hD hnup hnm h4⟩
      rcases Classical.em (∃ ps, o = .tbl ps) with hh | hh
      · exact hh
      · exfalso
        have := e58 _ _ z (fun ps zz => hh ⟨ps, zz⟩)
        rw [npl] at this
        cases this
end
end Deed

namespace Deed
open PySem PySem.Spec PyProof.Rows L2 LamX
/-- which acts are in force, as a dict -/
abbrev fks (es : List En) (d k : Int) (us : List (Addr × En)) : List (Key × V) := us.map fun z => (Sum.inl z.2.num, V.bl (frc es d k z.2))
structure ForcesAt (H : Hp) (fa : Addr) (zs us : List (Addr × En)) (d k : Int) : Prop where
  dn : us.Pairwise (fun a b => b.2.num < a.2.num)
  mem : ∀ z, z ∈ us ↔ z ∈ zs ∧ z.2.isDeed = false
  at_ : H fa = some (.dK (fks (ens zs) d k us))
theorem fks_get {es : List En} {d k : Int} {us : List (Addr × En)} (up : us.Pairwise (fun a b => b.2.num < a.2.num)) {z : Addr × En} (hz : z ∈ us) : valV (fks es d k us) (.inl z.2.num) = some (.bl (frc es d k z.2)) :=
  valV_map (f := fun z : Addr × En => z.2.num) (g := fun z : Addr × En => V.bl (frc es d k z.2)) (by
    rw [List.nodup_iff_pairwise_ne, List.pairwise_map]
    exact up.imp fun h => by omega) hz
section
variable {P : Program} {w : World} {K : PySem.W.Frag} {mg : Str → Option Value} {base : Heap} {T : List (Addr × Str)}
abbrev sIsOp : Stmt := topS 45
abbrev nIsOp : List Str := ["_law_entry", "_law_d", "_law_k"]
abbrev pIsOp : List Str := ["_law_entry", "_law_d", "_law_k"]
theorem scIsOp : FnScope nIsOp pIsOp (defScope sIsOp) := ⟨rfl, rfl, rfl, by decide +kernel, rfl, by decide +kernel, by decide +kernel⟩
def spIsOp : Sp := fun vs H Q _ => ∃ (a : Addr) (e : En) (d k : Int), vs = [.ref a, .int d, .int k] ∧ EntAt H a e ∧ Q (.bl (isOpen d k e)) H
theorem ok_IsOp {f : Addr} {fd : FuncData} {k : Nat} (F : Fun K "_law_is_open" "_law_is_open" sIsOp f fd) : FnOk P w K mg base CX0 (k + 1) f fd pIsOp spIsOp := by
  refine F.ok scIsOp (fun vs H Q E h => ?_) (fun cdv A outer s H vs Q E hr h => ?_)
  · obtain ⟨a, e, d, k, rfl, _⟩ := h
    rfl
  · obtain ⟨a, e, d, k, rfl, hE, q⟩ := h
    refine ⟨_, pss_one (ps_ret (pe_and (pe_cmpR op_le (pe_ix ix_tup (pv 0) pe_int (fun _ _ => rfl)) (pv 1) (nomark _)) (pe_one (pe_cmpR op_le (pe_ix ix_tup (pv 0) pe_int (fun _ _ => rfl)) (pv 2) (nomark _))))), ?_⟩
    obtain ⟨xs, ex, _, g1, g2, _⟩ := hE.tup
    refine ⟨_, rfl, a, xs, 1, _, rfl, rfl, SqT.of ex, g1, _, rfl, _, _, rfl, rfl, _, rfl, ?_⟩
    unfold isOpen at q
    refine ite2 (fun c => ?_) (fun c => ?_)
    · have c' : decide (e.day ≤ d) = true := c
      rw [c', Bool.true_and] at q
      exact ⟨_, rfl, a, xs, 2, _, rfl, rfl, SqT.of ex, g2, _, rfl, _, _, rfl, rfl, q⟩
    · have c' : decide (e.day ≤ d) = false := by
        have : ¬ decide (e.day ≤ d) = true := c
        simpa using this
      rw [c', Bool.false_and] at q
      exact q
abbrev sForces : Stmt := topS 46
abbrev nForces : List Str := ["_law_rows", "_law_d", "_law_k", "_law_found", "_law_number", "_law_entry", "_law_by", "_law_one"]
abbrev pForces : List Str := ["_law_rows", "_law_d", "_law_k"]
theorem scForces : FnScope nForces pForces (defScope sForces) := ⟨rfl, rfl, rfl, by decide +kernel, rfl, by decide +kernel, by decide +kernel⟩
def spForces : Sp := fun vs H Q _ => ∃ (ed : Addr) (n : Nat) (zs : List (Addr × En)) (d k : Int), vs = [.ref ed, .int d, .int k] ∧ EdAt H ed n zs ∧ ∀ fa us H', Same H H' → H fa = none → ForcesAt H' fa zs us d k → Q (.ref fa) H'
theorem ok_Forces {f : Addr} {fd : FuncData} {k : Nat} (F : Fun K "_law_forces" "_law_forces" sForces f fd) (C__law_is_open : CallOk P w K mg base k "_law_is_open" pIsOp spIsOp) (m_list : mg "list" = none) (m_sorted : mg "sorted" = none) : FnOk P w K mg base CX0 (k + 1) f fd pForces spForces := by
  refine F.ok scForces (fun vs H Q E h => ?_) (fun cdv A outer s H vs Q E hr h => ?_)
  · obtain ⟨ed, n, zs, d, k, rfl, _⟩ := h
    rfl
  · obtain ⟨ed, n, zs, d, kk, rfl, hE, q⟩ := h
    have nd := scForces.nd
    have hu := hu_of hr
    have hl16 := hE.len
    refine ⟨_, pss_cons (ps_set (i := 3) nd rfl (.inr rfl) pe_dnewK)
      (pss_cons (ps_for PassesOwn.never rfl (pi_list (pe_revL (pe_callB cr_sortedI (by rfl) m_sorted (by decide +kernel) (pa_cons (pe_callTy (call_list_dK rfl) (by rfl) m_list (by decide +kernel) (pa_cons (pv 0) pa_nil)) pa_nil)))) (pg_name (i := 4) nd rfl (.inr rfl))
        (pss_cons (ps_set (i := 5) nd rfl (.inl rfl) (pe_dget hu (pv 0) (pv 4) (fun _ _ => rfl)))
      (pss_one (ps_if (pt_cmpR op_ne (pe_ix ix_tup (pv 5) pe_int (fun _ _ => rfl)) pe_str (nomark _)) (pss_cons (ps_lock (ps_setLc (i := 6) (own := [("_law_one", 7)]) (g := gName 7) (by rfl) nd rfl rfl (sw_true rfl rfl rfl (by decide +kernel)) (pi_keys (pv 3)) (blkOk_by (own := [("_law_one", 7)]) (N := nForces) (sc := defScope sForces) (by decide +kernel)) (fun _ _ _ _ _ => (pg_name (i := 7) nd rfl (.inl rfl))) (fun _ _ _ _ _ => (pts_one (PW.pt (pw_and (pt_cmpR op_eq (pe_ix (ix_tupK (K := K) (by rfl)) (pe_dget hu (pv 0) (pv 7) (fun _ _ => rfl)) pe_int (fun _ _ => rfl)) pe_str (nomark _)) (pw_and (pt_cmpR op_eq (pe_ix (ix_tupK (K := K) (by rfl)) (pe_dget hu (pv 0) (pv 7) (fun _ _ => rfl)) pe_int (fun _ _ => rfl)) (pv 4) (nomark _)) (pw_and1 (pt_val (pe_dget hu (pv 3) (pv 7) (fun _ _ => rfl)))))))))
          (fun _ _ _ _ _ => (pv 7))))
      (pss_one (ps_dput hu (pv 3) (pv 4) (pe_and (pe_call C__law_is_open.ok hr (by rfl) C__law_is_open.g C__law_is_open.kp C__law_is_open.b .nil pass0 (pa_cons (pv 5) (pa_cons (pv 1) (pa_cons (pv 2) pa_nil)))) (pe_one (pe_cmpR (op_eqD hr.units) (pv 6) (pe_lst pa_nil) (nomark _)))) rfl))) pss_nil))))
      (pss_one (ps_ret (pv 3)))), ?_⟩
    refine fun fo nfo => ?_
    have s1 := same_new nfo (.dK [])
    have e1 : (upd H fo (.dK [])) fo = some (.dK []) := upd_same
    generalize (upd H fo (.dK [])) = H1 at s1 e1
    have hE1 := hE.same s1
    refine ⟨_, rfl, ed, dks zs, rfl, hE1.at_, fun l2 nl2 => ?_⟩
    have ek : (dks zs).map (fun kv => kV kv.1) = ((ens zs).map (·.num)).map V.int := by simp [dks, ens, kV, List.map_map, Function.comp_def]
    rw [ek]
    have s2 := same_new nl2 (.lst (((ens zs).map (·.num)).map V.int))
    have e2 : (upd H1 l2 (.lst (((ens zs).map (·.num)).map V.int))) l2 = some (.lst (((ens zs).map (·.num)).map V.int)) := upd_same
    generalize (upd H1 l2 (.lst (((ens zs).map (·.num)).map V.int))) = H2 at s2 e2
    refine ⟨l2, _, rfl, SqL.of e2, fun ns q3 pm up nq3 => ?_⟩
    have s3 := same_new nq3 (.lst (ns.map V.int))
    have e3 : (upd H2 q3 (.lst (ns.map V.int))) q3 = some (.lst (ns.map V.int)) := upd_same
    generalize (upd H2 q3 (.lst (ns.map V.int))) = H3 at s3 e3
    refine ⟨q3, _, rfl, SqL.of e3, fun rv nrv => ?_⟩
    have s4 := same_new nrv (.lst (ns.map V.int).reverse)
    have e4 : (upd H3 rv (.lst (ns.map V.int).reverse)) rv = some (.lst (ns.reverse.map V.int)) := by rw [upd_same, List.map_reverse]
    have nfr : fo ≠ rv := ne_of_none (s3 _ _ (s2 _ _ e1)) nrv
    generalize (upd H3 rv (.lst (ns.map V.int).reverse)) = H4 at s4 e4
    have s14 : Same H1 H4 := s2.trans (s3.trans s4)
    have s04 := s1.trans s14
    obtain ⟨zs2, hz2, pz⟩ := perm_pairs (fun z : Addr × En => z.2.num) (ys := ns.reverse) (xs := (ens zs).map (·.num)) ((List.reverse_perm ns).trans pm) zs (by simp [ens])
    have hdn : zs2.Pairwise (fun a b => b.2.num < a.2.num) := by
      have h1 : ns.reverse.Pairwise (fun a b => b ≤ a) := List.pairwise_reverse.mpr up
      have h2 : ns.reverse.Nodup := ((List.reverse_perm ns).trans pm).nodup_iff.mpr hE.ok.nd
      rw [hz2] at h1 h2
      rw [List.nodup_iff_pairwise_ne, List.pairwise_map] at h2
      rw [List.pairwise_map] at h1
      exact (h1.and h2).imp fun h => by
        have := h.1
        have := h.2
        omega
    have hl2 : zs2.length = zs.length := pz.length_eq
    rw [hz2] at e4
    refine ⟨rv, rfl, ⟨_, SqL.of e4⟩, ?_⟩
    refine for_list (K := K) (a := rv) (xs := (zs2.map fun z => z.2.num).map V.int) (fun i σ H' => ∃ y4 y5 y6 y7, σ = [some (.ref ed), some (.int d), some (.int kk), some (.ref fo), y4, y5, y6, y7] ∧ (∀ b o, b ≠ fo → H4 b = some o → H' b = some o) ∧ H' fo = some (.dK (fks (ens zs) d kk ((zs2.take i).filter fun z => !z.2.isDeed)))) ⟨_, _, _, _, rfl, fun _ _ _ h => h, s14 _ _ e1⟩ (fun i σ H' _ h => ?_) ?_ ?_
    · obtain ⟨_, _, _, _, _, hk, _⟩ := h
      exact SqL.of (hk _ _ nfr.symm e4)
    · rintro i x σ H5 hx ⟨y4, y5, y6, y7, rfl, k5, efo⟩
      rw [List.getElem?_map, List.getElem?_map] at hx
      cases hz : zs2[i]? with
      | none => rw [hz] at hx; cases hx
      | some z =>
        rw [hz] at hx
        injection hx with hx
        subst hx
        have hi : i < zs2.length := (List.getElem?_eq_some_iff.mp hz).1
        have hz2m := List.mem_of_getElem? hz
        have hzm : z ∈ zs := pz.mem_iff.mp hz2m
        have hez : z.2 ∈ ens zs := List.mem_map.mpr ⟨z, hzm, rfl⟩
        have kT : KpT H H5 := fun b xs e => k5 b _ (fun q => by rw [q, nfo] at e; cases e) (s04 _ _ e)
        have nef : ed ≠ fo := ne_of_none hE.at_ nfo
        have hE5 : EdAt H5 ed n zs := ⟨k5 _ _ nef (s14 _ _ hE1.at_), fun z hz => (hE.ent z hz).kp kT, hE.ok, hE.len⟩
        have hEz := hE5.ent z hzm
        obtain ⟨xs, ex, _, _, _, _, g4⟩ := hEz.tup
        have hwd := (hE.ok.ok z.2 hez).word
        have ht : zs2.take (i + 1) = zs2.take i ++ [z] := take_more hz
        refine ⟨_, rfl, _, rfl, ed, _, rfl, hE5.get hzm, ?_⟩
        refine ⟨_, rfl, z.1, _, _, _, rfl, rfl, SqT.of ex, g4, rfl, _, rfl, ?_⟩
        cases hdd : z.2.isDeed with
        | true =>
          rw [hwd.mpr hdd, decide_eq_true rfl]
          refine iteF ?_
          refine ⟨_, _, _, _, rfl, k5, ?_⟩
          rw [ht, List.filter_append]
          simpa [hdd] using efo
        | false =>
          rw [decide_eq_false (fun q => by
            injection q with q
            rw [hwd.mp q] at hdd
            cases hdd)]
          refine iteT ?_
          -- the undones in force among the greater ones
          generalize hus : ((zs2.take i).filter fun z => !z.2.isDeed) = us at efo
          have husm : ∀ u ∈ us, u ∈ zs ∧ u.2.isDeed = false := fun u hu => by
            rw [← hus] at hu
            obtain ⟨h1, h2⟩ := List.mem_filter.mp hu
            exact ⟨pz.mem_iff.mp ((List.take_sublist _ _).subset h1), by simpa using h2⟩
          have hup : us.Pairwise (fun a b => b.2.num < a.2.num) := by
            rw [← hus]
            exact (hdn.sublist (List.take_sublist _ _)).filter _
          have hul : us.length ≤ 16 := by
            rw [← hus]
            have h1 := List.length_filter_le (fun z : Addr × En => !z.2.isDeed) (zs2.take i)
            rw [List.length_take] at h1
            omega
          refine ⟨fo, _, efo, trivial, fun od => ?_⟩
          have hL : ∀ b0 o, b0 ≠ fo → H5 b0 = some o → (upd H5 fo (.frz od (.dK (fks (ens zs) d kk us)))) b0 = some o := fun b0 o nb e => by
            rw [upd_ne nb]
            exact e
          have hLe : (upd H5 fo (.frz od (.dK (fks (ens zs) d kk us)))) fo = some (.frz od (.dK (fks (ens zs) d kk us))) := upd_same
          generalize (upd H5 fo (.frz od (.dK (fks (ens zs) d kk us)))) = HL at hL hLe
          have kL : KpT H5 HL := fun b0 xs0 e0 => hL b0 _ (fun z => by rw [z, efo] at e0; cases e0) e0
          have eedL := hL _ _ nef hE5.at_
          refine ⟨_, rfl, fo, od, rfl, .inl ⟨_, hLe, fun D nD => ?_⟩⟩
          have nDf : fo ≠ D := ne_of_none hLe nD
          refine lc_sameV walk_keys us (fun u => isOn "undone" z.2.num u.2 && frc (ens zs) d kk u.2) (fun u => .int u.2.num) (by simp [fks]) (by omega) nD (fun H s => s _ _ hLe) ?_ ?_
          · rintro j u x H6' H6 hy s6 ⟨rfl, kk2, vv, hkv, rfl⟩ Q1 Q0 q1 q0
            rw [List.getElem?_map, hy] at hkv
            injection hkv with hkv
            injection hkv with hk1 hv1
            subst hk1
            have hum := List.mem_of_getElem? hy
            obtain ⟨huz, hua⟩ := husm u hum
            have dg : DGet H6 ed (.int u.2.num) (some (.ref u.1)) := by
              have h1 := DGet.k (k := Sum.inl u.2.num) (s6 _ _ eedL)
              rw [valV_dks hE.ok.nd huz] at h1
              exact h1
            have dg2 : DGet H6 fo (.int u.2.num) (some (.bl (frc (ens zs) d kk u.2))) := by
              have h1 : DGet H6 fo (kV (.inl u.2.num)) (valV (fks (ens zs) d kk us) (.inl u.2.num)) := .inl ⟨_, _, .inr ⟨od, s6 _ _ hLe⟩, rfl, rfl⟩
              rw [fks_get hup hum] at h1
              exact h1
            have hEu := ((hE5.ent u huz).kp kL).kp (Same.tup s6)
            obtain ⟨xs4, ex4, _, _, _, _, g44⟩ := hEu.tup
            obtain ⟨xs5, ex5, g5⟩ := hEu.five hua
            refine ⟨rfl, ?_⟩
            refine ⟨_, rfl, _, rfl, ed, _, rfl, dg, u.1, _, _, _, rfl, rfl, SqT.of ex4, g44, rfl, _, rfl, ?_⟩
            by_cases c1 : u.2.word = "undone"
            · rw [decide_eq_true (congrArg V.str c1)]
              refine iteT ?_
              refine ⟨_, rfl, _, rfl, ed, _, rfl, dg, u.1, _, _, _, rfl, rfl, SqT.of ex5, g5, _, rfl, rfl, _, rfl, ?_⟩
              by_cases c2 : u.2.of = z.2.num
              · rw [decide_eq_true (congrArg V.int c2)]
                refine iteT ?_
                have ho : isOn "undone" z.2.num u.2 = true := by
                  unfold isOn
                  rw [decide_eq_true c1, decide_eq_true c2]
                  rfl
                refine ⟨_, rfl, _, rfl, fo, _, rfl, dg2, _, rfl, ?_⟩
                refine ite2 (fun c3 => ?_) (fun c3 => ?_)
                · exact ⟨_, rfl, q1 (by rw [ho, c3]; rfl) _ (same_refl _)⟩
                · exact q0 (by rw [Bool.eq_false_iff.mpr c3, Bool.and_false]) _ (same_refl _)
              · rw [decide_eq_false (fun q => c2 (by injection q))]
                refine iteF ?_
                exact q0 (by unfold isOn; rw [decide_eq_false c2, Bool.and_false, Bool.false_and]) _ (same_refl _)
            · rw [decide_eq_false (fun q => c1 (by injection q))]
              refine iteF ?_
              exact q0 (by unfold isOn; rw [decide_eq_false c1, Bool.false_and, Bool.false_and]) _ (same_refl _)
          intro H6 s6 eD
          refine ⟨s6 _ _ hLe, ?_⟩
          have k6 : ∀ b o, b ≠ fo → H5 b = some o → (upd H6 fo (.dK (fks (ens zs) d kk us))) b = some o := fun b o nb e => by
            rw [upd_ne nb]
            exact s6 _ _ (hL _ _ nb e)
          have eD6 : (upd H6 fo (.dK (fks (ens zs) d kk us))) D = some (.lst ((us.filter fun u => isOn "undone" z.2.num u.2 && frc (ens zs) d kk u.2).map fun u => V.int u.2.num)) := by
            rw [upd_ne nDf.symm]
            exact eD
          have efo6 : (upd H6 fo (.dK (fks (ens zs) d kk us))) fo = some (.dK (fks (ens zs) d kk us)) := upd_same
          have k06 : ∀ b o, b ≠ fo → H4 b = some o → (upd H6 fo (.dK (fks (ens zs) d kk us))) b = some o := fun b o nb e => k6 b o nb (k5 b o nb e)
          generalize (upd H6 fo (.dK (fks (ens zs) d kk us))) = H7 at k6 eD6 efo6 k06
          have kT7 : KpT H5 H7 := fun b xs e => k6 b _ (fun q => by rw [q, efo] at e; cases e) e
          have hres : frc (ens zs) d kk z.2 = (isOpen d kk z.2 && (us.filter fun u => isOn "undone" z.2.num u.2 && frc (ens zs) d kk u.2).isEmpty) := by
            rw [frc_eq hE.ok d kk hez]
            congr 1
            rw [Bool.eq_iff_iff, List.isEmpty_iff, List.filter_eq_nil_iff, List.all_eq_true]
            constructor
            · intro h u hu
              have h9 := h u.2 (List.mem_map.mpr ⟨u, (husm u hu).1, rfl⟩)
              cases h1 : isOn "undone" z.2.num u.2 <;> cases h2 : frc (ens zs) d kk u.2 <;> simp [h1, h2] at h9 ⊢
            · intro h u hu
              cases ho : isOn "undone" z.2.num u with
              | false => rfl
              | true =>
                obtain ⟨a1, a2, a3⟩ := isOn_act (hE.ok.ok u hu) (by decide) ho
                have hlt := ((hE.ok.ok u hu).of_lt a1).1
                obtain ⟨v, hv, rfl⟩ := List.mem_map.mp hu
                have hvu : v ∈ us := by
                  rw [← hus, List.mem_filter]
                  refine ⟨?_, by rw [a1]; rfl⟩
                  obtain ⟨j, hj, ej⟩ := List.mem_iff_getElem.mp (pz.mem_iff.mpr hv)
                  refine List.mem_take_iff_getElem.mpr ⟨j, ?_, ej⟩
                  have hei : zs2[i] = z := (List.getElem?_eq_some_iff.mp hz).2
                  rcases Nat.lt_or_ge j i with h9 | h9
                  · omega
                  · exfalso
                    rcases Nat.eq_or_lt_of_le h9 with h8 | h8
                    · subst h8
                      rw [hei] at ej
                      rw [← ej] at hlt a3
                      omega
                    · have := List.pairwise_iff_getElem.mp hdn i j hi hj h8
                      rw [hei, ej] at this
                      omega
                have := h v hvu
                rw [ho, Bool.true_and] at this
                simpa using this
          have hnew : (Sum.inl z.2.num : Key) ∉ (fks (ens zs) d kk us).map (·.1) := fun hm => by
            obtain ⟨kv, hkv, ekv⟩ := List.mem_map.mp hm
            obtain ⟨u, hu, rfl⟩ := List.mem_map.mp hkv
            injection ekv with ekv
            have hu2 := hu
            rw [← hus] at hu2
            obtain ⟨h1, _⟩ := List.mem_filter.mp hu2
            obtain ⟨j, hj, ej⟩ := List.mem_take_iff_getElem.mp h1
            have hei : zs2[i] = z := (List.getElem?_eq_some_iff.mp hz).2
            have := List.pairwise_iff_getElem.mp hdn j i (by omega) hi (by omega)
            rw [hei, ej] at this
            omega
          have put : ∀ H8 : Hp, (∀ b o, H7 b = some o → H8 b = some o) → DPut H8 fo (.int z.2.num) (.bl (frc (ens zs) d kk z.2)) (upd H8 fo (.dK (putK (fks (ens zs) d kk us) (.inl z.2.num) (.bl (frc (ens zs) d kk z.2))))) := fun H8 k8 => DPut.k (k := Sum.inl z.2.num) (k8 _ _ efo6) (small1000 (by rw [List.length_map]; omega))
          have fin : ∀ H8 : Hp, (∀ b o, H7 b = some o → H8 b = some o) → (∀ b o, b ≠ fo → H4 b = some o → (upd H8 fo (.dK (putK (fks (ens zs) d kk us) (.inl z.2.num) (.bl (frc (ens zs) d kk z.2))))) b = some o) ∧ (upd H8 fo (.dK (putK (fks (ens zs) d kk us) (.inl z.2.num) (.bl (frc (ens zs) d kk z.2))))) fo = some (.dK (fks (ens zs) d kk ((zs2.take (i + 1)).filter fun z => !z.2.isDeed))) := fun H8 k8 => by
            refine ⟨fun b o nb e => ?_, ?_⟩
            · rw [upd_ne nb]
              exact k8 _ _ (k06 b o nb e)
            · rw [upd_same, putK_new hnew, ht, List.filter_append, hus]
              simp [hdd, fks]
          refine ⟨_, rfl, _, rfl, _, rfl, z.1, z.2, d, kk, rfl, hEz.kp kT7, _, rfl, ?_⟩
          refine ite2 (fun c => ?_) (fun c => ?_)
          · refine ⟨_, rfl, Nat.zero_le _, fun l9 nl9 => ?_⟩
            have s9 := same_new nl9 (.lst [])
            have e9 : (upd H7 l9 (.lst [])) l9 = some (.lst (([] : List Int).map V.int)) := upd_same
            generalize (upd H7 l9 (.lst [])) = H8 at s9 e9
            have eD8 : H8 D = some (.lst (((us.filter fun u => isOn "undone" z.2.num u.2 && frc (ens zs) d kk u.2).map fun u => u.2.num).map V.int)) := by
              rw [s9 _ _ eD6, List.map_map]
              rfl
            refine ⟨.list (((us.filter fun u => isOn "undone" z.2.num u.2 && frc (ens zs) d kk u.2).map fun u => u.2.num).map .int), .list (([] : List Int).map .int), .lst (SqL.of eD8) (dp_ints _), .lst (SqL.of e9) (dp_ints []), shaped_ints _, shaped_ints [], ?_⟩
            rw [eqv_ints]
            have hb : decide ((us.filter fun u => isOn "undone" z.2.num u.2 && frc (ens zs) d kk u.2).map (fun u => u.2.num) = []) = frc (ens zs) d kk z.2 := by
              rw [hres, c, Bool.true_and, Bool.eq_iff_iff, decide_eq_true_iff, List.isEmpty_iff, List.map_eq_nil_iff]
            rw [hb]
            obtain ⟨f1, f2⟩ := fin H8 s9
            exact ⟨_, rfl, _, rfl, fo, _, rfl, put H8 s9, _, _, _, _, rfl, f1, f2⟩
          · have hb : false = frc (ens zs) d kk z.2 := by rw [hres, Bool.eq_false_iff.mpr c, Bool.false_and]
            rw [hb]
            obtain ⟨f1, f2⟩ := fin H7 (fun _ _ e => e)
            exact ⟨_, rfl, _, rfl, fo, _, rfl, put H7 (fun _ _ e => e), _, _, _, _, rfl, f1, f2⟩
    · rintro σ H5 ⟨y4, y5, y6, y7, rfl, k5, efo⟩
      rw [show ((zs2.map fun z => z.2.num).map V.int).length = zs2.length by rw [List.length_map, List.length_map], List.take_length] at efo
      refine ⟨_, rfl, q fo (zs2.filter fun z => !z.2.isDeed) H5 (fun b o e => k5 b o (ne_of_none e nfo) (s04 _ _ e)) nfo ⟨hdn.filter _, fun x => ?_, efo⟩⟩
      rw [List.mem_filter, pz.mem_iff]
      simp
end
end Deed

namespace Deed
open PySem PySem.Spec PyProof.Rows L2 LamX
theorem putK_last {kvs : List (Key × V)} {k : Key} {v v' : V} (h : k ∉ kvs.map (·.1)) : putK (kvs ++ [(k, v)]) k v' = kvs ++ [(k, v')] := by
  unfold putK
  rw [if_pos (by simp), List.map_append]
  congr 1
  · refine (List.map_congr_left fun kv hkv => ?_).trans (List.map_id kvs)
    rw [if_neg (fun e => h (List.mem_map.mpr ⟨kv, hkv, e⟩))]
    rfl
  · simp
/-- what the words of acts in force tell -/
def actWds (es : List En) (d k m : Int) (us : List (Addr × En)) : List Str := (us.filter fun u => frc es d k u.2 && decide (u.2.of = m)).map fun u => u.2.word
theorem actWds_in {n : Nat} {zs us : List (Addr × En)} (hB : BkOk n (ens zs)) {d k m : Int} (hu : ∀ z, z ∈ us ↔ z ∈ zs ∧ z.2.isDeed = false) {x : Str} (hx : x ≠ "deed") : decide (x ∈ actWds (ens zs) d k m us) = anyF (ens zs) d k x m := by
  rw [Bool.eq_iff_iff, decide_eq_true_iff]
  unfold actWds anyF
  rw [List.mem_map, List.any_eq_true]
  constructor
  · rintro ⟨u, h, rfl⟩
    obtain ⟨h1, h2⟩ := List.mem_filter.mp h
    rw [Bool.and_eq_true] at h2
    refine ⟨u.2, List.mem_map.mpr ⟨u, ((hu u).mp h1).1, rfl⟩, ?_⟩
    unfold isOn
    rw [h2.1, h2.2]
    simp
  · rintro ⟨e, he, h⟩
    rw [Bool.and_eq_true] at h
    obtain ⟨a1, a2, a3⟩ := isOn_act (hB.ok e he) hx h.1
    obtain ⟨u, hu1, rfl⟩ := List.mem_map.mp he
    refine ⟨u, List.mem_filter.mpr ⟨(hu u).mpr ⟨hu1, a1⟩, ?_⟩, a2⟩
    rw [h.2, decide_eq_true a3]
    rfl
section
variable {P : Program} {w : World} {K : PySem.W.Frag} {mg : Str → Option Value} {base : Heap} {T : List (Addr × Str)}
abbrev sLStanding : Stmt := topS 47
abbrev nLStanding : List Str := ["_law_book_here", "_law_d", "_law_k", "_law_rows", "_law_force", "_law_found", "_law_number", "_law_entry", "_law_words", "_law_lost", "_law_one", "_law_rest"]
abbrev pLStanding : List Str := ["_law_book_here", "_law_d", "_law_k"]
theorem scLStanding : FnScope nLStanding pLStanding (defScope sLStanding) := ⟨rfl, rfl, rfl, by decide +kernel, rfl, by decide +kernel, by decide +kernel⟩
def spLStanding : Sp := fun vs H Q _ => ∃ (b fk t : Addr) (n : Nat) (age : Int) (zs : List (Addr × En)) (d k : Int), vs = [.ref b, .int d, .int k] ∧ BookAt H b fk t n age zs ∧ ∀ fo H', Same H H' → H fo = none → WdD H' fo zs d k → Q (.ref fo) H'
theorem ok_LStanding {f : Addr} {fd : FuncData} {k : Nat} (F : Fun K "_law_standing" "_law_standing" sLStanding f fd) (C__law_forces : CallOk P w K mg base k "_law_forces" pForces spForces) (m_dict : mg "dict" = none) (m_list : mg "list" = none) (m_sorted : mg "sorted" = none) : FnOk P w K mg base CX0 (k + 1) f fd pLStanding spLStanding := by
  refine F.ok scLStanding (fun vs H Q E h => ?_) (fun cdv A outer s H vs Q E hr h => ?_)
  · obtain ⟨b, fk, t, n, age, zs, d, k, rfl, _⟩ := h
    rfl
  · obtain ⟨b, fk, t, n, age, zs, d, kk, rfl, hB, q⟩ := h
    have nd := scLStanding.nd
    have hu := hu_of hr
    refine ⟨_, pss_cons (ps_set (i := 3) nd rfl (.inr rfl) (pe_callTy (call_dictP rfl) (by rfl) m_dict (by decide +kernel) (pa_cons (pe_lc (own := [("_law_entry", 7)]) (g := gName 7) (by rfl) nd (pi_tup (pe_ix ix_tup (pv 0) pe_int (fun _ _ => rfl))) (blkOk_by (own := [("_law_entry", 7)]) (N := nLStanding) (sc := defScope sLStanding) (by decide +kernel)) (fun _ _ _ _ _ => (pg_name (i := 7) nd rfl (.inl rfl))) (fun _ _ _ _ _ => pts_nil)
          (fun _ _ _ _ _ => (pe_tup (pa_cons (pe_ix (ix_tupK (K := K) (by rfl)) (pv 7) pe_int (fun _ _ => rfl)) (pa_cons (pv 7) pa_nil))))) pa_nil)))
      (pss_cons (ps_asg (pe_tup (pa_cons (pe_call C__law_forces.ok hr (by rfl) C__law_forces.g C__law_forces.kp C__law_forces.b .nil pass0 (pa_cons (pv 3) (pa_cons (pv 1) (pa_cons (pv 2) pa_nil)))) (pa_cons pe_dnewK pa_nil))) (pg_tup (by rfl) (pgs_cons (pg_name (i := 4) nd rfl (.inr rfl)) (pgs_cons (pg_name (i := 5) nd rfl (.inr rfl)) pgs_nil))))
      (pss_cons (ps_for PassesOwn.never rfl (pi_list (pe_callB cr_sortedI (by rfl) m_sorted (by decide +kernel) (pa_cons (pe_callTy (call_list_dK rfl) (by rfl) m_list (by decide +kernel) (pa_cons (pv 3) pa_nil)) pa_nil))) (pg_name (i := 6) nd rfl (.inr rfl))
        (pss_cons (ps_set (i := 7) nd rfl (.inl rfl) (pe_dget hu (pv 3) (pv 6) (fun _ _ => rfl)))
      (pss_one (ps_if (pt_cmpR op_eq (pe_ix ix_tup (pv 7) pe_int (fun _ _ => rfl)) pe_str (nomark _)) (pss_cons (ps_lock (ps_setLc (i := 8) (own := [("_law_one", 10)]) (g := gName 10) (by rfl) nd rfl rfl (sw_true rfl rfl rfl (by decide +kernel)) (pi_keys (pv 4)) (blkOk_by (own := [("_law_one", 10)]) (N := nLStanding) (sc := defScope sLStanding) (by decide +kernel)) (fun _ _ _ _ _ => (pg_name (i := 10) nd rfl (.inl rfl))) (fun _ _ _ _ _ => (pts_one (PW.pt (pw_and (pt_val (pe_dget hu (pv 4) (pv 10) (fun _ _ => rfl))) (pw_and1 (pt_cmpR op_eq (pe_ix (ix_tupK (K := K) (by rfl)) (pe_dget hu (pv 3) (pv 10) (fun _ _ => rfl)) pe_int (fun _ _ => rfl)) (pv 6) (nomark _)))))))
          (fun _ _ _ _ _ => (pe_ix (ix_tupK (K := K) (by rfl)) (pe_dget hu (pv 3) (pv 10) (fun _ _ => rfl)) pe_int (fun _ _ => rfl)))))
      (pss_cons (ps_setLc (i := 9) (own := [("_law_rest", 11)]) (g := gName 11) (by rfl) nd rfl rfl (sw_true rfl rfl rfl (by decide +kernel)) (pi_tup (pe_ix ix_tup (pv 7) pe_int (fun _ _ => rfl))) (blkOk_by (own := [("_law_rest", 11)]) (N := nLStanding) (sc := defScope sLStanding) (by decide +kernel)) (fun _ _ _ _ _ => (pg_name (i := 11) nd rfl (.inl rfl))) (fun _ _ _ _ _ => (pts_one (pt_cmpR (notIn_seqK (K := K) (by rfl)) (pe_dget hu (pv 5) (pv 11) (fun _ _ => rfl)) (pe_tup (pa_cons pe_str (pa_cons pe_str pa_nil))) (by rfl))))
          (fun _ _ _ _ _ => (pv 11)))
      (pss_cons (ps_dput hu (pv 5) (pv 6) pe_str rfl)
      (C8.pss_cut (ps_if (pt_cmpR op_in_seq pe_str (pv 8) (by rfl)) (pss_one (ps_dput hu (pv 5) (pv 6) pe_str rfl)) pss_nil)
      (C8.pss_cut (ps_if (pt_cmpR (op_neD hr.units) (pv 9) (pe_lst pa_nil) (nomark _)) (pss_one (ps_dput hu (pv 5) (pv 6) pe_str rfl)) pss_nil)
      (C8.pss_cut (ps_if (pt_cmpR op_in_seq pe_str (pv 8) (by rfl)) (pss_one (ps_dput hu (pv 5) (pv 6) pe_str rfl)) pss_nil)
      (C8.pss_cut (ps_if (pt_cmpR op_gt (pe_ix ix_tup (pv 7) pe_int (fun _ _ => rfl)) (pv 1) (nomark _)) (pss_one (ps_dput hu (pv 5) (pv 6) pe_str rfl)) pss_nil)
      (pss_one (ps_if (pt_cmpR op_gt (pe_ix ix_tup (pv 7) pe_int (fun _ _ => rfl)) (pv 2) (nomark _)) (pss_one (ps_dput hu (pv 5) (pv 6) pe_str rfl)) pss_nil))))))))) pss_nil))))
      (pss_one (ps_ret (pv 5))))), ?_⟩
    have len := hB.len
    refine ⟨_, rfl, b, _, 2, _, rfl, rfl, SqT.of hB.at_, atI_nat (j := 2) rfl, t, rfl, ⟨_, SqT.of hB.ents⟩, fun D nD => ?_⟩
    refine lc_tup (K := K) (a := t) (xs := refs zs) (fun i H' => ∃ ps : List Addr, H' D = some (.lst (ps.map V.ref)) ∧ Same H H' ∧ ps.length = i ∧ Paired (fun p (kv : Key × V) => H' p = some (.tup [kV kv.1, kv.2])) ps (dks (zs.take i))) ⟨[], upd_same, fun b o e => by rw [upd_ne (ne_of_none e nD)]; exact e, rfl, .nil⟩ (fun i H' _ h => ?_) ?_ ?_
    · obtain ⟨_, _, sm, _⟩ := h
      exact SqT.of (sm _ _ hB.ents)
    · rintro i x H' hx ⟨ps, eD, sm, hpl, hpr⟩
      obtain ⟨z, hz, rfl⟩ := ref_at hx
      have hzm : z ∈ zs := List.mem_of_getElem? hz
      have hi : i < zs.length := (List.getElem?_eq_some_iff.mp hz).1
      obtain ⟨xs, ex, g0, _⟩ := ((hB.ent z hzm).kp (Same.tup sm)).tup
      refine ⟨rfl, ?_⟩
      unfold tYes
      dsimp only
      rw [if_pos rfl]
      refine ⟨_, rfl, z.1, xs, 0, _, rfl, rfl, SqT.of ex, g0, _, rfl, (by show 2 ≤ sizeLine; decide), fun r nr => ?_⟩
      have nrD : D ≠ r := ne_of_none eD nr
      refine ⟨_, by rw [upd_ne nrD]; exact eD, small1000 (by rw [List.length_map]; omega), ps ++ [r], ?_, fun b o e => ?_, ?_, ?_⟩
      · rw [upd_same, List.map_append]
        rfl
      · rw [upd_ne (ne_of_none e nD), upd_ne (ne_of_none (sm _ _ e) nr)]
        exact sm _ _ e
      · rw [List.length_append, hpl]
        rfl
      · have e1 : dks (zs.take (i + 1)) = dks (zs.take i) ++ [(Sum.inl z.2.num, V.ref z.1)] := by
          rw [take_more hz]
          simp [dks]
        rw [e1]
        refine Paired.snoc (paired_mono hpr fun p kv hp => ?_) ?_
        · rw [upd_ne (fun z0 => by rw [z0, eD] at hp; cases hp), upd_ne (ne_of_none hp nr)]
          exact hp
        · rw [upd_ne nrD.symm, upd_same]
          rfl
    rintro H1 ⟨ps, eD, sm, hpl, hpr⟩
    have el : zs.take (refs zs).length = zs := List.take_of_length_le (by rw [List.length_map]; exact Nat.le_refl _)
    rw [el] at hpr
    refine ⟨D, ps, dks zs, rfl, SqL.of eD, paired_mono hpr fun p kv hp => SqT.of hp, fun ed ned => ?_⟩
    have s2 := same_new ned (.dK (mergeK [] (dks zs)))
    have e2 : mergeK [] (dks zs) = dks zs := mergeK_new (dks zs) [] (by rw [List.nil_append]; exact dks_nodup hB.ok.nd)
    have e3 : (upd H1 ed (.dK (mergeK [] (dks zs)))) ed = some (.dK (dks zs)) := by rw [upd_same, e2]
    have ned0 : H ed = none := sm.free ned
    generalize (upd H1 ed (.dK (mergeK [] (dks zs)))) = H2 at s2 e3
    have s02 := sm.trans s2
    have hE2 : EdAt H2 ed n zs := ⟨e3, fun z hz => (hB.ent z hz).kp (Same.tup s02), hB.ok, hB.len⟩
    refine ⟨_, rfl, _, rfl, _, rfl, ed, n, zs, d, kk, rfl, hE2, fun fa us H3 s3 nfa hF => fun fo nfo => ?_⟩
    have s40 := same_new nfo (.dK [])
    have efo40 : (upd H3 fo (.dK [])) fo = some (.dK []) := upd_same
    generalize (upd H3 fo (.dK [])) = H40 at s40 efo40
    refine ⟨(by show 2 ≤ sizeLine; decide), fun tp ntp => ?_⟩
    have s41 := same_new ntp (.tup [.ref fa, .ref fo])
    have etp : (upd H40 tp (.tup [.ref fa, .ref fo])) tp = some (.tup [.ref fa, .ref fo]) := upd_same
    generalize (upd H40 tp (.tup [.ref fa, .ref fo])) = H4 at s41 etp
    have s4 := s40.trans s41
    have efo4 := s41 _ _ efo40
    have s04 := s02.trans (s3.trans s4)
    have nfo0 : H fo = none := (s02.trans s3).free nfo
    have hE4 := hE2.same (s3.trans s4)
    have efa4 := s4 _ _ hF.at_
    have nfaf : fa ≠ fo := ne_of_none hF.at_ nfo
    have nedf : ed ≠ fo := ne_of_none (s3 _ _ e3) nfo
    refine ⟨tp, _, rfl, SqT.of etp, rfl, _, _, rfl, _, _, rfl, rfl, ?_⟩
    refine ⟨_, rfl, ed, dks zs, rfl, hE4.at_, fun l5 nl5 => ?_⟩
    have ek : (dks zs).map (fun kv => kV kv.1) = ((ens zs).map (·.num)).map V.int := by simp [dks, ens, kV, List.map_map, Function.comp_def]
    rw [ek]
    have s5 := same_new nl5 (.lst (((ens zs).map (·.num)).map V.int))
    have e5 : (upd H4 l5 (.lst (((ens zs).map (·.num)).map V.int))) l5 = some (.lst (((ens zs).map (·.num)).map V.int)) := upd_same
    generalize (upd H4 l5 (.lst (((ens zs).map (·.num)).map V.int))) = H5 at s5 e5
    refine ⟨l5, _, rfl, SqL.of e5, fun ns sl pm up nsl => ?_⟩
    have s6 := same_new nsl (.lst (ns.map V.int))
    have esl : (upd H5 sl (.lst (ns.map V.int))) sl = some (.lst (ns.map V.int)) := upd_same
    have nfs : sl ≠ fo := (ne_of_none (s5 _ _ efo4) nsl).symm
    generalize (upd H5 sl (.lst (ns.map V.int))) = H6 at s6 esl
    have s46 := s5.trans s6
    have s06 := s04.trans s46
    obtain ⟨zs2, rfl, pz⟩ := perm_pairs (fun z : Addr × En => z.2.num) (ys := ns) (xs := (ens zs).map (·.num)) pm zs (by simp [ens])
    have nd2 : (zs2.map fun z => z.2.num).Nodup := by
      have e : (ens zs).map (·.num) = zs.map (fun z => z.2.num) := by simp [ens]
      have := hB.ok.nd
      rw [e] at this
      exact (pz.map _).nodup_iff.mpr this
    have up2 : zs2.Pairwise (fun a b => a.2.num < b.2.num) := List.pairwise_map.mp (rising_of nd2 up)
    have l2 : zs2.length ≤ 16 := by rw [pz.length_eq]; exact len
    refine ⟨sl, rfl, ⟨_, SqL.of esl⟩, ?_⟩
    refine for_list (K := K) (a := sl) (xs := (zs2.map fun z => z.2.num).map V.int) (fun i σ H' => ∃ y6 y7 y8 y9 y10 y11, σ = [some (.ref b), some (.int d), some (.int kk), some (.ref ed), some (.ref fa), some (.ref fo), y6, y7, y8, y9, y10, y11] ∧ (∀ b o, b ≠ fo → H6 b = some o → H' b = some o) ∧ H' fo = some (.dK (wdE (ens zs) d kk (ens ((zs2.take i).filter fun z => z.2.isDeed))))) ⟨_, _, _, _, _, _, rfl, fun _ _ _ e => e, s46 _ _ efo4⟩ (fun i σ H' _ h => ?_) ?_ ?_
    · obtain ⟨_, _, _, _, _, _, _, hk, _⟩ := h
      exact SqL.of (hk _ _ nfs esl)
    · rintro i x σ H7 hx ⟨y6, y7, y8, y9, y10, y11, rfl, k7, ef⟩
      rw [List.getElem?_map, List.getElem?_map] at hx
      cases hz : zs2[i]? with
      | none => rw [hz] at hx; cases hx
      | some z =>
        rw [hz] at hx
        injection hx with hx
        subst hx
        have hzm2 := List.mem_of_getElem? hz
        have hzm : z ∈ zs := pz.mem_iff.mp hzm2
        have hez : z.2 ∈ ens zs := List.mem_map.mpr ⟨z, hzm, rfl⟩
        have hi : i < zs2.length := (List.getElem?_eq_some_iff.mp hz).1
        have kT0 : KpT H H7 := fun b xs e => k7 b _ (fun q => by rw [q, nfo0] at e; cases e) (s06 _ _ e)
        have hE7 : EdAt H7 ed n zs := ⟨k7 _ _ nedf (s46 _ _ hE4.at_), fun z hz => (hB.ent z hz).kp kT0, hB.ok, hB.len⟩
        have et := take_more hz
        have wd := (hB.ok.ok z.2 hez).word
        obtain ⟨xs, ex, g0, g1, g2, _, g4⟩ := (hE7.ent z hzm).tup
        refine ⟨_, rfl, _, rfl, ed, _, rfl, hE7.get hzm, ?_⟩
        refine ⟨_, rfl, z.1, xs, 4, _, rfl, rfl, SqT.of ex, g4, rfl, _, rfl, ?_⟩
        refine ite2 (fun c => ?_) (fun c => ?_)
        · have hd : z.2.isDeed = true := wd.mp (by
            have := of_decide_eq_true c
            injection this)
          generalize hpre : wdE (ens zs) d kk (ens ((zs2.take i).filter fun z => z.2.isDeed)) = pre at ef
          have hnew : (Sum.inl z.2.num : Key) ∉ pre.map (·.1) := fun hm => by
            rw [← hpre] at hm
            obtain ⟨kv, hkv, ekv⟩ := List.mem_map.mp hm
            obtain ⟨e', he', rfl⟩ := List.mem_map.mp hkv
            injection ekv with ekv
            obtain ⟨v, hv, rfl⟩ := List.mem_map.mp he'
            have := not_before up2 hz (List.mem_filter.mp hv).1
            omega
          have hlk : pre.length ≤ 16 := by
            have h1 := List.length_filter_le (fun z : Addr × En => z.2.isDeed) (zs2.take i)
            rw [List.length_take] at h1
            rw [← hpre, List.length_map, List.length_map]
            omega
          have eput : pre ++ [(Sum.inl z.2.num, V.str (st (ens zs) d kk z.2))] = wdE (ens zs) d kk (ens ((zs2.take (i + 1)).filter fun z => z.2.isDeed)) := by
            rw [et, List.filter_append, ← hpre]
            simp [wdE, ens, hd]
          have sq := st_eq hB.ok d kk hez
          unfold wordBy at sq
          -- words
          have efa7 := k7 _ _ nfaf (s46 _ _ efa4)
          have husl : us.length ≤ 16 := by
            have h1 : (us.map fun z => z.2.num).Nodup := by
              rw [List.nodup_iff_pairwise_ne, List.pairwise_map]
              exact hF.dn.imp fun h => by omega
            have h2 := nodup_len h1 (m := zs.map fun z => z.2.num) (fun x hx => by
              obtain ⟨u, hu, rfl⟩ := List.mem_map.mp hx
              exact List.mem_map.mpr ⟨u, ((hF.mem u).mp hu).1, rfl⟩)
            rw [List.length_map, List.length_map] at h2
            omega
          refine ⟨fa, _, efa7, trivial, fun od => ?_⟩
          have hL : ∀ b0 o, b0 ≠ fa → H7 b0 = some o → (upd H7 fa (.frz od (.dK (fks (ens zs) d kk us)))) b0 = some o := fun b0 o nb e => by
            rw [upd_ne nb]
            exact e
          have hLe : (upd H7 fa (.frz od (.dK (fks (ens zs) d kk us)))) fa = some (.frz od (.dK (fks (ens zs) d kk us))) := upd_same
          generalize (upd H7 fa (.frz od (.dK (fks (ens zs) d kk us)))) = HL at hL hLe
          have kL : KpT H7 HL := fun b0 xs0 e0 => hL b0 _ (fun z => by rw [z, efa7] at e0; cases e0) e0
          have nedfa : ed ≠ fa := fun q => by
            have h1 := hE7.at_
            rw [q, efa7] at h1
            have h2 : (dks zs) = fks (ens zs) d kk us := by
              injection h1 with h1
              injection h1 with h1
              exact h1.symm
            have h3 := ne_of_none e3 nfa
            exact h3 q
          have eedL := hL _ _ nedfa hE7.at_
          refine ⟨_, rfl, fa, od, rfl, .inl ⟨_, hLe, fun W nW => ?_⟩⟩
          have nWf : fa ≠ W := ne_of_none hLe nW
          refine lc_sameV walk_keys us (fun u => frc (ens zs) d kk u.2 && decide (u.2.of = z.2.num)) (fun u => .str u.2.word) (by simp [fks]) (by omega) nW (fun H s => s _ _ hLe) ?_ ?_
          · rintro j u x H8' H8 hy s8 ⟨rfl, kk2, vv, hkv, rfl⟩ Q1 Q0 q1 q0
            rw [List.getElem?_map, hy] at hkv
            injection hkv with hkv
            injection hkv with hk1 hv1
            subst hk1
            have hum := List.mem_of_getElem? hy
            obtain ⟨huz, hua⟩ := (hF.mem u).mp hum
            have dg : DGet H8 ed (.int u.2.num) (some (.ref u.1)) := by
              have h1 := DGet.k (k := Sum.inl u.2.num) (s8 _ _ eedL)
              rw [valV_dks hB.ok.nd huz] at h1
              exact h1
            have dg2 : DGet H8 fa (.int u.2.num) (some (.bl (frc (ens zs) d kk u.2))) := by
              have h1 : DGet H8 fa (kV (.inl u.2.num)) (valV (fks (ens zs) d kk us) (.inl u.2.num)) := .inl ⟨_, _, .inr ⟨od, s8 _ _ hLe⟩, rfl, rfl⟩
              rw [fks_get hF.dn hum] at h1
              exact h1
            have hEu := ((hE7.ent u huz).kp kL).kp (Same.tup s8)
            obtain ⟨xs4, ex4, _, _, _, _, g44⟩ := hEu.tup
            obtain ⟨xs5, ex5, g5⟩ := hEu.five hua
            refine ⟨rfl, ?_⟩
            refine ⟨_, rfl, _, rfl, fa, _, rfl, dg2, _, rfl, ?_⟩
            refine ite2 (fun c3 => ?_) (fun c3 => ?_)
            · refine ⟨_, rfl, _, rfl, ed, _, rfl, dg, u.1, _, _, _, rfl, rfl, SqT.of ex5, g5, _, rfl, rfl, _, rfl, ?_⟩
              by_cases c2 : u.2.of = z.2.num
              · rw [decide_eq_true (congrArg V.int c2)]
                refine iteT ?_
                refine ⟨_, rfl, _, rfl, ed, _, rfl, dg, u.1, _, _, _, rfl, rfl, SqT.of ex4, g44, ?_⟩
                exact q1 (by rw [c3, decide_eq_true c2]; rfl) _ (same_refl _)
              · rw [decide_eq_false (fun q => c2 (by injection q))]
                refine iteF ?_
                exact q0 (by rw [decide_eq_false c2, Bool.and_false]) _ (same_refl _)
            · exact q0 (by rw [Bool.eq_false_iff.mpr c3, Bool.false_and]) _ (same_refl _)
          intro H8 s8 eW
          refine ⟨s8 _ _ hLe, ?_⟩
          have k8 : ∀ b o, H7 b = some o → (upd H8 fa (.dK (fks (ens zs) d kk us))) b = some o := fun b o e => by
            by_cases nb : b = fa
            · rw [nb, upd_same, ← efa7, ← nb]
              exact e
            · rw [upd_ne nb]
              exact s8 _ _ (hL _ _ nb e)
          have eW8 : (upd H8 fa (.dK (fks (ens zs) d kk us))) W = some (.lst ((actWds (ens zs) d kk z.2.num us).map V.str)) := by
            rw [upd_ne nWf.symm, eW]
            unfold actWds
            rw [List.map_map]
            rfl
          have nWfo : W ≠ fo := fun q => by
            have := hL _ _ nfaf.symm ef
            rw [q] at nW
            rw [nW] at this
            cases this
          generalize (upd H8 fa (.dK (fks (ens zs) d kk us))) = H9 at k8 eW8
          have hE9 := hE7.same k8
          -- lost
          obtain ⟨xs7, r, ex7, g7, er⟩ := (hE9.ent z hzm).seven hd
          have hrl : z.2.rests.length ≤ 2 := by
            have h4 := (hB.ok.ok z.2 hez).2.2.2
            unfold En.rests
            cases hk : z.2.kd with
            | deed g t rs ws =>
              rw [hk] at h4
              exact h4.2.2.2.1
            | act x o => exact Nat.zero_le _
          refine ⟨_, rfl, z.1, xs7, 7, _, rfl, rfl, SqT.of ex7, g7, r, rfl, ⟨_, SqT.of er⟩, fun M nM => ?_⟩
          refine lc_sameV (walk_tup (xs := z.2.rests.map V.int)) z.2.rests (fun r => (ens zs).any fun u => isD r u && !carries (st (ens zs) d kk u)) V.int (by rw [List.length_map]) (by omega) nM (fun H s => SqT.of (s _ _ er)) ?_ ?_
          · rintro j m x H10 H10' hy s10 ⟨rfl, hx⟩ Q1 Q0 q1 q0
            rw [List.getElem?_map, hy] at hx
            injection hx with hx
            subst hx
            obtain ⟨h1, h2⟩ := (hB.ok.ok z.2 hez).rest m (List.mem_of_getElem? hy)
            obtain ⟨u, hu1, hu2, hu3⟩ := dn_at h1
            obtain ⟨v, hv, rfl⟩ := List.mem_map.mp hu1
            have hvb : v ∈ zs2.take i := mem_before up2 hz (pz.mem_iff.mpr hv) (by omega)
            have hvf : v.2 ∈ ens ((zs2.take i).filter fun z => z.2.isDeed) := List.mem_map.mpr ⟨v, List.mem_filter.mpr ⟨hvb, hu2⟩, rfl⟩
            have ndf : ((ens ((zs2.take i).filter fun z => z.2.isDeed)).map (fun e => e.num)).Nodup := by
              have e : (ens ((zs2.take i).filter fun z => z.2.isDeed)).map (fun e => e.num) = ((zs2.take i).filter fun z => z.2.isDeed).map (fun z => z.2.num) := by simp [ens]
              rw [e]
              exact ((List.filter_sublist.trans (List.take_sublist i zs2)).map _).nodup nd2
            have dg : DGet H10' fo (.int m) (some (.str (st (ens zs) d kk v.2))) := by
              have g1' := DGet.k (k := Sum.inl m) (s10 _ _ (k8 _ _ ef))
              rw [← hpre, ← hu3, valV_map (f := fun e : En => e.num) (g := fun e : En => V.str (st (ens zs) d kk e)) ndf hvf] at g1'
              rw [← hu3]
              exact g1'
            have lo := lost_one hB.ok d kk (r := m) hu1 hu2 hu3
            refine ⟨rfl, ?_⟩
            refine ⟨_, rfl, _, rfl, fo, _, rfl, dg, (by show 2 ≤ sizeLine; decide), fun tp ntp => ?_⟩
            have s11 := same_new ntp (.tup [.str "stands", .str "paid"])
            have etp : (upd H10' tp (.tup [.str "stands", .str "paid"])) tp = some (.tup [.str "stands", .str "paid"]) := upd_same
            generalize (upd H10' tp (.tup [.str "stands", .str "paid"])) = H11 at s11 etp
            have ei : inV (.str (st (ens zs) d kk v.2)) [.str "stands", .str "paid"] = carries (st (ens zs) d kk v.2) := mem_inS (ws := ["stands", "paid"])
            refine ⟨tp, _, rfl, .inr (SqT.of etp), rfl, rfl, _, rfl, ?_⟩
            rw [ei]
            cases hc : carries (st (ens zs) d kk v.2) with
            | false =>
              refine iteT ?_
              exact ⟨_, rfl, q1 (by rw [lo, hc]; rfl) _ s11⟩
            | true =>
              refine iteF ?_
              exact q0 (by rw [lo, hc]; rfl) _ s11
          intro H10 s10 eM
          have eM' : H10 M = some (.lst ((z.2.rests.filter fun r => (ens zs).any fun u => isD r u && !carries (st (ens zs) d kk u)).map V.int)) := eM
          have nMfo : M ≠ fo := (ne_of_none (k8 _ _ ef) nM).symm
          have k10 : ∀ b o, H7 b = some o → H10 b = some o := fun b o e => s10 _ _ (k8 _ _ e)
          have eW10 := s10 _ _ eW8
          generalize hls : (z.2.rests.filter fun r => (ens zs).any fun u => isD r u && !carries (st (ens zs) d kk u)) = ls at eM'
          have hlost : (!decide (ls = [])) = (z.2.rests.any fun r => (ens zs).any fun u => isD r u && !carries (st (ens zs) d kk u)) := by
            rw [← hls, Bool.eq_iff_iff, List.any_eq_true, Bool.not_eq_true', decide_eq_false_iff_not, List.filter_eq_nil_iff]
            constructor
            · intro h
              refine Classical.byContradiction fun h9 => h fun a ha ha2 => h9 ⟨a, ha, ha2⟩
            · rintro ⟨a, ha, ha2⟩ h
              exact h a ha ha2
          rw [← hlost] at sq
          have efo10 := k10 _ _ ef
          -- the first word, then what lies over it
          refine ⟨_, rfl, _, rfl, fo, _, rfl, DPut.k (k := Sum.inl z.2.num) efo10 (small1000 (by omega)), ?_⟩
          rw [putK_new hnew]
          let Wd : Str → Hp → Prop := fun x H' => (∀ b o, b ≠ fo → H10 b = some o → H' b = some o) ∧ H' fo = some (.dK (pre ++ [(Sum.inl z.2.num, V.str x)]))
          have w0 : Wd "stands" (upd H10 fo (.dK (pre ++ [(Sum.inl z.2.num, V.str "stands")]))) := ⟨fun b o nb e => by rw [upd_ne nb]; exact e, upd_same⟩
          have wput : ∀ (x y : Str) (H' : Hp), Wd x H' → ∃ H'', DPut H' fo (.int z.2.num) (.str y) H'' ∧ Wd y H'' := fun x y H' hw => by
            refine ⟨_, DPut.k (k := Sum.inl z.2.num) hw.2 (small1000 (by rw [List.length_append]; show pre.length + 1 ≤ 1000; omega)), fun b o nb e => ?_, ?_⟩
            · rw [upd_ne nb]
              exact hw.1 b o nb e
            · rw [upd_same, putK_last hnew]
          have wsame : ∀ (x : Str) (H' H'' : Hp), Wd x H' → Same H' H'' → Wd x H'' := fun x H' H'' hw s => ⟨fun b o nb e => s _ _ (hw.1 b o nb e), s _ _ hw.2⟩
          generalize (upd H10 fo (.dK (pre ++ [(Sum.inl z.2.num, V.str "stands")]))) = H11 at w0
          have hE10 := hE7.same k10
          have ent : ∀ (x : Str) (H' : Hp), Wd x H' → EntAt H' z.1 z.2 := fun x H' hw => (hE10.ent z hzm).kp fun b xs e => hw.1 b _ (fun q => by rw [q, efo10] at e; cases e) e
          have pw : ∀ y : Str, y ≠ "deed" → inV (.str y) ((actWds (ens zs) d kk z.2.num us).map V.str) = anyF (ens zs) d kk y z.2.num := fun y hy => by rw [mem_inS, actWds_in hB.ok hF.mem hy]
          -- paid
          obtain ⟨x1, hx1⟩ : ∃ x1, x1 = if anyF (ens zs) d kk "paid" z.2.num = true then ("paid" : Str) else "stands" := ⟨_, rfl⟩
          refine ⟨fun σ' H' => σ' = [some (.ref b), some (.int d), some (.int kk), some (.ref ed), some (.ref fa), some (.ref fo), some (.int z.2.num), some (.ref z.1), some (.ref W), some (.ref M), y10, y11] ∧ Wd x1 H', ⟨_, rfl, W, _, rfl, .inl (SqL.of (w0.1 _ _ nWfo eW10)), rfl, flat_strs _, _, rfl, ?_⟩, ?_⟩
          · rw [pw "paid" (by decide)]
            refine ite2 (fun c => ?_) (fun c => ?_)
            · have c' : anyF (ens zs) d kk "paid" z.2.num = true := c
              rw [if_pos c'] at hx1
              obtain ⟨H'', hp, hw⟩ := wput _ "paid" _ w0
              exact ⟨_, rfl, _, rfl, fo, H'', rfl, hp, rfl, hx1 ▸ hw⟩
            · have c' : ¬ anyF (ens zs) d kk "paid" z.2.num = true := c
              rw [if_neg c'] at hx1
              exact ⟨rfl, hx1 ▸ w0⟩
          rintro _ H12 ⟨rfl, w1⟩
          rw [← hx1] at sq
          obtain ⟨x2, hx2⟩ : ∃ x2, x2 = if (!decide (ls = [])) = true then ("fallen" : Str) else x1 := ⟨_, rfl⟩
          refine ⟨fun σ' H' => σ' = [some (.ref b), some (.int d), some (.int kk), some (.ref ed), some (.ref fa), some (.ref fo), some (.int z.2.num), some (.ref z.1), some (.ref W), some (.ref M), y10, y11] ∧ Wd x2 H', ⟨_, rfl, Nat.zero_le _, fun g ng => ?_⟩, ?_⟩
          · have sg := same_new ng (.lst [])
            have eg : (upd H12 g (.lst [])) g = some (.lst []) := upd_same
            generalize (upd H12 g (.lst [])) = H13 at sg eg
            have w2 := wsame _ _ _ w1 sg
            refine ⟨.list (ls.map .int), .list (([] : List Int).map .int), .lst (SqL.of (w2.1 _ _ nMfo eM')) (dp_ints ls), .lst (SqL.of eg) (dp_ints []), shaped_ints ls, shaped_ints [], _, rfl, ?_⟩
            rw [eqv_ints]
            refine ite2 (fun c => ?_) (fun c => ?_)
            · rw [if_pos c] at hx2
              obtain ⟨H'', hp, hw⟩ := wput _ "fallen" _ w2
              exact ⟨_, rfl, _, rfl, fo, H'', rfl, hp, rfl, hx2 ▸ hw⟩
            · rw [if_neg c] at hx2
              exact ⟨rfl, hx2 ▸ w2⟩
          rintro _ H14 ⟨rfl, w3⟩
          rw [← hx2] at sq
          obtain ⟨x3, hx3⟩ : ∃ x3, x3 = if anyF (ens zs) d kk "void" z.2.num = true then ("void" : Str) else x2 := ⟨_, rfl⟩
          refine ⟨fun σ' H' => σ' = [some (.ref b), some (.int d), some (.int kk), some (.ref ed), some (.ref fa), some (.ref fo), some (.int z.2.num), some (.ref z.1), some (.ref W), some (.ref M), y10, y11] ∧ Wd x3 H', ⟨_, rfl, W, _, rfl, .inl (SqL.of (w3.1 _ _ nWfo eW10)), rfl, flat_strs _, _, rfl, ?_⟩, ?_⟩
          · rw [pw "void" (by decide)]
            refine ite2 (fun c => ?_) (fun c => ?_)
            · have c' : anyF (ens zs) d kk "void" z.2.num = true := c
              rw [if_pos c'] at hx3
              obtain ⟨H'', hp, hw⟩ := wput _ "void" _ w3
              exact ⟨_, rfl, _, rfl, fo, H'', rfl, hp, rfl, hx3 ▸ hw⟩
            · have c' : ¬ anyF (ens zs) d kk "void" z.2.num = true := c
              rw [if_neg c'] at hx3
              exact ⟨rfl, hx3 ▸ w3⟩
          rintro _ H15 ⟨rfl, w4⟩
          rw [← hx3] at sq
          obtain ⟨x4, hx4⟩ : ∃ x4, x4 = if d < z.2.day then ("ahead" : Str) else x3 := ⟨_, rfl⟩
          obtain ⟨xs6, ex6, _, h61, _⟩ := (ent _ _ w4).tup
          refine ⟨fun σ' H' => σ' = [some (.ref b), some (.int d), some (.int kk), some (.ref ed), some (.ref fa), some (.ref fo), some (.int z.2.num), some (.ref z.1), some (.ref W), some (.ref M), y10, y11] ∧ Wd x4 H', ⟨_, rfl, z.1, xs6, 1, _, rfl, rfl, SqT.of ex6, h61, _, rfl, _, _, rfl, rfl, _, rfl, ?_⟩, ?_⟩
          · refine ite2 (fun c => ?_) (fun c => ?_)
            · have c' : d < z.2.day := of_decide_eq_true c
              rw [if_pos c'] at hx4
              obtain ⟨H'', hp, hw⟩ := wput _ "ahead" _ w4
              exact ⟨_, rfl, _, rfl, fo, H'', rfl, hp, rfl, hx4 ▸ hw⟩
            · have c' : ¬ d < z.2.day := fun q0 => c (decide_eq_true q0)
              rw [if_neg c'] at hx4
              exact ⟨rfl, hx4 ▸ w4⟩
          rintro _ H16 ⟨rfl, w5⟩
          rw [← hx4] at sq
          obtain ⟨xs8, ex8, _, _, h82, _⟩ := (ent _ _ w5).tup
          have fin : ∀ H', Wd (st (ens zs) d kk z.2) H' → (∀ b o, b ≠ fo → H6 b = some o → H' b = some o) ∧ H' fo = some (.dK (wdE (ens zs) d kk (ens ((zs2.take (i + 1)).filter fun z => z.2.isDeed)))) := fun H' hw => ⟨fun b o nb e => hw.1 b o nb (k10 _ _ (k7 b o nb e)), by rw [hw.2, eput]⟩
          refine ⟨_, rfl, z.1, xs8, 2, _, rfl, rfl, SqT.of ex8, h82, _, rfl, _, _, rfl, rfl, _, rfl, ?_⟩
          refine ite2 (fun c => ?_) (fun c => ?_)
          · have c' : kk < z.2.wri := of_decide_eq_true c
            rw [if_pos c'] at sq
            obtain ⟨H'', hp, hw⟩ := wput _ "unknown" _ w5
            rw [← sq] at hw
            obtain ⟨f1, f2⟩ := fin _ hw
            exact ⟨_, rfl, _, rfl, fo, H'', rfl, hp, _, _, _, _, _, _, rfl, f1, f2⟩
          · have c' : ¬ kk < z.2.wri := fun q0 => c (decide_eq_true q0)
            rw [if_neg c'] at sq
            rw [← sq] at w5
            obtain ⟨f1, f2⟩ := fin _ w5
            exact ⟨_, _, _, _, _, _, rfl, f1, f2⟩
        · have hd : z.2.isDeed = false := by
            cases hh : z.2.isDeed with
            | false => rfl
            | true =>
              refine absurd (decide_eq_true ?_) c
              rw [wd.mpr hh]
          refine ⟨_, _, _, _, _, _, rfl, k7, ?_⟩
          rw [ef, et, List.filter_append]
          simp [hd]
    · rintro σ H7 ⟨y6, y7, y8, y9, y10, y11, rfl, k7, ef⟩
      rw [show ((zs2.map fun z => z.2.num).map V.int).length = zs2.length by rw [List.length_map, List.length_map], List.take_length] at ef
      exact ⟨_, rfl, q fo H7 (fun b o e => k7 b o (ne_of_none e nfo0) (s06 _ _ e)) nfo0 ⟨_, deedsUp_of len pz up2, ef⟩⟩
end
end Deed

namespace Deed
open PySem PySem.Spec PyProof.Rows L2 LamX
/-! tuples put together and cut, whatever they are: what follows is shown once -/
theorem catA_same {K : PySem.W.Frag} {H : Hp} {a b : Addr} {xs ys : List V} {Q : VK} (ha : H a = some (.tup xs)) (hb : H b = some (.tup ys)) (hl : xs.length + ys.length ≤ 1000) (q : ∀ t H', Same H H' → H' t = some (.tup (xs ++ ys)) → Q (.ref t) H') : rCatA K (.ref a) (.ref b) H Q := by
  refine ⟨a, b, xs, ys, rfl, rfl, SqT.of ha, SqT.of hb, Nat.le_of_lt (small1000 hl), fun e => ?_, fun _ e => ?_, fun _ _ p np => q p _ (same_new np _) upd_same⟩
  · subst e
    exact q b H (same_refl _) hb
  · subst e
    exact q a H (same_refl _) (by rw [List.append_nil]; exact ha)
theorem slA_same {K : PySem.W.Frag} {H : Hp} {a : Addr} {xs : List V} {lo hi : Option Int} {Q : VK} (ha : H a = some (.tup xs)) (q : ∀ t H', Same H H' → H' t = some (.tup (cutV xs lo hi)) → Q (.ref t) H') : rSlA K (.ref a) lo hi H Q := by
  refine ⟨a, xs, rfl, SqT.of ha, fun e => ?_, fun _ p np => q p _ (same_new np _) upd_same⟩
  refine q a H (same_refl _) ?_
  rw [ha]
  unfold cutV
  rw [e.1, e.2, List.drop_zero, Nat.sub_zero, List.take_length]
end Deed

namespace Deed
open PySem PySem.Spec PyProof.Rows L2 LamX
section
variable {P : Program} {w : World} {K : PySem.W.Frag} {mg : Str → Option Value} {base : Heap} {T : List (Addr × Str)}
abbrev sLDays2 : Stmt := topS 48
abbrev nLDays2 : List Str := ["_law_book_here", "_law_other_here", "_law_entry"]
abbrev pLDays2 : List Str := ["_law_book_here", "_law_other_here"]
theorem scLDays2 : FnScope nLDays2 pLDays2 (defScope sLDays2) := ⟨rfl, rfl, rfl, by decide +kernel, rfl, by decide +kernel, by decide +kernel⟩
def spLDays2 : Sp := fun vs H Q _ => ∃ (b fk t b' fk' t' : Addr) (n n' : Nat) (age age' : Int) (zs zs' : List (Addr × En)), vs = [.ref b, .ref b'] ∧ BookAt H b fk t n age zs ∧ BookAt H b' fk' t' n' age' zs' ∧
  ∀ (p : Addr) (D : List Int) (H' : Hp), Same H H' → H p = none → Days2 (ens zs) (ens zs') D → D.length ≤ 33 → H' p = some (.lst (D.map V.int)) → Q (.ref p) H'
theorem ok_LDays2 {f : Addr} {fd : FuncData} {k : Nat} (F : Fun K "_law_days" "_law_days" sLDays2 f fd) (m_set : mg "set" = none) (m_sorted : mg "sorted" = none) : FnOk P w K mg base CX0 (k + 1) f fd pLDays2 spLDays2 := by
  refine F.ok scLDays2 (fun vs H Q E h => ?_) (fun cdv A outer s H vs Q E hr h => ?_)
  · obtain ⟨b, fk, t, b', fk', t', n, n', age, age', zs, zs', rfl, _⟩ := h
    rfl
  · obtain ⟨b, fk, t, b', fk', t', n, n', age, age', zs, zs', rfl, hB, hB', q⟩ := h
    have nd := scLDays2.nd
    have hu := hu_of hr
    refine ⟨_, pss_one (ps_ret (pe_callB (show CallR _ (.builtin "sorted") (rSortedSet w) from cr_sortedSet rfl) (by rfl) m_sorted (by decide +kernel) (pa_cons (pe_callTy (show CallR _ (.type "set") (rSetL K w) from cr_setL rfl) (by rfl) m_set (by decide +kernel) (pa_cons (pe_op op_cat (pe_lst (pa_cons pe_int pa_nil)) (pe_lc (own := [("_law_entry", 2)]) (g := gName 2) (by rfl) nd (pi_tup (pe_op op_catA (pe_ix ix_tup (pv 0) pe_int (fun _ _ => rfl)) (pe_ix ix_tup (pv 1) pe_int (fun _ _ => rfl)))) (blkOk_by (own := [("_law_entry", 2)]) (N := nLDays2) (sc := defScope sLDays2) (by decide +kernel)) (fun _ _ _ _ _ => (pg_name (i := 2) nd rfl (.inl rfl))) (fun _ _ _ _ _ => pts_nil)
          (fun _ _ _ _ _ => (pe_ix (ix_tupK (K := K) (by rfl)) (pv 2) pe_int (fun _ _ => rfl))))) pa_nil)) pa_nil))), ?_⟩
    have len := hB.len
    have len' := hB'.len
    refine ⟨(by show 1 ≤ sizeLine; decide), fun l1 nl1 => ?_⟩
    have s1 := same_new nl1 (.lst [.int 0])
    have e1 : (upd H l1 (.lst [.int 0])) l1 = some (.lst (([0] : List Int).map V.int)) := upd_same
    generalize (upd H l1 (.lst [.int 0])) = H1 at s1 e1
    have hB1 := hB.kp (Same.tup s1)
    have hB1' := hB'.kp (Same.tup s1)
    refine ⟨_, rfl, b, _, 2, _, rfl, rfl, SqT.of hB1.at_, atI_nat (j := 2) rfl, _, rfl, b', _, 2, _, rfl, rfl, SqT.of hB1'.at_, atI_nat (j := 2) rfl, ?_⟩
    have ln : ((refs zs)).length + (refs zs').length ≤ 1000 := by
      rw [List.length_map, List.length_map]
      omega
    refine catA_same hB1.ents hB1'.ents ln fun t2 H2 s2 e2 => ?_
    have er : refs zs ++ refs zs' = refs (zs ++ zs') := (List.map_append).symm
    rw [er] at e2
    refine ⟨t2, rfl, ⟨_, SqT.of e2⟩, fun M3 nM3 => ?_⟩
    refine lc_sameM (walk_tup (xs := refs (zs ++ zs'))) (zs ++ zs') (fun z => .int z.2.day) (by rw [List.length_map]) (by rw [List.length_append]; omega) nM3 (fun H s => SqT.of (s _ _ e2)) ?_ ?_
    · rintro i z x H3 H3' hy s3 ⟨rfl, hx⟩ Q1 q1
      rw [List.getElem?_map, hy] at hx
      injection hx with hx
      subst hx
      have s03 : Same H H3' := s1.trans (s2.trans s3)
      have hE : EntAt H3' z.1 z.2 := by
        rcases List.mem_append.mp (List.mem_of_getElem? hy) with h | h
        · exact (hB.ent z h).kp (Same.tup s03)
        · exact (hB'.ent z h).kp (Same.tup s03)
      obtain ⟨xs, ex, _, g1, _⟩ := hE.tup
      refine ⟨rfl, ?_⟩
      exact ⟨_, rfl, z.1, xs, 1, _, rfl, rfl, SqT.of ex, g1, q1 _ (same_refl _)⟩
    intro H3 s3 eM
    have eM' : H3 M3 = some (.lst (((zs ++ zs').map fun z : Addr × En => z.2.day).map V.int)) := by rw [eM, List.map_map]; rfl
    have hl4 : ([0] ++ ((zs ++ zs').map fun z : Addr × En => z.2.day)).length ≤ 33 := by
      rw [List.length_append, List.length_map, List.length_append]
      show 1 + _ ≤ 33
      omega
    refine ⟨l1, M3, _, _, rfl, rfl, s3 _ _ (s2 _ _ e1), eM', ?_, fun q4 nq4 => ?_⟩
    · rw [List.length_map, List.length_map, ← List.length_append]
      exact Nat.le_of_lt (small1000 (by omega))
    rw [← List.map_append]
    have s4 := same_new nq4 (.lst (([0] ++ ((zs ++ zs').map fun z : Addr × En => z.2.day)).map V.int))
    have e4 : (upd H3 q4 (.lst (([0] ++ ((zs ++ zs').map fun z : Addr × En => z.2.day)).map V.int))) q4 = some (.lst (([0] ++ ((zs ++ zs').map fun z : Addr × En => z.2.day)).map V.int)) := upd_same
    generalize (upd H3 q4 (.lst (([0] ++ ((zs ++ zs').map fun z : Addr × En => z.2.day)).map V.int))) = H4 at s4 e4
    have hmem : ∀ x, x ∈ [0] ++ ((zs ++ zs').map fun z : Addr × En => z.2.day) ↔ x = 0 ∨ (∃ e ∈ ens zs, e.day = x) ∨ ∃ e ∈ ens zs', e.day = x := fun x => by
      simp only [List.mem_append, List.mem_singleton, List.map_append, List.mem_map, ens]
      constructor
      · rintro (h | ⟨z, hz, rfl⟩ | ⟨z, hz, rfl⟩)
        · exact .inl h
        · exact .inr (.inl ⟨_, ⟨z, hz, rfl⟩, rfl⟩)
        · exact .inr (.inr ⟨_, ⟨z, hz, rfl⟩, rfl⟩)
      · rintro (h | ⟨_, ⟨z, hz, rfl⟩, rfl⟩ | ⟨_, ⟨z, hz, rfl⟩, rfl⟩)
        · exact .inl h
        · exact .inr (.inl ⟨z, hz, rfl⟩)
        · exact .inr (.inr ⟨z, hz, rfl⟩)
    generalize ([0] ++ ((zs ++ zs').map fun z : Addr × En => z.2.day)) = L at hl4 e4 hmem
    refine ⟨q4, L, rfl, SqL.of e4, by unfold scanBound; omega, fun q5 c nq5 hc => ?_⟩
    have s5 := same_new nq5 (SetO w q5 (fun j => decide (j ∈ L)) c)
    have e5 : (upd H4 q5 (SetO w q5 (fun j => decide (j ∈ L)) c)) q5 = some (SetO w q5 (fun j => decide (j ∈ L)) c) := upd_same
    generalize (upd H4 q5 (SetO w q5 (fun j => decide (j ∈ L)) c)) = H5 at s5 e5
    refine ⟨q5, _, c, rfl, e5, by omega, fun D pD up mem lenD npD => ?_⟩
    have s6 := same_new npD (.lst (D.map V.int))
    have e6 : (upd H5 pD (.lst (D.map V.int))) pD = some (.lst (D.map V.int)) := upd_same
    generalize (upd H5 pD (.lst (D.map V.int))) = H6 at s6 e6
    have s05 : Same H H5 := s1.trans (s2.trans (s3.trans (s4.trans s5)))
    exact q pD D H6 (s05.trans s6) (s05.free npD) ⟨up, fun x => by rw [mem x, decide_eq_true_iff, hmem]⟩ (by omega) e6
end
end Deed

namespace Deed
open PySem PySem.Spec PyProof.Rows L2 LamX
/-- (day, what the one's deeds are, what the other's are), for each day -/
abbrev R3 := Int × Addr × Addr
def Rows3 (H : Hp) (M : Addr) (zs zs' : List (Addr × En)) (k : Int) (D : List Int) : Prop := ∃ as : List (Addr × R3), H M = some (.lst (as.map fun a => V.ref a.1)) ∧ as.map (fun a => a.2.1) = D ∧ ∀ a ∈ as, H a.1 = some (.tup [.int a.2.1, .ref a.2.2.1, .ref a.2.2.2]) ∧ WdD H a.2.2.1 zs a.2.1 k ∧ WdD H a.2.2.2 zs' a.2.1 k
theorem WdD.same {H H' : Hp} {a : Addr} {zs : List (Addr × En)} {d k : Int} (h : WdD H a zs d k) (s : Same H H') : WdD H' a zs d k := by
  obtain ⟨us, h1, h2⟩ := h
  exact ⟨us, h1, s _ _ h2⟩
theorem WdD.put {H : Hp} {a M : Addr} {zs : List (Addr × En)} {d k : Int} {xs : List V} {o : HO} (h : WdD H a zs d k) (e : H M = some (.lst xs)) : WdD (upd H M o) a zs d k := by
  obtain ⟨us, h1, h2⟩ := h
  exact ⟨us, h1, by rw [upd_ne fun q => by rw [q, e] at h2; cases h2]; exact h2⟩
theorem T4At.same {H H' : Hp} {p : Addr} {rs : List Row4} (h : T4At H p rs) (s : Same H H') : T4At H' p rs := by
  obtain ⟨zs, h1, h2, h3⟩ := h
  exact ⟨zs, s _ _ h1, h2, fun z hz => s _ _ (h3 z hz)⟩
theorem find_head {α : Type} {p : α → Bool} : ∀ l : List α, (l.filter p).take 1 = match l.find? p with
    | some x => [x]
    | none => []
  | [] => rfl
  | x :: r => by
    rw [List.filter_cons, List.find?_cons]
    cases h : p x with
    | true => rfl
    | false => exact find_head r
section
variable {P : Program} {w : World} {K : PySem.W.Frag} {mg : Str → Option Value} {base : Heap} {T : List (Addr × Str)}
abbrev sLParting : Stmt := topS 49
abbrev nLParting : List Str := ["_law_book_here", "_law_other_here", "_law_k", "_law_found", "_law_rows", "_law_deed_here", "_law_some", "_law_day_here", "_law_mine", "_law_its"]
abbrev pLParting : List Str := ["_law_book_here", "_law_other_here", "_law_k"]
theorem scLParting : FnScope nLParting pLParting (defScope sLParting) := ⟨rfl, rfl, rfl, by decide +kernel, rfl, by decide +kernel, by decide +kernel⟩
def spLParting : Sp := fun vs H Q _ => ∃ (b fk t b' fk' t' : Addr) (n n' : Nat) (age age' : Int) (zs zs' : List (Addr × En)) (k : Int), vs = [.ref b, .ref b', .int k] ∧ BookAt H b fk t n age zs ∧ BookAt H b' fk' t' n' age' zs' ∧
  ∀ (p : Addr) (D ns : List Int) (H' : Hp), Same H H' → H p = none → Days2 (ens zs) (ens zs') D → ns.Pairwise (· < ·) → (∀ x, x ∈ ns ↔ x ∈ dn (ens zs)) → T4At H' p (partsAll (ens zs) (ens zs') k D ns) → Q (.ref p) H'
theorem ok_LParting {f : Addr} {fd : FuncData} {k : Nat} (F : Fun K "_law_parting" "_law_parting" sLParting f fd) (C__law_days : CallOk P w K mg base k "_law_days" pLDays2 spLDays2) (C__law_standing : CallOk P w K mg base k "_law_standing" pLStanding spLStanding) (m_sorted : mg "sorted" = none) : FnOk P w K mg base CX0 (k + 1) f fd pLParting spLParting := by
  refine F.ok scLParting (fun vs H Q E h => ?_) (fun cdv A outer s H vs Q E hr h => ?_)
  · obtain ⟨b, fk, t, b', fk', t', n, n', age, age', zs, zs', k, rfl, _⟩ := h
    rfl
  · obtain ⟨b, fk, t, b', fk', t', n, n', age, age', zs, zs', kk, rfl, hB, hB', q⟩ := h
    have nd := scLParting.nd
    have hu := hu_of hr
    refine ⟨_, pss_cons (ps_set (i := 3) nd rfl (.inl rfl) (pe_lst pa_nil))
      (pss_cons (ps_setLc (i := 4) (own := [("_law_day_here", 7)]) (g := gName 7) (by rfl) nd rfl rfl (sw_true rfl rfl rfl (by decide +kernel)) (pi_list (pe_call C__law_days.ok hr (by rfl) C__law_days.g C__law_days.kp C__law_days.b .nil pass0 (pa_cons (pv 0) (pa_cons (pv 1) pa_nil)))) (blkOk_by (own := [("_law_day_here", 7)]) (N := nLParting) (sc := defScope sLParting) (by decide +kernel)) (fun _ _ _ _ _ => (pg_name (i := 7) nd rfl (.inl rfl))) (fun _ _ _ _ _ => pts_nil)
          (fun _ _ _ _ _ => (pe_tup (pa_cons (pv 7) (pa_cons (pe_call C__law_standing.ok hr (by rfl) C__law_standing.g C__law_standing.kp C__law_standing.b .nil pass0 (pa_cons (pv 0) (pa_cons (pv 7) (pa_cons (pv 2) pa_nil)))) (pa_cons (pe_call C__law_standing.ok hr (by rfl) C__law_standing.g C__law_standing.kp C__law_standing.b .nil pass0 (pa_cons (pv 1) (pa_cons (pv 7) (pa_cons (pv 2) pa_nil)))) pa_nil))))))
      (pss_cons (ps_for PassesOwn.never rfl (pi_list (pe_callB (call_sortedDI rfl) (by rfl) m_sorted (by decide +kernel) (pa_cons (pe_call C__law_standing.ok hr (by rfl) C__law_standing.g C__law_standing.kp C__law_standing.b .nil pass0 (pa_cons (pv 0) (pa_cons pe_int (pa_cons pe_int pa_nil)))) pa_nil))) (pg_name (i := 5) nd rfl (.inr rfl))
        (pss_one (ps_if (pt_cmp (pc_din hu (pv 5) (pe_call C__law_standing.ok hr (by rfl) C__law_standing.g C__law_standing.kp C__law_standing.b .nil pass0 (pa_cons (pv 1) (pa_cons pe_int (pa_cons pe_int pa_nil)))))) (pss_cons (ps_setLc (i := 6) (own := [("_law_day_here", 7), ("_law_mine", 8), ("_law_its", 9)]) (g := gTup K 3 (gCons (gName 7) (gCons (gName 8) (gCons (gName 9) gNil)))) (by rfl) nd rfl rfl (sw_true rfl rfl rfl (by decide +kernel)) (pi_list (pv 4)) (blkOk_by (own := [("_law_day_here", 7), ("_law_mine", 8), ("_law_its", 9)]) (N := nLParting) (sc := defScope sLParting) (by decide +kernel)) (fun _ _ _ _ _ => (pg_tup (by rfl) (pgs_cons (pg_name (i := 7) nd rfl (.inl rfl)) (pgs_cons (pg_name (i := 8) nd rfl (.inl rfl)) (pgs_cons (pg_name (i := 9) nd rfl (.inl rfl)) pgs_nil))))) (fun _ _ _ _ _ => (pts_one (pt_cmpR op_ne (pe_dget hu (pv 8) (pv 5) (fun _ _ => rfl)) (pe_dget hu (pv 9) (pv 5) (fun _ _ => rfl)) (nomark _))))
          (fun _ _ _ _ _ => (pe_tup (pa_cons (pv 5) (pa_cons (pv 7) (pa_cons (pe_dget hu (pv 8) (pv 5) (fun _ _ => rfl)) (pa_cons (pe_dget hu (pv 9) (pv 5) (fun _ _ => rfl)) pa_nil)))))))
      (pss_one (ps_set (i := 3) nd rfl (.inl rfl) (pe_op op_cat (pv 3) (pe_slice sl_list (pv 6) po_none (po_some pe_int)))))) pss_nil)))
      (pss_one (ps_ret (pv 3))))), ?_⟩
    refine ⟨Nat.zero_le _, fun l1 nl1 => ?_⟩
    have s1 := same_new nl1 (.lst [])
    have e1 : (upd H l1 (.lst [])) l1 = some (.lst []) := upd_same
    generalize (upd H l1 (.lst [])) = H1 at s1 e1
    refine ⟨_, rfl, _, rfl, b, fk, t, b', fk', t', n, n', age, age', zs, zs', rfl, hB.kp (Same.tup s1), hB'.kp (Same.tup s1), fun pD D H2 s2 npD hD hDl e2 => ?_⟩
    have s02 := s1.trans s2
    refine ⟨pD, rfl, ⟨_, SqL.of e2⟩, fun M nM => ?_⟩
    refine lc_list (K := K) (a := pD) (xs := D.map V.int) (fun i H' => Rows3 H' M zs zs' kk (D.take i) ∧ Same H2 H') ⟨⟨[], upd_same, rfl, fun _ h => nomatch h⟩, same_new nM _⟩ (fun i H' _ h => SqL.of (h.2 _ _ e2)) ?_ ?_
    · rintro i x H3 hx ⟨⟨as, h1, h2, h3⟩, s3⟩
      rw [List.getElem?_map] at hx
      cases hz : D[i]? with
      | none => rw [hz] at hx; cases hx
      | some m =>
        rw [hz] at hx
        injection hx with hx
        subst hx
        have las : as.length ≤ 33 := by
          have := congrArg List.length h2
          rw [List.length_map, List.length_take] at this
          omega
        have s03 := s02.trans s3
        refine ⟨rfl, ?_⟩
        unfold tYes
        dsimp only
        rw [if_pos rfl]
        refine ⟨_, rfl, _, rfl, _, rfl, _, rfl, b, fk, t, n, age, zs, m, kk, rfl, hB.kp (Same.tup s03), fun wa H4 s4 nwa hw => ?_⟩
        refine ⟨_, rfl, _, rfl, _, rfl, b', fk', t', n', age', zs', m, kk, rfl, hB'.kp (Same.tup (s03.trans s4)), fun wb H5 s5 nwb hw' => ?_⟩
        refine ⟨(by show 3 ≤ sizeLine; decide), fun r nr => ?_⟩
        have s6 := same_new nr (.tup [.int m, .ref wa, .ref wb])
        have er : (upd H5 r (.tup [.int m, .ref wa, .ref wb])) r = some (.tup [.int m, .ref wa, .ref wb]) := upd_same
        generalize (upd H5 r (.tup [.int m, .ref wa, .ref wb])) = H6 at s6 er
        have s36 := s4.trans (s5.trans s6)
        have h16 := s36 _ _ h1
        refine ⟨_, h16, small1000 (by rw [List.length_map]; omega), ⟨as ++ [(r, m, wa, wb)], by rw [upd_same, List.map_append]; rfl, by rw [List.map_append, h2, take_more hz]; rfl, fun z hzz => ?_⟩, same_put nM (s3.trans s36) _⟩
        have key : H6 z.1 = some (.tup [.int z.2.1, .ref z.2.2.1, .ref z.2.2.2]) ∧ WdD H6 z.2.2.1 zs z.2.1 kk ∧ WdD H6 z.2.2.2 zs' z.2.1 kk := by
          rcases List.mem_append.mp hzz with hzz | hzz
          · obtain ⟨g1, g2, g3⟩ := h3 z hzz
            exact ⟨s36 _ _ g1, g2.same s36, g3.same s36⟩
          · rw [List.mem_singleton.mp hzz]
            exact ⟨er, hw.same (s5.trans s6), hw'.same s6⟩
        obtain ⟨g1, g2, g3⟩ := key
        exact ⟨by rw [upd_ne fun q => by rw [q, h16] at g1; cases g1]; exact g1, g2.put h16, g3.put h16⟩
    rintro H3 ⟨⟨as, h1, h2, h3⟩, s3⟩
    rw [show (D.map V.int).length = D.length from List.length_map _, List.take_length] at h2
    have las : as.length ≤ 33 := by
      have := congrArg List.length h2
      rw [List.length_map] at this
      omega
    have s03 := s02.trans s3
    refine ⟨_, rfl, b, fk, t, n, age, zs, 0, 0, rfl, hB.kp (Same.tup s03), fun wa H4 s4 nwa hw => ?_⟩
    obtain ⟨us, hU, ewa⟩ := hw
    refine ⟨wa, _, (ens us).map (·.num), rfl, .inl ewa, by simp [wdE], by rw [List.length_map, List.length_map]; have := hU.2.2; omega, fun ns L pm up nL => ?_⟩
    have s5 := same_new nL (.lst (ns.map V.int))
    have e5 : (upd H4 L (.lst (ns.map V.int))) L = some (.lst (ns.map V.int)) := upd_same
    generalize (upd H4 L (.lst (ns.map V.int))) = H5 at s5 e5
    have s35 := s4.trans s5
    have s05 := s03.trans s35
    have hnup : ns.Pairwise (· < ·) := rising_of (pm.nodup_iff.mpr hU.nodup) up
    have hnm : ∀ x, x ∈ ns ↔ x ∈ dn (ens zs) := fun x => by
      rw [pm.mem_iff, mem_dn, List.mem_map]
      constructor
      · rintro ⟨e, he, rfl⟩
        obtain ⟨g1, g2⟩ := (hU.2.1 e).mp he
        exact ⟨e, g1, g2, rfl⟩
      · rintro ⟨e, he, hd, rfl⟩
        exact ⟨e, (hU.2.1 e).mpr ⟨he, hd⟩, rfl⟩
    have hnl : ns.length ≤ 16 := by
      have h1 := pm.length_eq
      rw [List.length_map, List.length_map] at h1
      have := hU.2.2
      omega
    refine ⟨L, rfl, ⟨_, SqL.of e5⟩, ?_⟩
    refine for_list (K := K) (a := L) (xs := ns.map V.int) (fun i σ H' => ∃ p : Addr, ∃ y5 y6 y7 y8 y9, σ = [some (.ref b), some (.ref b'), some (.int kk), some (.ref p), some (.ref M), y5, y6, y7, y8, y9] ∧ Same H5 H' ∧ H p = none ∧ T4At H' p (partsAll (ens zs) (ens zs') kk D (ns.take i))) ⟨l1, _, _, _, _, _, rfl, same_refl _, nl1, ⟨[], s35 _ _ (s3 _ _ (s2 _ _ e1)), rfl, fun _ h => nomatch h⟩⟩ (fun i σ H' _ h => ?_) ?_ ?_
    · obtain ⟨_, _, _, _, _, _, _, sX, _⟩ := h
      exact SqL.of (sX _ _ e5)
    · rintro i x σ H6 hx ⟨p, y5, y6, y7, y8, y9, rfl, s6, np, h4⟩
      rw [List.getElem?_map] at hx
      cases hz : ns[i]? with
      | none => rw [hz] at hx; cases hx
      | some m =>
        rw [hz] at hx
        injection hx with hx
        subst hx
        have hi : i < ns.length := (List.getElem?_eq_some_iff.mp hz).1
        have hmn := List.mem_of_getElem? hz
        obtain ⟨e, he, hed, rfl⟩ := dn_at ((hnm m).mp hmn)
        have hpa : partsAll (ens zs) (ens zs') kk D (ns.take (i + 1)) = partsAll (ens zs) (ens zs') kk D (ns.take i) ++ partAt (ens zs) (ens zs') kk D e.num := by
          rw [take_more hz]
          unfold partsAll
          rw [List.flatMap_append]
          simp
        have s06 := s05.trans s6
        refine ⟨_, rfl, _, rfl, b', fk', t', n', age', zs', 0, 0, rfl, hB'.kp (Same.tup s06), fun wb H7 s7 nwb hw' => ?_⟩
        obtain ⟨us', hU', ewb⟩ := hw'
        refine ⟨wb, _, rfl, DGet.k (k := Sum.inl e.num) ewb, _, rfl, ?_⟩
        have s67 := s6.trans s7
        have s37 := s35.trans s67
        by_cases hin : ∃ e' ∈ ens zs', e'.isDeed = true ∧ e'.num = e.num
        · obtain ⟨e', he', hed', hnn⟩ := hin
          have hget : (valV (wdE (ens zs') 0 0 (ens us')) (Sum.inl e.num)).isSome = true := by
            have hme : e' ∈ ens us' := (hU'.2.1 e').mpr ⟨he', hed'⟩
            rw [← hnn, valV_map (f := fun e : En => e.num) (g := fun e : En => V.str (st (ens zs') 0 0 e)) hU'.nodup hme]
            rfl
          rw [hget]
          refine iteT ?_
          have hM7 := s37 _ _ h1
          refine ⟨_, rfl, M, rfl, ⟨_, SqL.of hM7⟩, fun S nS => ?_⟩
          have hrow : ∀ a ∈ as, H7 a.1 = some (.tup [.int a.2.1, .ref a.2.2.1, .ref a.2.2.2]) ∧ WdD H7 a.2.2.1 zs a.2.1 kk ∧ WdD H7 a.2.2.2 zs' a.2.1 kk := fun a ha => by
            obtain ⟨g1, g2, g3⟩ := h3 a ha
            exact ⟨s37 _ _ g1, g2.same s37, g3.same s37⟩
          refine lc_sameT (walk_list (xs := as.map fun a => V.ref a.1)) as (fun a => !decide (st (ens zs) a.2.1 kk e = st (ens zs') a.2.1 kk e')) (fun a => tup4 (e.num, a.2.1, st (ens zs) a.2.1 kk e, st (ens zs') a.2.1 kk e')) (by rw [List.length_map]) (by omega) nS (fun H s => SqL.of (s _ _ hM7)) ?_ ?_
          · rintro j a x H8' H8 hy s8 ⟨rfl, hx⟩ Q1 Q0 q1 q0
            rw [List.getElem?_map, hy] at hx
            injection hx with hx
            subst hx
            obtain ⟨g1, g2, g3⟩ := hrow a (List.mem_of_getElem? hy)
            have dg1 := (g2.same s8).get he hed
            have dg2 := (g3.same s8).get he' hed'
            rw [hnn] at dg2
            refine ⟨a.1, _, rfl, SqT.of (s8 _ _ g1), rfl, _, _, rfl, _, _, rfl, _, _, rfl, rfl, rfl, ?_⟩
            refine ⟨_, rfl, _, rfl, _, _, rfl, dg1, _, rfl, _, rfl, _, _, rfl, dg2, rfl, _, rfl, ?_⟩
            by_cases c : st (ens zs) a.2.1 kk e = st (ens zs') a.2.1 kk e'
            · rw [decide_eq_true (congrArg V.str c)]
              refine iteF ?_
              exact q0 (by rw [decide_eq_true c]; rfl) _ (same_refl _)
            · rw [decide_eq_false (fun z => c (by injection z))]
              refine iteT ?_
              refine ⟨_, rfl, _, rfl, _, rfl, _, rfl, _, _, rfl, dg1, _, rfl, _, rfl, _, _, rfl, dg2, (by show 4 ≤ sizeLine; decide), fun t5 nt5 => ?_⟩
              exact q1 (by rw [decide_eq_false c]; rfl) t5 _ (same_new nt5 _) upd_same
          rintro H8 ws s8 eS hws hwt
          refine ⟨_, rfl, _, rfl, _, rfl, S, _, rfl, SqL.of eS, fun s9 ns9 => ?_⟩
          have sm9 := same_new ns9 (.lst (cutV (ws.map fun z => V.ref z.1) none (some 1)))
          have e9 : (upd H8 s9 (.lst (cutV (ws.map fun z => V.ref z.1) none (some 1)))) s9 = some (.lst ((ws.take 1).map fun z => V.ref z.1)) := by
            rw [upd_same, List.map_take]
            congr 2
            unfold cutV
            rw [HT.sIx_none, List.drop_zero, Nat.sub_zero]
            rw [show (1 : Int) = ((1 : Nat) : Int) from rfl, HT.sIx_nat]
            rw [List.take_eq_take_iff]
            omega
          generalize (upd H8 s9 (.lst (cutV (ws.map fun z => V.ref z.1) none (some 1)))) = H9 at sm9 e9
          have s79 := s8.trans sm9
          have hp1 : T4At H9 s9 (part1 (ens zs) (ens zs') kk D e e') := by
            refine ⟨(ws.take 1).map fun z => (z.1, (e.num, z.2.2.1, st (ens zs) z.2.2.1 kk e, st (ens zs') z.2.2.1 kk e')), by rw [e9, List.map_map]; rfl, ?_, fun z hzz => ?_⟩
            · rw [List.map_map]
              have h7 : (ws.take 1).map (fun z => z.2.2.1) = (D.filter fun d => !decide (st (ens zs) d kk e = st (ens zs') d kk e')).take 1 := by
                rw [← h2, List.filter_map, ← List.map_take]
                rw [show (as.filter ((fun d => !decide (st (ens zs) d kk e = st (ens zs') d kk e')) ∘ fun a => a.2.1)) = ws.map (·.2) from hws.symm, ← List.map_take, List.map_map]
                rfl
              rw [find_head] at h7
              have h8 : ((ws.take 1).map fun z => ((e.num, z.2.2.1, st (ens zs) z.2.2.1 kk e, st (ens zs') z.2.2.1 kk e') : Row4)) = ((ws.take 1).map (fun z => z.2.2.1)).map fun d => (e.num, d, st (ens zs) d kk e, st (ens zs') d kk e') := by
                rw [List.map_map]
                rfl
              refine h8.trans ?_
              rw [h7]
              unfold part1
              cases D.find? fun d => !decide (st (ens zs) d kk e = st (ens zs') d kk e') <;> rfl
            · obtain ⟨z0, hz0, rfl⟩ := List.mem_map.mp hzz
              exact sm9 _ _ (hwt z0 (List.mem_of_mem_take hz0))
          have h49 := h4.same (s7.trans s79)
          obtain ⟨xs, h4a⟩ : ∃ xs, H9 p = some (.lst xs) := ⟨_, h49.choose_spec.1⟩
          obtain ⟨zs4, k1, k2, k3⟩ := h49
          obtain ⟨zs5, j1, j2, j3⟩ := hp1
          have hl1 := partsAll_len (ens zs) (ens zs') kk D (ns.take i)
          have hl2 : (part1 (ens zs) (ens zs') kk D e e').length ≤ 1 := by unfold part1; split <;> simp
          rw [List.length_take, ← k2, List.length_map] at hl1
          rw [← j2, List.length_map] at hl2
          refine ⟨p, s9, _, _, rfl, rfl, k1, j1, ?_, fun p2 np2 => ?_⟩
          · rw [List.length_map, List.length_map]
            exact Nat.le_of_lt (small1000 (by omega))
          have s10 := same_new np2 (.lst ((zs4.map fun z => V.ref z.1) ++ zs5.map fun z => V.ref z.1))
          refine ⟨p2, _, _, _, _, _, rfl, s67.trans (s79.trans s10), (s06.trans (s7.trans s79)).free np2, zs4 ++ zs5, by rw [upd_same, List.map_append], ?_, fun z hzz => s10 _ _ ?_⟩
          · rw [List.map_append, k2, j2, hpa]
            have : partAt (ens zs) (ens zs') kk D e.num = part1 (ens zs) (ens zs') kk D e e' := by
              unfold partAt
              rw [find_deed2 hB.ok he hed, ← hnn, find_deed2 hB'.ok he' hed']
            rw [this]
          · rcases List.mem_append.mp hzz with hzz | hzz
            · exact k3 z hzz
            · exact j3 z hzz
        · have hget : (valV (wdE (ens zs') 0 0 (ens us')) (Sum.inl e.num)).isSome = false := by
            rw [Option.isSome_eq_false_iff, Option.isNone_iff_eq_none]
            unfold valV
            rw [Option.map_eq_none_iff, List.find?_eq_none]
            intro kv hkv
            obtain ⟨e', he', rfl⟩ := List.mem_map.mp hkv
            obtain ⟨g1, g2⟩ := (hU'.2.1 e').mp he'
            intro c
            have c' := of_decide_eq_true c
            injection c' with c'
            exact hin ⟨e', g1, g2, c'⟩
          rw [hget]
          refine iteF ?_
          refine ⟨p, _, _, _, _, _, rfl, s67, np, ?_⟩
          rw [hpa]
          have : partAt (ens zs) (ens zs') kk D e.num = [] := by
            unfold partAt
            have hf : (ens zs').find? (isD e.num) = none := by
              rw [List.find?_eq_none]
              intro e' he' c
              unfold isD at c
              rw [Bool.and_eq_true] at c
              exact hin ⟨e', he', c.1, of_decide_eq_true c.2⟩
            rw [hf]
            split
            · next h => cases h
            · rfl
          rw [this, List.append_nil]
          exact h4.same s7
    · rintro σ H6 ⟨p, y5, y6, y7, y8, y9, rfl, s6, np, h4⟩
      rw [show (ns.map V.int).length = ns.length from List.length_map _, List.take_length] at h4
      exact ⟨_, rfl, q p D ns H6 (s05.trans s6) np hD hnup hnm h4⟩
end
end Deed

namespace Deed
open PySem PySem.Spec PyProof.Rows L2 LamX
/-! entries as data -/
def entD (e : En) : PyData := match e.kd with
  | .deed g t rs ws => .tuple [.int e.num, .int e.day, .int e.wri, .int e.hand, .str "deed", .int g, .int t, .tuple (rs.map PyData.int), .tuple (ws.map PyData.int)]
  | .act x o => .tuple [.int e.num, .int e.day, .int e.wri, .int e.hand, .str x, .int o]
theorem EntAt.dp {K : PySem.W.Frag} {H : Hp} {a : Addr} {e : En} (h : EntAt H a e) : Dp K H (.ref a) (entD e) := by
  unfold EntAt at h
  unfold entD
  cases hk : e.kd with
  | deed g t rs ws =>
    rw [hk] at h
    obtain ⟨r, w, h1, h2, h3⟩ := h
    exact .tup (SqT.of h1) (.cons (.int _) (.cons (.int _) (.cons (.int _) (.cons (.int _) (.cons (.str _) (.cons (.int _) (.cons (.int _) (.cons (.tup (SqT.of h2) (dp_ints rs)) (.cons (.tup (SqT.of h3) (dp_ints ws)) .nil)))))))))
  | act x o =>
    rw [hk] at h
    exact .tup (SqT.of h) (.cons (.int _) (.cons (.int _) (.cons (.int _) (.cons (.int _) (.cons (.str _) (.cons (.int _) .nil))))))
theorem dp_ents {K : PySem.W.Frag} {H : Hp} : ∀ zs : List (Addr × En), (∀ z ∈ zs, EntAt H z.1 z.2) → DpAll K H (refs zs) ((ens zs).map entD)
  | [], _ => .nil
  | z :: r, h => .cons (h z List.mem_cons_self).dp (dp_ents r fun x hx => h x (List.mem_cons_of_mem _ hx))
theorem EnOk.lay {n : Nat} {ds as : List Int} {e : En} (h : EnOk n ds as e) : PyData.canLay0 (entD e) = true := by
  unfold entD
  cases hk : e.kd with
  | deed g t rs ws =>
    have h1 := lay_ints rs
    have h2 := lay_ints ws
    simp only [PyData.canLay0, PyData.canLayAll0, h1, h2, Bool.and_true, Bool.true_and]
    decide +kernel
  | act x o =>
    have h4 := h.2.2.2
    rw [hk] at h4
    have hx : PyData.strOk x = true := by rcases h4.1 with ⟨z, _⟩ | ⟨z | z, _⟩ <;> rw [z] <;> decide +kernel
    simp [PyData.canLay0, PyData.canLayAll0, hx]
theorem lay_ents {n : Nat} {ds as : List Int} : ∀ es : List En, (∀ e ∈ es, EnOk n ds as e) → PyData.canLayAll0 (es.map entD) = true
  | [], _ => by simp [PyData.canLayAll0]
  | e :: r, h => by
    simp [PyData.canLayAll0, (h e List.mem_cons_self).lay, lay_ents r fun x hx => h x (List.mem_cons_of_mem _ hx)]
theorem depth_ent (e : En) : PyData.depth (entD e) ≤ 4 := by
  unfold entD
  cases e.kd with
  | deed g t rs ws =>
    have h1 := depth_ints rs
    have h2 := depth_ints ws
    simp only [PyData.depth, PyData.depthAll]
    omega
  | act x o =>
    simp only [PyData.depth, PyData.depthAll]
    omega
theorem depth_ents : ∀ es : List En, PyData.depthAll (es.map entD) ≤ 5
  | [] => by simp [PyData.depthAll]
  | e :: r => by
    have h1 := depth_ent e
    have h2 := depth_ents r
    simp only [List.map_cons, PyData.depthAll]
    omega
theorem shaped_entsT {n : Nat} {ds as : List Int} (es : List En) (h : ∀ e ∈ es, EnOk n ds as e) : SeqAt.shaped (.tuple (es.map entD)) = true := by
  have h1 := depth_ents es
  have h2 : PyData.depth (.tuple (es.map entD)) ≤ 64 := by
    simp only [PyData.depth]
    omega
  show (PyData.canLay0 (.tuple (es.map entD)) && decide (PyData.depth (.tuple (es.map entD)) ≤ 64)) = true
  rw [Bool.and_eq_true]
  exact ⟨by simp only [PyData.canLay0]; exact lay_ents es h, decide_eq_true h2⟩
theorem shaped_entsL {n : Nat} {ds as : List Int} (es : List En) (h : ∀ e ∈ es, EnOk n ds as e) : SeqAt.shaped (.list (es.map entD)) = true := by
  have h1 := depth_ents es
  have h2 : PyData.depth (.list (es.map entD)) ≤ 64 := by
    simp only [PyData.depth]
    omega
  show (PyData.canLay0 (.list (es.map entD)) && decide (PyData.depth (.list (es.map entD)) ≤ 64)) = true
  rw [Bool.and_eq_true]
  exact ⟨by simp only [PyData.canLay0]; exact lay_ents es h, decide_eq_true h2⟩
theorem eqvT_nil (l : List PyData) : PyData.eqv (.tuple l) (.tuple []) = decide (l = []) := by
  cases l <;> simp [PyData.eqv, PyData.eqvAll]
theorem eqvL_nil (l : List PyData) : PyData.eqv (.list l) (.list []) = decide (l = []) := by
  cases l <;> simp [PyData.eqv, PyData.eqvAll]
/-! cuts -/
theorem cut_to (xs : List V) (k : Nat) : cutV xs none (some (k : Int)) = xs.take k := by
  unfold cutV
  rw [HT.sIx_none, HT.sIx_nat, List.drop_zero, Nat.sub_zero, List.take_eq_take_iff]
  omega
theorem cut_from (xs : List V) (k : Nat) : cutV xs (some (k : Int)) none = xs.drop k := by
  unfold cutV
  rw [HT.sIx_none, HT.sIx_nat]
  rw [List.take_of_length_le (by rw [List.length_drop]; omega)]
  rcases Nat.le_total k xs.length with h | h
  · rw [Nat.min_eq_left h]
  · rw [Nat.min_eq_right h, List.drop_length, List.drop_eq_nil_of_le h]
/-! a book with one entry otherwise, and with one gone -/
theorem dn_swap {A B : List En} {e e' : En} (hn : e'.num = e.num) (hd : e'.isDeed = e.isDeed) : dn (A ++ e' :: B) = dn (A ++ e :: B) := by
  unfold dn
  rw [List.filter_append, List.filter_append, List.filter_cons, List.filter_cons, hd]
  cases e.isDeed <;> simp [hn]
theorem an_swap {A B : List En} {e e' : En} (hn : e'.num = e.num) (hd : e'.isDeed = e.isDeed) : an (A ++ e' :: B) = an (A ++ e :: B) := by
  unfold an
  rw [List.filter_append, List.filter_append, List.filter_cons, List.filter_cons, hd]
  cases e.isDeed <;> simp [hn]
theorem BkOk.swap {n : Nat} {A B : List En} {e e' : En} (h : BkOk n (A ++ e :: B)) (hn : e'.num = e.num) (hd : e'.isDeed = e.isDeed) (ho : EnOk n (dn (A ++ e :: B)) (an (A ++ e :: B)) e') : BkOk n (A ++ e' :: B) := by
  refine ⟨?_, fun x hx => ?_, fun x hx => ?_⟩
  · have := h.nd
    rw [List.map_append, List.map_cons] at this ⊢
    rw [hn]
    exact this
  · rcases List.mem_append.mp hx with hx | hx
    · exact h.rng x (List.mem_append.mpr (.inl hx))
    · rcases List.mem_cons.mp hx with rfl | hx
      · rw [hn]
        exact h.rng e (by simp)
      · exact h.rng x (by simp [hx])
  · rw [dn_swap hn hd, an_swap hn hd]
    rcases List.mem_append.mp hx with hx | hx
    · exact h.ok x (List.mem_append.mpr (.inl hx))
    · rcases List.mem_cons.mp hx with rfl | hx
      · exact ho
      · exact h.ok x (by simp [hx])
/-- the numbers that an entry names -/
def En.names (e : En) : List Int := match e.kd with
  | .deed _ _ rs _ => rs
  | .act _ o => [o]
theorem EnOk.names_len {n : Nat} {ds as : List Int} {e : En} (h : EnOk n ds as e) : e.names.length ≤ 2 := by
  unfold En.names
  cases hk : e.kd with
  | deed g t rs ws =>
    have h4 := h.2.2.2
    rw [hk] at h4
    exact h4.2.2.2.1
  | act x o =>
    show 1 ≤ 2
    omega
theorem EnOk.less {n : Nat} {ds as ds' as' : List Int} {e : En} (h : EnOk n ds as e) (h1 : ∀ x ∈ e.names, x ∈ ds → x ∈ ds') (h2 : ∀ x ∈ e.names, x ∈ as → x ∈ as') : EnOk n ds' as' e := by
  unfold EnOk at h ⊢
  obtain ⟨a, b, c, d⟩ := h
  refine ⟨a, b, c, ?_⟩
  unfold En.names at h1 h2
  cases hk : e.kd with
  | deed g t rs ws =>
    rw [hk] at d h1
    obtain ⟨d1, d2, d3, d4, d5, d6, d7⟩ := d
    exact ⟨d1, d2, d3, d4, d5, fun r hr => ⟨h1 r hr (d6 r hr).1, (d6 r hr).2⟩, d7⟩
  | act x o =>
    rw [hk] at d h1 h2
    refine ⟨?_, d.2⟩
    rcases d.1 with ⟨z, ho⟩ | ⟨z, ho⟩
    · exact .inl ⟨z, h2 o (by simp) ho⟩
    · exact .inr ⟨z, h1 o (by simp) ho⟩
theorem BkOk.gone {n : Nat} {A B : List En} {e : En} (h : BkOk n (A ++ e :: B)) (hno : ∀ u ∈ A ++ e :: B, e.num ∉ u.names) : BkOk n (A ++ B) := by
  have sub : (A ++ B).Sublist (A ++ e :: B) := (List.Sublist.refl A).append (List.sublist_cons_self e B)
  have mem : ∀ x ∈ A ++ B, x ∈ A ++ e :: B := fun x hx => sub.subset hx
  have back : ∀ u ∈ A ++ e :: B, u.num ≠ e.num → u ∈ A ++ B := fun u hu hne => by
    rcases List.mem_append.mp hu with hu | hu
    · exact List.mem_append.mpr (.inl hu)
    · rcases List.mem_cons.mp hu with rfl | hu
      · exact absurd rfl hne
      · exact List.mem_append.mpr (.inr hu)
  refine ⟨(sub.map _).nodup h.nd, fun x hx => h.rng x (mem x hx), fun x hx => (h.ok x (mem x hx)).less (fun y hy hd => ?_) (fun y hy hd => ?_)⟩
  · obtain ⟨u, hu, h1, rfl⟩ := mem_dn.mp hd
    exact mem_dn.mpr ⟨u, back u hu (fun q => hno x (mem x hx) (q ▸ hy)), h1, rfl⟩
  · obtain ⟨u, hu, h1, rfl⟩ := mem_an.mp hd
    exact mem_an.mpr ⟨u, back u hu (fun q => hno x (mem x hx) (q ▸ hy)), h1, rfl⟩
/-- an entry by its first four places -/
theorem EntAt.four {H : Hp} {a : Addr} {e : En} (h : EntAt H a e) : ∃ r : List V, r.length ≤ 5 ∧ H a = some (.tup (.int e.num :: .int e.day :: .int e.wri :: .int e.hand :: r)) ∧ ∀ (H' : Hp) (a' : Addr) (d w : Int), KpT H H' → H' a' = some (.tup (.int e.num :: .int d :: .int w :: .int e.hand :: r)) → EntAt H' a' { e with day := d, wri := w } := by
  unfold EntAt at h ⊢
  cases hk : e.kd with
  | deed g t rs ws =>
    rw [hk] at h
    obtain ⟨r, w, h1, h2, h3⟩ := h
    exact ⟨_, by simp, h1, fun H' a' d w' k e' => ⟨r, w, e', k _ _ h2, k _ _ h3⟩⟩
  | act x o =>
    rw [hk] at h
    exact ⟨_, by simp, h, fun H' a' d w' k e' => e'⟩
end Deed

namespace Deed
open PySem PySem.Spec PyProof.Rows L2 LamX
section
variable {P : Program} {w : World} {K : PySem.W.Frag} {mg : Str → Option Value} {base : Heap} {T : List (Addr × Str)}
abbrev sLNamed : Stmt := topS 43
abbrev nLNamed : List Str := ["_law_entry"]
abbrev pLNamed : List Str := ["_law_entry"]
theorem scLNamed : FnScope nLNamed pLNamed (defScope sLNamed) := ⟨rfl, rfl, rfl, by decide +kernel, rfl, by decide +kernel, by decide +kernel⟩
def spLNamed : Sp := fun vs H Q _ => ∃ (a : Addr) (e : En) (n : Nat) (ds as : List Int), vs = [.ref a] ∧ EntAt H a e ∧ EnOk n ds as e ∧ ∀ l H', Same H H' → H' l = some (.lst (e.names.map V.int)) → Q (.ref l) H'
theorem ok_LNamed {f : Addr} {fd : FuncData} {k : Nat} (F : Fun K "_law_named" "_law_named" sLNamed f fd) (m_list : mg "list" = none) : FnOk P w K mg base CX0 (k + 1) f fd pLNamed spLNamed := by
  refine F.ok scLNamed (fun vs H Q E h => ?_) (fun cdv A outer s H vs Q E hr h => ?_)
  · obtain ⟨a, e, n, ds, as, rfl, _⟩ := h
    rfl
  · obtain ⟨a, e, n, ds, as, rfl, hE, hO, q⟩ := h
    have nd := scLNamed.nd
    refine ⟨_, pss_cons (ps_if (pt_cmpR op_eq (pe_ix ix_tup (pv 0) pe_int (fun _ _ => rfl)) pe_str (nomark _)) (pss_one (ps_ret (pe_callTy call_list_of (by rfl) m_list (by decide +kernel) (pa_cons (pe_ix ix_tup (pv 0) pe_int (fun _ _ => rfl)) pa_nil)))) pss_nil)
      (pss_one (ps_ret (pe_lst (pa_cons (pe_ix ix_tup (pv 0) pe_int (fun _ _ => rfl)) pa_nil)))), ?_⟩
    obtain ⟨xs, ex, _, _, _, _, g4⟩ := hE.tup
    refine ⟨_, rfl, a, xs, 4, _, rfl, rfl, SqT.of ex, g4, rfl, _, rfl, ?_⟩
    cases hd : e.isDeed with
    | true =>
      rw [decide_eq_true (congrArg V.str (hO.word.mpr hd))]
      refine iteT ?_
      obtain ⟨xs7, r, ex7, g7, er⟩ := hE.seven hd
      have en : e.names = e.rests := by
        unfold En.names En.rests
        unfold En.isDeed at hd
        cases hk : e.kd with
        | deed g t rs ws => rfl
        | act x o => rw [hk] at hd; cases hd
      rw [en] at q
      refine ⟨_, rfl, a, xs7, 7, _, rfl, rfl, SqT.of ex7, g7, r, _, rfl, .inr (SqT.of er), fun l1 nl1 => ?_⟩
      exact q l1 _ (same_new nl1 _) upd_same
    | false =>
      rw [decide_eq_false (fun z => by
        injection z with z
        rw [hO.word.mp z] at hd
        cases hd)]
      refine iteF ?_
      obtain ⟨xs5, ex5, g5⟩ := hE.five hd
      have en : e.names = [e.of] := by
        unfold En.names En.of
        unfold En.isDeed at hd
        cases hk : e.kd with
        | deed g t rs ws => rw [hk] at hd; cases hd
        | act x o => rfl
      rw [en] at q
      refine ⟨_, rfl, a, xs5, 5, _, rfl, rfl, SqT.of ex5, g5, (by show 1 ≤ sizeLine; decide), fun l2 nl2 => ?_⟩
      exact q l2 _ (same_new nl2 _) upd_same
abbrev sLOther : Stmt := topS 44
abbrev nLOther : List Str := ["_law_pen_here", "_law_book_here", "_law_folk_here", "_law_age", "_law_entries", "_law_at", "_law_way", "_law_entry", "_law_one"]
abbrev pLOther : List Str := ["_law_pen_here", "_law_book_here"]
theorem scLOther : FnScope nLOther pLOther (defScope sLOther) := ⟨rfl, rfl, rfl, by decide +kernel, rfl, by decide +kernel, by decide +kernel⟩
def spLOther : Sp := fun vs H Q _ => ∃ (p b fk t : Addr) (n : Nat) (age : Int) (zs : List (Addr × En)), vs = [.ref p, .ref b] ∧ PenAt H p ∧ BookAt H b fk t n age zs ∧ ∀ b' t' zs' H', Kp p H H' → PenAt H' p → BookAt H' b' fk t' n age zs' → Q (.ref b') H'
theorem ok_LOther {f : Addr} {fd : FuncData} {k : Nat} (F : Fun K "_law_other" "_law_other" sLOther f fd) (C__law_draw : CDraw P w K mg base k) (C__law_day : CallOk P w K mg base k "_law_day" pDay spDay) (C__law_named : CallOk P w K mg base k "_law_named" pLNamed spLNamed) (m_len : mg "len" = none) (m_int : mg "int" = none) : FnOk P w K mg base CX0 (k + 1) f fd pLOther spLOther := by
  refine F.ok scLOther (fun vs H Q E h => ?_) (fun cdv A outer s H vs Q E hr h => ?_)
  · obtain ⟨p, b, fk, t, n, age, zs, rfl, _⟩ := h
    rfl
  · obtain ⟨p, b, fk, t, n, age, zs, rfl, hP, hB, q⟩ := h
    have nd := scLOther.nd
    have hu := hu_of hr
    refine ⟨_, pss_cons (ps_asg (pv 1) (pg_tup (by rfl) (pgs_cons (pg_name (i := 2) nd rfl (.inl rfl)) (pgs_cons (pg_name (i := 3) nd rfl (.inl rfl)) (pgs_cons (pg_name (i := 4) nd rfl (.inl rfl)) pgs_nil)))))
      (pss_cons (ps_if (pt_cmpR (op_eqD hr.units) (pv 4) (pe_tup pa_nil) (nomark _)) (pss_one (ps_ret (pv 1))) pss_nil)
      (pss_cons (ps_par (i := 5) (j := 6) (by rfl) nd rfl rfl (by decide) rfl rfl (pa_cons (pe_call C__law_draw.ok hr (by rfl) C__law_draw.g C__law_draw.kp C__law_draw.b .nil pass0 (pa_cons (pv 0) (pa_cons (pe_callB call_len_seq (by rfl) m_len (by decide +kernel) (pa_cons (pv 4) pa_nil)) pa_nil))) (pa_cons (pe_call C__law_draw.ok hr (by rfl) C__law_draw.g C__law_draw.kp C__law_draw.b .nil pass0 (pa_cons (pv 0) (pa_cons pe_int pa_nil))) pa_nil)) (by rfl))
      (pss_cons (ps_set (i := 7) nd rfl (.inr rfl) (pe_ix ix_tup (pv 4) (pv 5) (fun _ _ => rfl)))
      (C8.pss_cut (ps_if (pt_cmpR op_eq (pv 6) pe_int (nomark _)) (pss_one (ps_set (i := 7) nd rfl (.inr rfl) (pe_op op_catA (pe_op op_catA (pe_slice sl_tupA (pv 7) po_none (po_some pe_int)) (pe_tup (pa_cons (pe_call C__law_day.ok hr (by rfl) C__law_day.g C__law_day.kp C__law_day.b .nil pass0 (pa_cons (pv 0) pa_nil)) pa_nil))) (pe_slice sl_tupA (pv 7) (po_some pe_int) po_none)))) (pss_one (ps_if (pt_cmpR op_eq (pv 6) pe_int (nomark _)) (pss_one (ps_set (i := 7) nd rfl (.inr rfl) (pe_op op_catA (pe_op op_catA (pe_slice sl_tupA (pv 7) po_none (po_some pe_int)) (pe_tup (pa_cons (pe_call C__law_day.ok hr (by rfl) C__law_day.g C__law_day.kp C__law_day.b .nil pass0 (pa_cons (pv 0) pa_nil)) pa_nil))) (pe_slice sl_tupA (pv 7) (po_some pe_int) po_none)))) (pss_one (ps_if (PW.pt (pw_and (pt_cmpR op_eq (pv 6) pe_int (nomark _)) (pw_and1 (pt_cmpR op_in_seq (pe_ix ix_tup (pv 7) pe_int (fun _ _ => rfl)) (pe_tup (pa_cons pe_str (pa_cons pe_str pa_nil))) (by rfl))))) (pss_one (ps_set (i := 7) nd rfl (.inr rfl) (pe_op op_catA (pe_op op_catA (pe_slice sl_tupA (pv 7) po_none (po_some pe_int)) (pe_tup (pa_cons (pe_ix ix_list (pe_lst (pa_cons pe_str (pa_cons pe_str pa_nil))) (pe_callTy call_int1 (by rfl) m_int (by decide +kernel) (pa_cons (pe_cmpR op_eq (pe_ix ix_tup (pv 7) pe_int (fun _ _ => rfl)) pe_str (nomark _)) pa_nil)) (fun _ _ => rfl)) pa_nil))) (pe_slice sl_tupA (pv 7) (po_some pe_int) po_none)))) (pss_one (ps_if (PW.pt (pw_and (pt_cmpR op_eq (pv 6) pe_int (nomark _)) (pw_and1 (pt_cmpR op_eq (pe_ix ix_tup (pv 7) pe_int (fun _ _ => rfl)) pe_str (nomark _))))) (pss_one (ps_set (i := 7) nd rfl (.inr rfl) (pe_op op_catA (pe_slice sl_tupA (pv 7) po_none (po_some pe_int)) (pe_tup (pa_cons (pe_tup pa_nil) (pa_cons (pe_ix ix_tup (pv 7) pe_int (fun _ _ => rfl)) pa_nil)))))) (pss_one (ps_if (pt_cmpR (op_eqD hr.units) (pe_lc (own := [("_law_one", 8)]) (g := gName 8) (by rfl) nd (pi_tup (pv 4)) (blkOk_by (own := [("_law_one", 8)]) (N := nLOther) (sc := defScope sLOther) (by decide +kernel)) (fun _ _ _ _ _ => (pg_name (i := 8) nd rfl (.inl rfl))) (fun _ _ _ _ _ => (pts_one (pt_cmpR (in_seqK (K := K) (by rfl)) (pe_ix (ix_tupK (K := K) (by rfl)) (pv 7) pe_int (fun _ _ => rfl)) (pe_call C__law_named.ok hr (by rfl) C__law_named.g C__law_named.kp C__law_named.b .nil pass0 (pa_cons (pv 8) pa_nil)) (by rfl))))
          (fun _ _ _ _ _ => (pv 8))) (pe_lst pa_nil) (nomark _)) (pss_one (ps_ret (pe_tup (pa_cons (pv 2) (pa_cons (pv 3) (pa_cons (pe_op op_catA (pe_slice sl_tupA (pv 4) po_none (po_some (pv 5))) (pe_slice sl_tupA (pv 4) (po_some (pe_op op_add (pv 5) pe_int)) po_none)) pa_nil)))))) pss_nil)))))))))
      (pss_one (ps_ret (pe_tup (pa_cons (pv 2) (pa_cons (pv 3) (pa_cons (pe_op op_catA (pe_op op_catA (pe_slice sl_tupA (pv 4) po_none (po_some (pv 5))) (pe_tup (pa_cons (pv 7) pa_nil))) (pe_slice sl_tupA (pv 4) (po_some (pe_op op_add (pv 5) pe_int)) po_none)) pa_nil)))))))))), ?_⟩
    have len := hB.len
    refine ⟨_, rfl, b, _, rfl, SqT.of hB.at_, rfl, _, _, rfl, _, _, rfl, _, _, rfl, rfl, ?_⟩
    refine ⟨_, rfl, Nat.zero_le _, fun t1 nt1 => ?_⟩
    have s1 := same_new nt1 (.tup [])
    have e1 : (upd H t1 (.tup [])) t1 = some (.tup []) := upd_same
    have P1 := hP.new nt1 (.tup [])
    generalize (upd H t1 (.tup [])) = H1 at s1 e1 P1
    have hB1 := hB.kp (Same.tup s1)
    refine ⟨_, _, .tup (SqT.of hB1.ents) (dp_ents zs hB1.ent), .tup (SqT.of e1) .nil, shaped_entsT (ens zs) hB.ok.ok, by decide +kernel, _, rfl, ?_⟩
    rw [eqvT_nil]
    refine ite2 (fun c => ?_) (fun c => ?_)
    · exact ⟨_, rfl, q b t zs H1 (Kp.same s1) P1 hB1⟩
    have hne : 0 < zs.length := by
      rcases Nat.eq_zero_or_pos zs.length with h | h
      · exfalso
        rw [List.length_eq_zero_iff.mp h] at c
        exact c (decide_eq_true rfl)
      · exact h
    refine ⟨_, rfl, _, rfl, t, _, rfl, .inr (SqT.of hB1.ents), p, _, rfl, P1, by rw [List.length_map]; omega, by rw [List.length_map]; omega, fun at0 H2 k2 P2 a2 b2 => ?_⟩
    rw [List.length_map] at b2
    refine ⟨_, rfl, p, 5, rfl, P2, by decide, by decide, fun way H3 k3 P3 a3 b3 => ?_⟩
    refine ⟨_, _, rfl, ?_⟩
    have k13 : Kp p H H3 := (Kp.same s1).trans (k2.trans k3)
    have hB3 := hB.kp (k13.tup hP)
    obtain ⟨j, rfl⟩ := Int.eq_ofNat_of_zero_le a2
    have hj : j < zs.length := by omega
    have hzj : zs[j]? = some zs[j] := List.getElem?_eq_getElem hj
    generalize zs[j] = z at hzj
    have hzm : z ∈ zs := List.mem_of_getElem? hzj
    have hez : z.2 ∈ ens zs := List.mem_map.mpr ⟨z, hzm, rfl⟩
    have hsp : zs = zs.take j ++ z :: zs.drop (j + 1) := by
      have h1 : zs.drop j = z :: zs.drop (j + 1) := by
        rw [List.drop_eq_getElem_cons hj]
        congr 1
        have := List.getElem?_eq_getElem hj
        rw [hzj] at this
        injection this with this
        exact this.symm
      rw [← h1, List.take_append_drop]
    refine ⟨_, rfl, _, rfl, t, _, (j : Int), .ref z.1, rfl, rfl, SqT.of hB3.ents, atI_nat (j := j) (by rw [List.getElem?_map, hzj]; rfl), ?_⟩
    have hEz := hB3.ent z hzm
    have hOz := hB.ok.ok z.2 hez
    obtain ⟨r4, hr4, ez4, mk4⟩ := hEz.four
    -- one entry otherwise
    refine ⟨fun σ' H' => ∃ (a' : Addr) (e' : En), σ' = [some (.ref p), some (.ref b), some (.ref fk), some (.int age), some (.ref t), some (.int j), some (.int way), some (.ref a'), none] ∧ Kp p H H' ∧ PenAt H' p ∧ EntAt H' a' e' ∧ e'.num = z.2.num ∧ e'.isDeed = z.2.isDeed ∧ EnOk n (dn (ens zs)) (an (ens zs)) e', ?_, ?_⟩
    · refine ⟨_, rfl, rfl, _, rfl, ?_⟩
      refine ite2 (fun c0 => ?_) (fun c0 => ?_)
      · refine ⟨_, rfl, _, rfl, slA_same ez4 fun s4 H4 sm4 e4 => ?_⟩
        rw [show cutV (.int z.2.num :: .int z.2.day :: .int z.2.wri :: .int z.2.hand :: r4) none (some (1 : Int)) = [.int z.2.num] from cut_to _ 1] at e4
        have P4 : PenAt H4 p := ExtN.pen (.of sm4) P3
        refine ⟨_, rfl, p, rfl, P4, fun v H5 k5 P5 v0 v1 => ⟨(by show 1 ≤ sizeLine; decide), fun t5 nt5 => ?_⟩⟩
        have e45 := k5.tup P4 _ _ e4
        have s6 := same_new nt5 (.tup [.int v])
        have e6 : (upd H5 t5 (.tup [.int v])) t5 = some (.tup [.int v]) := upd_same
        generalize (upd H5 t5 (.tup [.int v])) = H6 at s6 e6
        refine catA_same (s6 _ _ e45) e6 (by show 1 + 1 ≤ 1000; omega) fun t7 H7 s7 e7 => ?_
        have P7 : PenAt H7 p := ExtN.pen (.of (s6.trans s7)) P5
        have k37 : Kp p H3 H7 := (Kp.same sm4).trans (k5.trans ((Kp.same s6).trans (Kp.same s7)))
        refine ⟨_, rfl, _, rfl, ?_⟩
        dsimp only [tNoPart]
        refine slA_same (k37.tup P3 _ _ ez4) fun s8 H8 sm8 e8 => ?_
        rw [show cutV (.int z.2.num :: .int z.2.day :: .int z.2.wri :: .int z.2.hand :: r4) (some (2 : Int)) none = .int z.2.wri :: .int z.2.hand :: r4 from cut_from _ 2] at e8
        refine catA_same (sm8 _ _ e7) e8 (by show 2 + (r4.length + 2) ≤ 1000; omega) fun t9 H9 s9 e9 => ?_
        have k39 : Kp p H3 H9 := k37.trans ((Kp.same sm8).trans (Kp.same s9))
        refine ⟨t9, { z.2 with day := v, wri := z.2.wri }, rfl, k13.trans k39, ExtN.pen (.of (sm8.trans s9)) P7, mk4 H9 t9 v z.2.wri (k39.tup P3) e9, rfl, rfl, ⟨v0, v1⟩, hOz.2⟩
      · refine ⟨_, rfl, rfl, _, rfl, ?_⟩
        refine ite2 (fun c1 => ?_) (fun c1 => ?_)
        · refine ⟨_, rfl, _, rfl, slA_same ez4 fun s4 H4 sm4 e4 => ?_⟩
          rw [show cutV (.int z.2.num :: .int z.2.day :: .int z.2.wri :: .int z.2.hand :: r4) none (some (2 : Int)) = [.int z.2.num, .int z.2.day] from cut_to _ 2] at e4
          have P4 : PenAt H4 p := ExtN.pen (.of sm4) P3
          refine ⟨_, rfl, p, rfl, P4, fun v H5 k5 P5 v0 v1 => ⟨(by show 1 ≤ sizeLine; decide), fun t5 nt5 => ?_⟩⟩
          have e45 := k5.tup P4 _ _ e4
          have s6 := same_new nt5 (.tup [.int v])
          have e6 : (upd H5 t5 (.tup [.int v])) t5 = some (.tup [.int v]) := upd_same
          generalize (upd H5 t5 (.tup [.int v])) = H6 at s6 e6
          refine catA_same (s6 _ _ e45) e6 (by show 2 + 1 ≤ 1000; omega) fun t7 H7 s7 e7 => ?_
          have P7 : PenAt H7 p := ExtN.pen (.of (s6.trans s7)) P5
          have k37 : Kp p H3 H7 := (Kp.same sm4).trans (k5.trans ((Kp.same s6).trans (Kp.same s7)))
          refine ⟨_, rfl, _, rfl, ?_⟩
          dsimp only [tNoPart]
          refine slA_same (k37.tup P3 _ _ ez4) fun s8 H8 sm8 e8 => ?_
          rw [show cutV (.int z.2.num :: .int z.2.day :: .int z.2.wri :: .int z.2.hand :: r4) (some (3 : Int)) none = .int z.2.hand :: r4 from cut_from _ 3] at e8
          refine catA_same (sm8 _ _ e7) e8 (by show 3 + (r4.length + 1) ≤ 1000; omega) fun t9 H9 s9 e9 => ?_
          have k39 : Kp p H3 H9 := k37.trans ((Kp.same sm8).trans (Kp.same s9))
          refine ⟨t9, { z.2 with day := z.2.day, wri := v }, rfl, k13.trans k39, ExtN.pen (.of (sm8.trans s9)) P7, mk4 H9 t9 z.2.day v (k39.tup P3) e9, rfl, rfl, hOz.1, ⟨v0, v1⟩, hOz.2.2⟩
        · obtain ⟨xs0, ex0, g00, _, _, _, g04⟩ := hEz.tup
          -- another word
          refine ⟨_, rfl, rfl, _, rfl, ?_⟩
          refine ite2 (fun c2 => ?w2) (fun c2 => ?els)
          case' w2 =>
            refine ⟨_, rfl, z.1, xs0, 4, _, rfl, rfl, SqT.of ex0, g04, (by show 2 ≤ sizeLine; decide), fun tw ntw => ?_⟩
            have sX := same_new ntw (.tup [.str "paid", .str "void"])
            have eX : (upd H3 tw (.tup [.str "paid", .str "void"])) tw = some (.tup [.str "paid", .str "void"]) := upd_same
            generalize (upd H3 tw (.tup [.str "paid", .str "void"])) = HX at sX eX
            have ei : inV (.str z.2.word) [.str "paid", .str "void"] = decide (z.2.word ∈ (["paid", "void"] : List Str)) := mem_inS (ws := ["paid", "void"])
            refine ⟨tw, _, rfl, .inr (SqT.of eX), rfl, rfl, _, rfl, ?_⟩
            rw [ei]
            refine ite2 (fun c3 => ?_) (fun c3 => ?els2)
            have hw : z.2.word = "paid" ∨ z.2.word = "void" := by
              have h1 : z.2.word ∈ (["paid", "void"] : List Str) := of_decide_eq_true c3
              simpa using h1
            have PX : PenAt HX p := ExtN.pen (.of sX) P3
            obtain ⟨x, o, hk⟩ : ∃ x o, z.2.kd = .act x o := by
              cases hk : z.2.kd with
              | act x o => exact ⟨x, o, rfl⟩
              | deed g t0 rs ws =>
                exfalso
                unfold En.word at hw
                rw [hk] at hw
                rcases hw with h | h
                · exact absurd (show ("deed" : Str) = "paid" from h) (by decide)
                · exact absurd (show ("deed" : Str) = "void" from h) (by decide)
            have hwx : z.2.word = x := by unfold En.word; rw [hk]
            have hEa : H3 z.1 = some (.tup [.int z.2.num, .int z.2.day, .int z.2.wri, .int z.2.hand, .str x, .int o]) := by
              have := hEz
              unfold EntAt at this
              rw [hk] at this
              exact this
            have hO4 := hOz.2.2.2
            rw [hk] at hO4
            have hod : o ∈ dn (ens zs) := by
              rw [hwx] at hw
              rcases hO4.1 with ⟨h, _⟩ | ⟨_, h⟩
              · rw [h] at hw
                rcases hw with h | h <;> exact absurd h (by decide)
              · exact h
            refine ⟨_, rfl, _, rfl, slA_same (sX _ _ hEa) fun s4 H4 sm4 e4 => ?_⟩
            rw [show cutV [.int z.2.num, .int z.2.day, .int z.2.wri, .int z.2.hand, .str x, .int o] none (some (4 : Int)) = [.int z.2.num, .int z.2.day, .int z.2.wri, .int z.2.hand] from cut_to _ 4] at e4
            refine ⟨(by show 2 ≤ sizeLine; decide), fun l5 nl5 => ?_⟩
            have s5 := same_new nl5 (.lst [.str "void", .str "paid"])
            have e5 : (upd H4 l5 (.lst [.str "void", .str "paid"])) l5 = some (.lst [.str "void", .str "paid"]) := upd_same
            generalize (upd H4 l5 (.lst [.str "void", .str "paid"])) = H5 at s5 e5
            have s35 := sX.trans (sm4.trans s5)
            refine ⟨_, rfl, z.1, _, 4, _, rfl, rfl, SqT.of (s35 _ _ hEa), atI_nat (j := 4) rfl, rfl, .inr ⟨_, rfl, ?_⟩⟩
            obtain ⟨x', hx', ga⟩ : ∃ x' : Str, (x' = "paid" ∨ x' = "void") ∧ atI [V.str "void", V.str "paid"] (if decide (V.str x = V.str "void") = true then 1 else 0) = some (.str x') := by
              by_cases cx : x = "void"
              · rw [decide_eq_true (congrArg V.str cx)]
                exact ⟨"paid", .inl rfl, atI_nat (j := 1) rfl⟩
              · rw [decide_eq_false (fun h => cx (by injection h))]
                exact ⟨"void", .inr rfl, atI_nat (j := 0) rfl⟩
            refine ⟨l5, _, _, _, rfl, rfl, SqL.of e5, ga, (by show 1 ≤ sizeLine; decide), fun t6 nt6 => ?_⟩
            have s6 := same_new nt6 (.tup [.str x'])
            have e6 : (upd H5 t6 (.tup [.str x'])) t6 = some (.tup [.str x']) := upd_same
            generalize (upd H5 t6 (.tup [.str x'])) = H6 at s6 e6
            refine catA_same (s6 _ _ (s5 _ _ e4)) e6 (by show 4 + 1 ≤ 1000; omega) fun t7 H7 s7 e7 => ?_
            have s37 := s35.trans (s6.trans s7)
            refine ⟨_, rfl, _, rfl, ?_⟩
            dsimp only [tNoPart]
            refine slA_same (s37 _ _ hEa) fun s8 H8 sm8 e8 => ?_
            rw [show cutV [.int z.2.num, .int z.2.day, .int z.2.wri, .int z.2.hand, .str x, .int o] (some (5 : Int)) none = [.int o] from cut_from _ 5] at e8
            refine catA_same (sm8 _ _ e7) e8 (by show 5 + 1 ≤ 1000; omega) fun t9 H9 s9 e9 => ?_
            have s39 := s37.trans (sm8.trans s9)
            refine ⟨t9, { z.2 with kd := .act x' o }, rfl, k13.trans (Kp.same s39), ExtN.pen (.of s39) P3, e9, rfl, ?_, hOz.1, hOz.2.1, hOz.2.2.1, .inr ⟨hx', hod⟩, hO4.2⟩
            show false = z.2.isDeed
            unfold En.isDeed
            rw [hk]
          case' els =>
            obtain ⟨HX, hX⟩ : ∃ HX, HX = H3 := ⟨_, rfl⟩
            have sX : Same H3 HX := by rw [hX]; exact same_refl _
            rw [← hX]
            clear hX c2
          case' w2 =>
            clear c2 c3 eX ei ntw
          all_goals
            have hEX := hEz.kp (Same.tup sX)
            refine ⟨_, rfl, rfl, _, rfl, ?_⟩
            refine ite2 (fun d2 => ?_) (fun d2 => ?_)
            obtain ⟨xs1, ex1, _, _, _, _, g14⟩ := hEX.tup
            refine ⟨_, rfl, z.1, xs1, 4, _, rfl, rfl, SqT.of ex1, g14, rfl, _, rfl, ?_⟩
            refine ite2 (fun d3 => ?_) (fun d3 => ?_)
            · -- no rests
              have hw : z.2.word = "deed" := by
                have := of_decide_eq_true d3
                injection this
              obtain ⟨g, t0, rs, ws, hk⟩ : ∃ g t0 rs ws, z.2.kd = .deed g t0 rs ws := by
                have hd := hOz.word.mp hw
                unfold En.isDeed at hd
                cases hk : z.2.kd with
                | deed g t0 rs ws => exact ⟨g, t0, rs, ws, rfl⟩
                | act x o => rw [hk] at hd; cases hd
              obtain ⟨r0, w0, h1, h2, h3⟩ : ∃ r w : Addr, HX z.1 = some (.tup [.int z.2.num, .int z.2.day, .int z.2.wri, .int z.2.hand, .str "deed", .int g, .int t0, .ref r, .ref w]) ∧ HX r = some (.tup (rs.map V.int)) ∧ HX w = some (.tup (ws.map V.int)) := by
                have := hEX
                unfold EntAt at this
                rw [hk] at this
                exact this
              have hO4 := hOz.2.2.2
              rw [hk] at hO4
              refine ⟨_, rfl, _, rfl, slA_same h1 fun s4 H4 sm4 e4 => ?_⟩
              rw [show cutV [.int z.2.num, .int z.2.day, .int z.2.wri, .int z.2.hand, .str "deed", .int g, .int t0, .ref r0, .ref w0] none (some (7 : Int)) = [.int z.2.num, .int z.2.day, .int z.2.wri, .int z.2.hand, .str "deed", .int g, .int t0] from cut_to _ 7] at e4
              refine ⟨Nat.zero_le _, fun t5 nt5 => ?_⟩
              have s5 := same_new nt5 (.tup [])
              have e5 : (upd H4 t5 (.tup [])) t5 = some (.tup []) := upd_same
              generalize (upd H4 t5 (.tup [])) = H5 at s5 e5
              have sX5 := sm4.trans s5
              refine ⟨_, rfl, z.1, _, 8, _, rfl, rfl, SqT.of (sX5 _ _ h1), atI_nat (j := 8) rfl, (by show 2 ≤ sizeLine; decide), fun t6 nt6 => ?_⟩
              have s6 := same_new nt6 (.tup [.ref t5, .ref w0])
              have e6 : (upd H5 t6 (.tup [.ref t5, .ref w0])) t6 = some (.tup [.ref t5, .ref w0]) := upd_same
              generalize (upd H5 t6 (.tup [.ref t5, .ref w0])) = H6 at s6 e6
              refine catA_same (s6 _ _ (s5 _ _ e4)) e6 (by show 7 + 2 ≤ 1000; omega) fun t7 H7 s7 e7 => ?_
              have sX7 := sX5.trans (s6.trans s7)
              have s37 := sX.trans sX7
              refine ⟨t7, { z.2 with kd := .deed g t0 [] ws }, rfl, k13.trans (Kp.same s37), ExtN.pen (.of s37) P3, ⟨t5, w0, e7, s7 _ _ (s6 _ _ e5), sX7 _ _ h3⟩, rfl, ?_, hOz.1, hOz.2.1, hOz.2.2.1, hO4.1, hO4.2.1, hO4.2.2.1, Nat.zero_le _, List.Pairwise.nil, (fun _ h => nomatch h), hO4.2.2.2.2.2.2⟩
              show true = z.2.isDeed
              unfold En.isDeed
              rw [hk]
          all_goals
            clear d2
            -- gone, or as it was
            have hB0 := hB3.kp (Same.tup sX)
            have PX : PenAt HX p := ExtN.pen (.of sX) P3
            refine ⟨_, rfl, t, rfl, ⟨_, SqT.of hB0.ents⟩, fun M nM => ?_⟩
            refine lc_sameV (walk_tup (xs := refs zs)) zs (fun u => decide (z.2.num ∈ u.2.names)) (fun u => .ref u.1) (by rw [List.length_map]) (by omega) nM (fun H s => SqT.of (s _ _ hB0.ents)) ?_ ?_
            · rintro i u x H4' H4 hy s4 ⟨rfl, hx⟩ Q1 Q0 q1 q0
              rw [List.getElem?_map, hy] at hx
              injection hx with hx
              subst hx
              have hum := List.mem_of_getElem? hy
              have hOu := hB.ok.ok u.2 (List.mem_map.mpr ⟨u, hum, rfl⟩)
              obtain ⟨xs2, ex2, g20, _⟩ := ((hB0.ent z hzm).kp (Same.tup s4)).tup
              refine ⟨rfl, ?_⟩
              refine ⟨_, rfl, z.1, xs2, 0, _, rfl, rfl, SqT.of ex2, g20, _, rfl, u.1, u.2, n, _, _, rfl, (hB0.ent u hum).kp (Same.tup s4), hOu, fun l H5 s5 el => ?_⟩
              refine ⟨l, _, rfl, .inl (SqL.of el), rfl, flat_ints _, _, rfl, ?_⟩
              rw [mem_inV]
              refine ite2 (fun c => ?_) (fun c => ?_)
              · exact ⟨_, rfl, q1 c _ s5⟩
              · exact q0 (Bool.eq_false_iff.mpr c) _ s5
            intro H4 s4 eM
            refine ⟨Nat.zero_le _, fun l5 nl5 => ?_⟩
            have s5 := same_new nl5 (.lst [])
            have e5 : (upd H4 l5 (.lst [])) l5 = some (.lst []) := upd_same
            generalize (upd H4 l5 (.lst [])) = H5 at s5 e5
            have sX5 := s4.trans s5
            have s35 := sX.trans sX5
            have hB5 := hB3.kp (Same.tup s35)
            have P5 : PenAt H5 p := ExtN.pen (.of s35) P3
            have eM5 : H5 M = some (.lst (refs (zs.filter fun u => decide (z.2.num ∈ u.2.names)))) := s5 _ _ eM
            refine ⟨_, _, .lst (SqL.of eM5) (dp_ents _ fun u hu => hB5.ent u (List.mem_filter.mp hu).1), .lst (SqL.of e5) .nil, shaped_entsL _ (fun e he => by
              obtain ⟨u, hu, rfl⟩ := List.mem_map.mp he
              exact hB.ok.ok u.2 (List.mem_map.mpr ⟨u, (List.mem_filter.mp hu).1, rfl⟩)), by decide +kernel, _, rfl, ?_⟩
            rw [eqvL_nil]
            refine ite2 (fun c => ?_) (fun c => ?_)
            · have hno : ∀ u ∈ ens zs, z.2.num ∉ u.names := fun u hu hm => by
                obtain ⟨u0, hu0, rfl⟩ := List.mem_map.mp hu
                have h1 := of_decide_eq_true c
                rw [List.map_eq_nil_iff, List.map_eq_nil_iff, List.filter_eq_nil_iff] at h1
                exact h1 u0 hu0 (decide_eq_true hm)
              refine ⟨_, rfl, _, rfl, _, rfl, _, rfl, _, rfl, slA_same hB5.ents fun s6 H6 sm6 e6 => ?_⟩
              rw [cut_to] at e6
              refine ⟨_, rfl, _, rfl, _, _, rfl, rfl, _, rfl, ?_⟩
              dsimp only [tNoPart]
              refine slA_same (sm6 _ _ hB5.ents) fun s7 H7 sm7 e7 => ?_
              rw [show ((j : Int) + 1) = ((j + 1 : Nat) : Int) from rfl, cut_from] at e7
              refine catA_same (sm7 _ _ e6) e7 (by rw [List.length_take, List.length_drop, List.length_map]; omega) fun t8 H8 s8 e8 => ⟨(by show 3 ≤ sizeLine; decide), fun b9 nb9 => ?_⟩
              have s9 := same_new nb9 (.tup [.ref fk, .int age, .ref t8])
              have e9 : (upd H8 b9 (.tup [.ref fk, .int age, .ref t8])) b9 = some (.tup [.ref fk, .int age, .ref t8]) := upd_same
              generalize (upd H8 b9 (.tup [.ref fk, .int age, .ref t8])) = H9 at s9 e9
              have s39 := s35.trans (sm6.trans (sm7.trans (s8.trans s9)))
              have hB9 := hB3.kp (Same.tup s39)
              have hen : ens (zs.take j ++ zs.drop (j + 1)) = ens (zs.take j) ++ ens (zs.drop (j + 1)) := List.map_append
              have hen2 : ens zs = ens (zs.take j) ++ z.2 :: ens (zs.drop (j + 1)) := by
                have h1 := congrArg ens hsp
                rw [show ens (zs.take j ++ z :: zs.drop (j + 1)) = ens (zs.take j) ++ z.2 :: ens (zs.drop (j + 1)) from List.map_append] at h1
                exact h1
              refine q b9 t8 (zs.take j ++ zs.drop (j + 1)) H9 (k13.trans (Kp.same s39)) (ExtN.pen (.of s39) P3) ⟨e9, hB9.folk, hB.n2, hB.n6, hB.age0, hB.age1, ?_, fun u hu => hB9.ent u ?_, ?_, ?_⟩
              · rw [s9 _ _ e8, ← List.map_take, ← List.map_drop, ← List.map_append]
              · rcases List.mem_append.mp hu with h | h
                · exact List.mem_of_mem_take h
                · exact List.mem_of_mem_drop h
              · rw [hen]
                have h1 := hB.ok
                rw [hen2] at h1 hno
                exact h1.gone hno
              · rw [List.length_append, List.length_take, List.length_drop]
                omega
            · exact ⟨z.1, z.2, rfl, k13.trans (Kp.same s35), P5, hB5.ent z hzm, rfl, rfl, hOz⟩
    · rintro _ H4 ⟨a', e', rfl, k4, P4, hE', hn', hd', hO'⟩
      have hB4 := hB.kp (k4.tup hP)
      refine ⟨_, rfl, _, rfl, _, rfl, _, rfl, _, rfl, slA_same hB4.ents fun s6 H6 sm6 e6 => ?_⟩
      rw [cut_to] at e6
      refine ⟨_, rfl, (by show 1 ≤ sizeLine; decide), fun t7 nt7 => ?_⟩
      have s7 := same_new nt7 (.tup [.ref a'])
      have e7 : (upd H6 t7 (.tup [.ref a'])) t7 = some (.tup [.ref a']) := upd_same
      generalize (upd H6 t7 (.tup [.ref a'])) = H7 at s7 e7
      refine catA_same (s7 _ _ e6) e7 (by rw [List.length_take, List.length_map]; show _ + 1 ≤ 1000; omega) fun t8 H8 s8 e8 => ?_
      have s48 := sm6.trans (s7.trans s8)
      refine ⟨_, rfl, _, rfl, _, _, rfl, rfl, _, rfl, ?_⟩
      dsimp only [tNoPart]
      refine slA_same (s48 _ _ hB4.ents) fun s9 H9 sm9 e9 => ?_
      rw [show ((j : Int) + 1) = ((j + 1 : Nat) : Int) from rfl, cut_from] at e9
      refine catA_same (sm9 _ _ e8) e9 (by rw [List.length_append, List.length_take, List.length_drop, List.length_map]; show _ + 1 + _ ≤ 1000; omega) fun t10 H10 s10 e10 => ⟨(by show 3 ≤ sizeLine; decide), fun b11 nb11 => ?_⟩
      have s11 := same_new nb11 (.tup [.ref fk, .int age, .ref t10])
      have e11 : (upd H10 b11 (.tup [.ref fk, .int age, .ref t10])) b11 = some (.tup [.ref fk, .int age, .ref t10]) := upd_same
      generalize (upd H10 b11 (.tup [.ref fk, .int age, .ref t10])) = H11 at s11 e11
      have s411 := s48.trans (sm9.trans (s10.trans s11))
      have hB11 := hB4.kp (Same.tup s411)
      have hen : ens (zs.take j ++ (a', e') :: zs.drop (j + 1)) = ens (zs.take j) ++ e' :: ens (zs.drop (j + 1)) := List.map_append
      have hen2 : ens zs = ens (zs.take j) ++ z.2 :: ens (zs.drop (j + 1)) := by
        have h1 := congrArg ens hsp
        rw [show ens (zs.take j ++ z :: zs.drop (j + 1)) = ens (zs.take j) ++ z.2 :: ens (zs.drop (j + 1)) from List.map_append] at h1
        exact h1
      refine q b11 t10 (zs.take j ++ (a', e') :: zs.drop (j + 1)) H11 (k4.trans (Kp.same s411)) (ExtN.pen (.of s411) P4) ⟨e11, hB11.folk, hB.n2, hB.n6, hB.age0, hB.age1, ?_, fun u hu => ?_, ?_, ?_⟩
      · rw [s11 _ _ e10, ← List.map_take, ← List.map_drop, List.append_assoc]
        exact congrArg (fun l => some (HO.tup l)) (List.map_append (f := fun z : Addr × En => V.ref z.1) (l₁ := zs.take j) (l₂ := (a', e') :: zs.drop (j + 1))).symm
      · rcases List.mem_append.mp hu with h | h
        · exact hB11.ent u (List.mem_of_mem_take h)
        · rcases List.mem_cons.mp h with rfl | h
          · exact hE'.kp (Same.tup s411)
          · exact hB11.ent u (List.mem_of_mem_drop h)
      · rw [hen]
        have h1 := hB.ok
        rw [hen2] at h1 hO'
        exact h1.swap hn' hd' hO'
      · rw [List.length_append, List.length_take, List.length_cons, List.length_drop]
        omega
end
end Deed

namespace Deed
open PySem PySem.Spec PyProof.Rows L2 LamX
abbrev V9 : List V := [.int 9999]
theorem turns2 (m : Nat) : ∃ tn : Int, (if (if 2 < (m : Int) then 2 else (m : Int)) > 1 then (if 2 < (m : Int) then 2 else (m : Int)) else 1) = tn ∧ 0 ≤ tn ∧ tn ≤ 2 := ⟨_, rfl, by split <;> split <;> omega, by split <;> split <;> omega⟩
theorem part1_self (es : List En) (k : Int) (D : List Int) (e : En) : part1 es es k D e e = [] := by
  unfold part1
  have : D.find? (fun d => !decide (st es d k e = st es d k e)) = none := by
    rw [List.find?_eq_none]
    intro x _
    simp
  rw [this]
theorem partsAll_self (es : List En) (k : Int) (D : List Int) : ∀ ns : List Int, partsAll es es k D ns = []
  | [] => rfl
  | m :: r => by
    have h := partsAll_self es k D r
    unfold partsAll at h ⊢
    rw [List.flatMap_cons, h, List.append_nil]
    unfold partAt
    cases es.find? (isD m) with
    | none => rfl
    | some e => exact part1_self es k D e
theorem T4At.len {H : Hp} {p : Addr} {rs : List Row4} (h : T4At H p rs) : ∃ xs, H p = some (.lst xs) ∧ xs.length = rs.length := by
  obtain ⟨zs, h1, rfl, _⟩ := h
  exact ⟨_, h1, by simp⟩
theorem rows_len {es es' : List En} {k : Int} {D ns : List Int} (up : ns.Pairwise (· < ·)) (mem : ∀ x, x ∈ ns ↔ x ∈ dn es) (hl : es.length ≤ 16) : (partsAll es es' k D ns).length ≤ 16 := by
  have h1 := partsAll_len es es' k D ns
  have h2 : ns.length ≤ (dn es).length := nodup_len (up.imp fun h => by omega) fun x hx => (mem x).mp hx
  have h3 : (dn es).length ≤ es.length := by
    unfold dn
    rw [List.length_map]
    exact List.length_filter_le _ _
  omega
section
variable {P : Program} {w : World} {K : PySem.W.Frag} {mg : Str → Option Value} {base : Heap} {T : List (Addr × Str)}
abbrev sLaw : Stmt := topS 50
abbrev nLaw : List Str := ["_law_script", "_law_k", "_law_pen_here", "_law_book_here", "_law_other_here", "_law_turn", "_law_known", "_law_row"]
abbrev pLaw : List Str := ["_law_script"]
theorem scLaw : FnScope nLaw pLaw (defScope sLaw) := ⟨rfl, rfl, rfl, by decide +kernel, rfl, by decide +kernel, by decide +kernel⟩
def spLaw (K : PySem.W.Frag) (T : List (Addr × Str)) : Sp := fun vs H Q _ => ∃ (a : Addr) (ns : List Int), vs = [.ref a] ∧ SqL K H a (ns.map V.int) ∧ ns.length ≤ 63 ∧ Tabs T H ∧ ∀ H', Q (.bl true) H'
theorem ok_law {f : Addr} {fd : FuncData} {k : Nat} (F : Fun K "law" "law" sLaw f fd) (C__law_cell_at : CallOk P w K mg base k "_law_cell_at" ["_law_script", "_law_k"] (spCell K)) (C__law_pen : CallOk P w K mg base k "_law_pen" ["_law_cell"] spPen) (C__law_book : CallOk P w K mg base k "_law_book" pBook spBook) (C__law_other : CallOk P w K mg base k "_law_other" pLOther spLOther) (C__law_day : CallOk P w K mg base k "_law_day" pDay spDay) (C__law_draw : CDraw P w K mg base k)
    (C_parting_of : CallOk P w K mg base k "parting_of" pPartOf (spPartOf T)) {dF : List Value} (VD_parting_of : Vals V9 dF) (BD_parting_of : Binds K C_parting_of.fd pPartOf dF) (C__law_parting : CallOk P w K mg base k "_law_parting" pLParting spLParting)
    (m_len : mg "len" = none) (m_min : mg "min" = none) (m_max : mg "max" = none) (m_range : mg "range" = none) : FnOk P w K mg base CX0 (k + 1) f fd pLaw (spLaw K T) := by
  refine F.ok scLaw (fun vs H Q E h => ?_) (fun cdv A outer s H vs Q E hr h => ?_)
  · obtain ⟨a, ns, rfl, _⟩ := h
    rfl
  · obtain ⟨a, ns, rfl, hS, h63, hT, q⟩ := h
    have nd := scLaw.nd
    have nls : ∀ xs : List V, ∀ ps, HO.lst xs ≠ .tbl ps := fun xs ps z => by cases z
    refine ⟨_, pss_cons (ps_for PassesOwn.never rfl (pi_range1 rfl m_range (pa_cons (pe_callB (call_max2 rfl) (by rfl) m_max (by decide +kernel) (pa_cons pe_int (pa_cons (pe_callB (call_min2 rfl) (by rfl) m_min (by decide +kernel) (pa_cons (pe_callB call_len_seq (by rfl) m_len (by decide +kernel) (pa_cons (pv 0) pa_nil)) (pa_cons pe_int pa_nil))) pa_nil))) pa_nil)) (pg_name (i := 1) nd rfl (.inl rfl))
        (pss_cons (ps_set (i := 2) nd rfl (.inl rfl) (pe_call C__law_pen.ok hr (by rfl) C__law_pen.g C__law_pen.kp C__law_pen.b .nil pass0 (pa_cons (pe_call C__law_cell_at.ok hr (by rfl) C__law_cell_at.g C__law_cell_at.kp C__law_cell_at.b .nil pass0 (pa_cons (pv 0) (pa_cons (pv 1) pa_nil))) pa_nil)))
      (pss_cons (ps_set (i := 3) nd rfl (.inl rfl) (pe_call C__law_book.ok hr (by rfl) C__law_book.g C__law_book.kp C__law_book.b .nil pass0 (pa_cons (pv 2) (pa_cons pe_int pa_nil))))
      (pss_cons (ps_set (i := 4) nd rfl (.inl rfl) (pv 3))
      (pss_cons (ps_for PassesOwn.never rfl (pi_range1 rfl m_range (pa_cons pe_int pa_nil)) (pg_name (i := 5) nd rfl (.inl rfl))
        (pss_cons (ps_set (i := 4) nd rfl (.inl rfl) (pe_call C__law_other.ok hr (by rfl) C__law_other.g C__law_other.kp C__law_other.b .nil pass0 (pa_cons (pv 2) (pa_cons (pv 4) pa_nil))))
      (pss_cons (ps_set (i := 6) nd rfl (.inl rfl) (pe_ix ix_list (pe_lst (pa_cons (pe_call C__law_day.ok hr (by rfl) C__law_day.g C__law_day.kp C__law_day.b .nil pass0 (pa_cons (pv 2) pa_nil)) (pa_cons pe_int (pa_cons pe_int pa_nil)))) (pe_call C__law_draw.ok hr (by rfl) C__law_draw.g C__law_draw.kp C__law_draw.b .nil pass0 (pa_cons (pv 2) (pa_cons pe_int pa_nil))) (fun _ _ => rfl)))
      (pss_cons (ps_set (i := 7) nd rfl (.inl rfl) (pe_call C_parting_of.ok hr (by rfl) C_parting_of.g C_parting_of.kp C_parting_of.b .nil pass0 (pa_cons (pv 3) (pa_cons (pv 4) (pa_cons (pv 6) pa_nil)))))
      (pss_cons (ps_if (pt_cmpR (op_neD hr.units) (pv 7) (pe_call C__law_parting.ok hr (by rfl) C__law_parting.g C__law_parting.kp C__law_parting.b .nil pass0 (pa_cons (pv 3) (pa_cons (pv 4) (pa_cons (pv 6) pa_nil)))) (nomark _)) (pss_one (ps_ret pe_bl)) pss_nil)
      (pss_cons (ps_expr (pe_bm PySem.F.plainAttrs_list PySem.F.slot_list_append PySem.F.type_list_append mt_append (pv 7) (pa_cons (pe_tup pa_nil) pa_nil)))
      (pss_one (ps_if (pt_cmpR (op_neD hr.units) (pe_call C_parting_of.ok hr (by rfl) C_parting_of.g C_parting_of.kp C_parting_of.b .nil pass0 (pa_cons (pv 4) (pa_cons (pv 3) (pa_cons (pv 6) pa_nil)))) (pe_call C__law_parting.ok hr (by rfl) C__law_parting.g C__law_parting.kp C__law_parting.b .nil pass0 (pa_cons (pv 4) (pa_cons (pv 3) (pa_cons (pv 6) pa_nil)))) (nomark _)) (pss_one (ps_ret pe_bl)) pss_nil))))))))
      (pss_cons (ps_if (pt_cmpR (op_neD hr.units) (pe_call C_parting_of.ok hr (by rfl) C_parting_of.g C_parting_of.kp C_parting_of.b .nil pass0 (pa_cons (pv 3) (pa_cons (pv 3) (pa_cons (pe_call C__law_day.ok hr (by rfl) C__law_day.g C__law_day.kp C__law_day.b .nil pass0 (pa_cons (pv 2) pa_nil)) pa_nil)))) (pe_lst pa_nil) (nomark _)) (pss_one (ps_ret pe_bl)) pss_nil)
      (pss_cons (ps_if (pt_cmpR (op_neD hr.units) (pe_call C_parting_of.ok hr (by rfl) C_parting_of.g C_parting_of.kp BD_parting_of VD_parting_of pass0 (pa_cons (pv 3) (pa_cons (pv 4) pa_nil))) (pe_call C__law_parting.ok hr (by rfl) C__law_parting.g C__law_parting.kp C__law_parting.b .nil pass0 (pa_cons (pv 3) (pa_cons (pv 4) (pa_cons pe_int pa_nil)))) (nomark _)) (pss_one (ps_ret pe_bl)) pss_nil)
      (pss_one (ps_if (pt_cmpR (op_neD hr.units) (pe_call C_parting_of.ok hr (by rfl) C_parting_of.g C_parting_of.kp C_parting_of.b .nil pass0 (pa_cons (pv 4) (pa_cons (pv 3) (pa_cons pe_int pa_nil)))) (pe_call C__law_parting.ok hr (by rfl) C__law_parting.g C__law_parting.kp C__law_parting.b .nil pass0 (pa_cons (pv 4) (pa_cons (pv 3) (pa_cons pe_int pa_nil)))) (nomark _)) (pss_one (ps_ret pe_bl)) pss_nil)))))))))
      (pss_one (ps_ret pe_bl)), ?_⟩
    have hl : (ns.map V.int).length = ns.length := List.length_map _
    refine ⟨_, rfl, a, _, rfl, .inl hS, _, _, rfl, _, _, rfl, ?_⟩
    rw [hl]
    obtain ⟨tn, etn, ht0, ht3⟩ := turns2 ns.length
    rw [etn]
    refine ⟨_, rfl, by omega, by omega, ?_⟩
    refine for_range (lo := 0) (n := tn.toNat) (fun i σ H' => ∃ y1 y2 y3 y4 y5 y6 y7, σ = [some (.ref a), y1, y2, y3, y4, y5, y6, y7] ∧ ExtN H H' ∧ Tabs T H') ⟨_, _, _, _, _, _, _, rfl, ExtN.refl H, hT⟩ ?_ (fun σ H' _ => q H')
    rintro i σ H' hi ⟨y1, y2, y3, y4, y5, y6, y7, rfl, eN, T'⟩
    refine ⟨_, rfl, _, rfl, a, ns, _, rfl, ExtN.sqL eN hS, by omega, fun cv => ?_⟩
    refine ⟨cv, rfl, fun p H1 s1 np P1 => ?_⟩
    have T1 : Tabs T H1 := T'.ext s1
    refine ⟨_, rfl, p, 14, rfl, P1, by decide, by decide, fun b fk t n age zs H2 k2 P2 hB2 _ => ?_⟩
    have T2 : Tabs T H2 := Tabs.kp T1 k2 P1
    have e2 : ExtN H' H2 := ExtN.kp (ExtN.of s1) np k2
    have len := hB2.len
    refine ⟨_, rfl, ?_⟩
    refine ⟨_, rfl, by omega, by omega, ?_⟩
    refine for_range (lo := 0) (n := 4) (fun j σ H' => ∃ (c ct : Addr) (cs : List (Addr × En)), ∃ y5 y6 y7, σ = [some (.ref a), some (.int (0 + (i : Int))), some (.ref p), some (.ref b), some (.ref c), y5, y6, y7] ∧ XP p H2 H' ∧ PenAt H' p ∧ Tabs T H' ∧ BookAt H' c fk ct n age cs) ⟨b, t, zs, _, _, _, rfl, XP.refl _ _, P2, T2, hB2⟩ ?_ ?_
    · rintro j σ H3 hj ⟨c, ct, cs, z5, z6, z7, rfl, x3, P3, T3, hC3⟩
      refine ⟨_, rfl, _, rfl, p, c, fk, ct, n, age, cs, rfl, P3, hC3, fun c' ct' cs' H4 k4 P4 hC4 => ?_⟩
      have T4 := Tabs.kp T3 k4 P3
      have x4 := x3.trans (XP.ofK k4)
      refine ⟨_, rfl, p, rfl, P4, fun v H5 k5 P5 v0 v1 => ⟨(by show 3 ≤ sizeLine; decide), fun l5 nl5 => ?_⟩⟩
      have s6 := same_new nl5 (.lst [.int v, .int 9999, .int 0])
      have e6 : (upd H5 l5 (.lst [.int v, .int 9999, .int 0])) l5 = some (.lst (([v, 9999, 0] : List Int).map V.int)) := upd_same
      have P6 : PenAt (upd H5 l5 (.lst [.int v, .int 9999, .int 0])) p := P5.new nl5 _
      have nlp : l5 ≠ p := P5.free nl5
      generalize (upd H5 l5 (.lst [.int v, .int 9999, .int 0])) = H6 at s6 e6 P6
      refine ⟨_, rfl, p, 3, rfl, P6, by decide, by decide, fun u H7 k7 P7 u0 u1 => ?_⟩
      have hu3 : u.toNat < ([v, 9999, 0] : List Int).length := by show u.toNat < 3; omega
      obtain ⟨kk, hkk, hk⟩ : ∃ kk : Int, ([v, 9999, 0] : List Int)[u.toNat]? = some kk ∧ 0 ≤ kk ∧ kk ≤ 9999 := by
        refine ⟨_, List.getElem?_eq_getElem hu3, ?_⟩
        have hm := List.getElem_mem hu3
        generalize ([v, 9999, 0] : List Int)[u.toNat] = kk at hm
        simp only [List.mem_cons, List.not_mem_nil, or_false] at hm
        rcases hm with rfl | rfl | rfl <;> omega
      refine ⟨l5, _, u, .int kk, rfl, rfl, SqL.of (k7 _ _ nlp e6), at_of (j := u.toNat) (by omega) (by rw [List.getElem?_map, hkk]; rfl), ?_⟩
      have T7 : Tabs T H7 := Tabs.kp ((Tabs.kp T4 k5 P4).ext s6) k7 P6
      have k47 : Kp p H4 H7 := k5.trans ((Kp.same s6).trans k7)
      have x7 := x4.trans (XP.ofK k47)
      have hC7 := hC4.kp (k47.tup P4)
      have hB7 := hB2.kp (x7.tup P2)
      have lenC := hC4.len
      refine ⟨_, rfl, _, rfl, _, rfl, b, fk, t, c', fk, ct', n, n, age, age, zs, cs', kk, rfl, hB7, hC7, T7, hk, fun r D ms H8 e8 T8 fr8 hD hup hmem h4 => ?_⟩
      refine ⟨_, rfl, _, rfl, _, rfl, _, rfl, b, fk, t, c', fk, ct', n, n, age, age, zs, cs', kk, rfl, hB7.kp (ExtN.tup e8), hC7.kp (ExtN.tup e8), fun r2 D2 ms2 H9 s9 nr2 hD2 hup2 hmem2 h42 => ?_⟩
      obtain rfl := hD.one hD2
      obtain rfl := up_one hup hup2 fun x => by rw [hmem, hmem2]
      have h49 := h4.same s9
      refine ⟨rows4D _, rows4D _, h49.dp, h42.dp, shaped_rows4 _ partsAll_ok, shaped_rows4 _ partsAll_ok, _, rfl, ?_⟩
      rw [eqv_rows4]
      refine iteF ?_
      obtain ⟨xs, er, hxl⟩ := h49.len
      have hrl := rows_len (es' := ens cs') (k := kk) (D := D) hup hmem (by rw [List.length_map]; exact len)
      have T9 := T8.ext s9
      refine ⟨_, rfl, .inl ⟨rfl, _, SqL.of er⟩, Nat.zero_le _, fun t2 nt2 => ?_⟩
      have s10 := same_new nt2 (.tup [])
      have T10 : Tabs T (upd H9 t2 (.tup [])) := T9.ext s10
      have er10 := s10 _ _ er
      generalize (upd H9 t2 (.tup [])) = H10 at s10 T10 er10
      refine ⟨r, _, _, rfl, rfl, er10, small1000 (by omega), ?_⟩
      have e711 : ExtN H7 (upd H10 r (.lst (xs ++ [.ref t2]))) := ExtN.put (e8.trans (.of (s9.trans s10))) fr8 _
      have T11 : Tabs T (upd H10 r (.lst (xs ++ [.ref t2]))) := Tabs.put T10 er10 _
      generalize (upd H10 r (.lst (xs ++ [.ref t2]))) = H11 at e711 T11
      have hB11 := hB7.kp (ExtN.tup e711)
      have hC11 := hC7.kp (ExtN.tup e711)
      refine ⟨_, rfl, _, rfl, _, rfl, c', fk, ct', b, fk, t, n, n, age, age, cs', zs, kk, rfl, hC11, hB11, T11, hk, fun r D3 ms H12 e12 T12 fr12 hD hup hmem h4 => ?_⟩
      refine ⟨_, rfl, _, rfl, _, rfl, c', fk, ct', b, fk, t, n, n, age, age, cs', zs, kk, rfl, hC11.kp (ExtN.tup e12), hB11.kp (ExtN.tup e12), fun r2 D2 ms2 H13 s13 nr2 hD2 hup2 hmem2 h42 => ?_⟩
      obtain rfl := hD.one hD2
      obtain rfl := up_one hup hup2 fun x => by rw [hmem, hmem2]
      refine ⟨rows4D _, rows4D _, (h4.same s13).dp, h42.dp, shaped_rows4 _ partsAll_ok, shaped_rows4 _ partsAll_ok, _, rfl, ?_⟩
      rw [eqv_rows4]
      refine iteF ?_
      have e713 := e711.trans (e12.trans (.of s13))
      exact ⟨c', ct', cs', _, _, _, rfl, x7.trans (XP.ofN e713), ExtN.pen e713 P7, T12.ext s13, hC7.kp (ExtN.tup e713)⟩
    rintro σ H3 ⟨c, ct, cs, z5, z6, z7, rfl, x3, P3, T3, hC3⟩
    have hB3 := hB2.kp (x3.tup P2)
    refine ⟨_, rfl, _, rfl, _, rfl, p, rfl, P3, fun v H4 k4 P4 v0 v1 => ?_⟩
    have T4 := Tabs.kp T3 k4 P3
    have hB4 := hB3.kp (k4.tup P3)
    have hC4 := hC3.kp (k4.tup P3)
    refine ⟨b, fk, t, b, fk, t, n, n, age, age, zs, zs, v, rfl, hB4, hB4, T4, ⟨v0, v1⟩, fun r D ms H5 e5 T5 fr5 hD hup hmem h4 => ?_⟩
    rw [partsAll_self] at h4
    refine ⟨Nat.zero_le _, fun l6 nl6 => ?_⟩
    have s6 := same_new nl6 (.lst [])
    have e6 : (upd H5 l6 (.lst [])) l6 = some (.lst []) := upd_same
    generalize (upd H5 l6 (.lst [])) = H6 at s6 e6
    have e46 := e5.trans (.of s6)
    refine ⟨rows4D [], .list [], (h4.same s6).dp, .lst (SqL.of e6) .nil, by decide +kernel, by decide +kernel, _, rfl, ?_⟩
    rw [show PyData.eqv (rows4D []) (.list []) = true from by decide +kernel]
    refine iteF ?_
    have T6 := T5.ext s6
    have h9 : (0 : Int) ≤ 9999 ∧ (9999 : Int) ≤ 9999 := by decide
    have hB6 := hB4.kp (ExtN.tup e46)
    have hC6 := hC4.kp (ExtN.tup e46)
    refine ⟨_, rfl, _, rfl, b, fk, t, c, fk, ct, n, n, age, age, zs, cs, 9999, rfl, hB6, hC6, T6, h9, fun r D ms H7 e7 T7 fr7 hD hup hmem h4 => ?_⟩
    refine ⟨_, rfl, _, rfl, b, fk, t, c, fk, ct, n, n, age, age, zs, cs, 9999, rfl, hB6.kp (ExtN.tup e7), hC6.kp (ExtN.tup e7), fun r2 D2 ms2 H8 s8 nr2 hD2 hup2 hmem2 h42 => ?_⟩
    obtain rfl := hD.one hD2
    obtain rfl := up_one hup hup2 fun x => by rw [hmem, hmem2]
    refine ⟨rows4D _, rows4D _, (h4.same s8).dp, h42.dp, shaped_rows4 _ partsAll_ok, shaped_rows4 _ partsAll_ok, _, rfl, ?_⟩
    rw [eqv_rows4]
    refine iteF ?_
    have e48 := e46.trans (e7.trans (.of s8))
    have T8 := T7.ext s8
    have hB8 := hB4.kp (ExtN.tup e48)
    have hC8 := hC4.kp (ExtN.tup e48)
    refine ⟨_, rfl, _, rfl, c, fk, ct, b, fk, t, n, n, age, age, cs, zs, 5, rfl, hC8, hB8, T8, by decide, fun r D ms H9 e9 T9 fr9 hD hup hmem h4 => ?_⟩
    refine ⟨_, rfl, _, rfl, c, fk, ct, b, fk, t, n, n, age, age, cs, zs, 5, rfl, hC8.kp (ExtN.tup e9), hB8.kp (ExtN.tup e9), fun r2 D2 ms2 H10 s10 nr2 hD2 hup2 hmem2 h42 => ?_⟩
    obtain rfl := hD.one hD2
    obtain rfl := up_one hup hup2 fun x => by rw [hmem, hmem2]
    refine ⟨rows4D _, rows4D _, (h4.same s10).dp, h42.dp, shaped_rows4 _ partsAll_ok, shaped_rows4 _ partsAll_ok, _, rfl, ?_⟩
    rw [eqv_rows4]
    refine iteF ?_
    have e410 := e48.trans (e9.trans (.of s10))
    refine ⟨_, _, _, _, _, _, _, rfl, eN.trans (XP.toN e2 np (x3.trans ((XP.ofK k4).trans (XP.ofN e410)))), T9.ext s10⟩
end
end Deed

namespace Deed
open PySem PySem.Spec PyProof.Rows L2 LamX
/-! ### the end: the facts by names -/
def mkD (x : Str) (st : Stmt) : He.DefD := ⟨(x, none), x, x, defArgs st, defBody st, defScope st, [], []⟩
def mkDd (x : Str) (st : Stmt) (dfl : List He.Dv) : He.DefD := ⟨(x, none), x, x, defArgs st, defBody st, defScope st, dfl, []⟩
def fnAll : List He.DefD := [mkD "_law_cell_at" sCell, mkD "_law_pen" sPen, mkD "_law_draw" sDraw, mkD "_law_day" sDay, mkD "_law_folk" sFolk, mkD "_law_mixed" sMixed, mkD "_law_few" sFew, mkD "_law_deed" sDeed, mkD "_law_act" sAct, mkD "_law_book" sBook, mkD "entries_rising" sRising, mkD "deed_entries" sDeedE, mkD "act_entries" sActE, mkD "deeds_of" sDeedsOf, mkD "is_whole" sWhole, mkD "is_within" sWithin, mkD "is_day" sIsDay, mkD "check_day" sCheckDay, mkD "open_acts" sOpenA, mkD "acts_on" sActsOn, mkD "acts_in_force" sForced, mkD "word_of_deed" sWordOf, mkDd "all_standing" sAllSt [.int 9999], mkD "days_at" sDaysAt, mkD "first_parting" sFirstP, mkDd "parting_of" sPartOf [.int 9999], mkD "_law_named" sLNamed, mkD "_law_other" sLOther, mkD "_law_is_open" sIsOp, mkD "_law_forces" sForces, mkD "_law_standing" sLStanding, mkD "_law_days" sLDays2, mkD "_law_parting" sLParting, mkD "law" sLaw]
def faAll : List He.Fa := [.glo "_law_cell_at", .glo "_law_pen", .glo "_law_draw", .glo "_law_day", .glo "_law_folk", .glo "_law_mixed", .glo "_law_few", .glo "_law_deed", .glo "_law_act", .glo "_law_book", .glo "entries_rising", .glo "deed_entries", .glo "act_entries", .glo "deeds_of", .glo "is_whole", .glo "is_within", .glo "is_day", .glo "check_day", .glo "open_acts", .glo "acts_on", .glo "acts_in_force", .glo "word_of_deed", .glo "all_standing", .glo "days_at", .glo "first_parting", .glo "parting_of", .glo "_law_named", .glo "_law_other", .glo "_law_is_open", .glo "_law_forces", .glo "_law_standing", .glo "_law_days", .glo "_law_parting", .glo "law", .free "range", .free "min", .free "max", .free "tuple", .free "list", .free "len", .free "sorted", .free "int", .free "isinstance", .free "bool", .free "dict", .free "any", .free "zip", .free "set", .int "NUMBER" 0, .int "WORD" 4, .int "DAY" 1, .int "WRITTEN" 2, .int "OF" 5, .int "RESTS" 7, .int "LAST_DAY" 9999, .glo "CARRYING"]
def tfAll : List He.Defn := [("entries_rising", none)]
abbrev tsAll : List He.Tab := []
def exAll (K : PySem.W.Frag) : Bool := He.tupB K "CARRYING" [.str "stands", .str "paid"]
abbrev rowR : PySem.W.OpenRow := PySem.W.OpenLaw.row PySem.Challenge.rw_deedsheaf_k42_what_parts_two_books
abbrev hk : PySem.W.Hook := He.hookX 4 faAll fnAll tsAll tfAll exAll
def ob (s : PySem.W.SharedT) : He.AlX := He.obsX 4 faAll fnAll tsAll tfAll exAll (HandSHeadRun.getT s)
theorem ob_eq (s : PySem.W.SharedT) : ob s = hk.obs s.abs := He.obsX_eq (HandSHeadRun.getT_eq s)
def looseAll : List Str := (["NUMBER", "DAY", "WRITTEN", "WORD", "OF", "RESTS", "LAST_DAY", "is_whole", "is_within", "is_day", "entries_rising", "deed_entries"] : List Str) ++ (["act_entries", "deeds_of", "SheafError", "NoDay", "check_day", "CARRYING", "open_acts", "acts_on", "acts_in_force", "word_of_deed", "all_standing", "days_at"] : List Str) ++ (["first_parting", "parting_of", "_law_pen", "_law_cell_at", "_law_draw", "_law_folk", "_law_mixed", "_law_day", "_law_few", "_law_deed", "_law_act", "_law_book"] : List Str) ++ (["_law_named", "_law_other", "_law_is_open", "_law_forces", "_law_standing", "_law_days", "_law_parting"] : List Str)
theorem run (w : World) : HandSHeadRun.RunEq rowR (PySem.W.view rowR.prog [50]) hk ob 12000 looseAll w := by
  intro os
  kernel_rfl
theorem funOf {K : PySem.W.Frag} {x : Str} {st : Stmt} {f : Addr} {fd : FuncData} (F : FunD K x x (defArgs st) (defBody st) (defScope st) [] [] f fd) : Fun K x x st f fd := by
  obtain ⟨oc, od, dV, kV, doc, pm, an, cdv, ct, osl, e, lk, hcd, hD, hK⟩ := F.ex
  rcases hD with ⟨_, hD⟩ | ⟨hD, _⟩
  · subst hD
    exact ⟨⟨oc, od, kV, doc, pm, an, cdv, ct, osl, e, lk, hcd⟩, F.kp⟩
  · exact absurd rfl hD
theorem codeAt {K : PySem.W.Frag} {x : Str} {st : Stmt} {p : He.Defn} {fd : FuncData} (F : Fun K x x st (He.fAd K p) fd) : fd.code = .ref (He.cT K p).1 := by
  obtain ⟨oc, od, kV, doc, pm, an, cdv, ct, osl, e, lk, hcd⟩ := F.ex
  obtain ⟨c, ec⟩ := He.codeIn_ref hcd
  have e2 : fd.code = .ref c := by rw [e, ← ec]
  rw [show (He.cT K p).1 = c from He.codeOf_eq lk e2]
  exact e2
theorem facts {l : PySem.W.OpenLaw} {w : World} {K : PySem.W.Frag} {h : Heap} {mg : Str → Option Value} {f : Addr} (X : K.In h) (G : h.Ns mainGlobals mg) (hfa : mg ("law" : Str) = some (.ref f)) (c : He.SaysX faAll fnAll tsAll tfAll exAll w h K) : LawAtS l w K CX0 37 63 "_law_script" mg f h := by
  obtain ⟨d0, F0'⟩ := c.t.d.def_ 0 (d := mkD "_law_cell_at" sCell) rfl
  have g0 := He.glo_ok X G (c.t.d.fact 0 (f := .glo "_law_cell_at") rfl)
  have F0 : Fun K "_law_cell_at" "_law_cell_at" sCell (He.fAd K ("_law_cell_at", none)) d0 := funOf F0'
  have D0 : Df K mg "_law_cell_at" sCell ["_law_script", "_law_k"] _ d0 := ⟨F0, F0.binds (ps := ["_law_script", "_law_k"]) (fun _ _ _ _ _ _ us hl => match us, hl with | [_, _], _ => rfl), g0⟩
  obtain ⟨d1, F1'⟩ := c.t.d.def_ 1 (d := mkD "_law_pen" sPen) rfl
  have g1 := He.glo_ok X G (c.t.d.fact 1 (f := .glo "_law_pen") rfl)
  have F1 : Fun K "_law_pen" "_law_pen" sPen (He.fAd K ("_law_pen", none)) d1 := funOf F1'
  have D1 : Df K mg "_law_pen" sPen ["_law_cell"] _ d1 := ⟨F1, F1.binds (ps := ["_law_cell"]) (fun _ _ _ _ _ _ us hl => match us, hl with | [_], _ => rfl), g1⟩
  obtain ⟨d2, F2'⟩ := c.t.d.def_ 2 (d := mkD "_law_draw" sDraw) rfl
  have g2 := He.glo_ok X G (c.t.d.fact 2 (f := .glo "_law_draw") rfl)
  have F2 : Fun K "_law_draw" "_law_draw" sDraw (He.fAd K ("_law_draw", none)) d2 := funOf F2'
  have D2 : Df K mg "_law_draw" sDraw ["_law_pen_here", "_law_bound"] _ d2 := ⟨F2, F2.binds (ps := ["_law_pen_here", "_law_bound"]) (fun _ _ _ _ _ _ us hl => match us, hl with | [_, _], _ => rfl), g2⟩
  obtain ⟨d3, F3'⟩ := c.t.d.def_ 3 (d := mkD "_law_day" sDay) rfl
  have g3 := He.glo_ok X G (c.t.d.fact 3 (f := .glo "_law_day") rfl)
  have F3 : Fun K "_law_day" "_law_day" sDay (He.fAd K ("_law_day", none)) d3 := funOf F3'
  have D3 : Df K mg "_law_day" sDay ["_law_pen_here"] _ d3 := ⟨F3, F3.binds (ps := ["_law_pen_here"]) (fun _ _ _ _ _ _ us hl => match us, hl with | [_], _ => rfl), g3⟩
  obtain ⟨d4, F4'⟩ := c.t.d.def_ 4 (d := mkD "_law_folk" sFolk) rfl
  have g4 := He.glo_ok X G (c.t.d.fact 4 (f := .glo "_law_folk") rfl)
  have F4 : Fun K "_law_folk" "_law_folk" sFolk (He.fAd K ("_law_folk", none)) d4 := funOf F4'
  have D4 : Df K mg "_law_folk" sFolk ["_law_pen_here", "_law_least"] _ d4 := ⟨F4, F4.binds (ps := ["_law_pen_here", "_law_least"]) (fun _ _ _ _ _ _ us hl => match us, hl with | [_, _], _ => rfl), g4⟩
  obtain ⟨d5, F5'⟩ := c.t.d.def_ 5 (d := mkD "_law_mixed" sMixed) rfl
  have g5 := He.glo_ok X G (c.t.d.fact 5 (f := .glo "_law_mixed") rfl)
  have F5 : Fun K "_law_mixed" "_law_mixed" sMixed (He.fAd K ("_law_mixed", none)) d5 := funOf F5'
  have D5 : Df K mg "_law_mixed" sMixed ["_law_pen_here", "_law_some"] _ d5 := ⟨F5, F5.binds (ps := ["_law_pen_here", "_law_some"]) (fun _ _ _ _ _ _ us hl => match us, hl with | [_, _], _ => rfl), g5⟩
  obtain ⟨d6, F6'⟩ := c.t.d.def_ 6 (d := mkD "_law_few" sFew) rfl
  have g6 := He.glo_ok X G (c.t.d.fact 6 (f := .glo "_law_few") rfl)
  have F6 : Fun K "_law_few" "_law_few" sFew (He.fAd K ("_law_few", none)) d6 := funOf F6'
  have D6 : Df K mg "_law_few" sFew ["_law_pen_here", "_law_some", "_law_most"] _ d6 := ⟨F6, F6.binds (ps := ["_law_pen_here", "_law_some", "_law_most"]) (fun _ _ _ _ _ _ us hl => match us, hl with | [_, _, _], _ => rfl), g6⟩
  obtain ⟨d7, F7'⟩ := c.t.d.def_ 7 (d := mkD "_law_deed" sDeed) rfl
  have g7 := He.glo_ok X G (c.t.d.fact 7 (f := .glo "_law_deed") rfl)
  have F7 : Fun K "_law_deed" "_law_deed" sDeed (He.fAd K ("_law_deed", none)) d7 := funOf F7'
  have D7 : Df K mg "_law_deed" sDeed ["_law_pen_here", "_law_number", "_law_folk_here", "_law_deeds"] _ d7 := ⟨F7, F7.binds (ps := ["_law_pen_here", "_law_number", "_law_folk_here", "_law_deeds"]) (fun _ _ _ _ _ _ us hl => match us, hl with | [_, _, _, _], _ => rfl), g7⟩
  obtain ⟨d8, F8'⟩ := c.t.d.def_ 8 (d := mkD "_law_act" sAct) rfl
  have g8 := He.glo_ok X G (c.t.d.fact 8 (f := .glo "_law_act") rfl)
  have F8 : Fun K "_law_act" "_law_act" sAct (He.fAd K ("_law_act", none)) d8 := funOf F8'
  have D8 : Df K mg "_law_act" sAct ["_law_pen_here", "_law_number", "_law_deeds", "_law_acts"] _ d8 := ⟨F8, F8.binds (ps := ["_law_pen_here", "_law_number", "_law_deeds", "_law_acts"]) (fun _ _ _ _ _ _ us hl => match us, hl with | [_, _, _, _], _ => rfl), g8⟩
  obtain ⟨d9, F9'⟩ := c.t.d.def_ 9 (d := mkD "_law_book" sBook) rfl
  have g9 := He.glo_ok X G (c.t.d.fact 9 (f := .glo "_law_book") rfl)
  have F9 : Fun K "_law_book" "_law_book" sBook (He.fAd K ("_law_book", none)) d9 := funOf F9'
  have D9 : Df K mg "_law_book" sBook ["_law_pen_here", "_law_most"] _ d9 := ⟨F9, F9.binds (ps := ["_law_pen_here", "_law_most"]) (fun _ _ _ _ _ _ us hl => match us, hl with | [_, _], _ => rfl), g9⟩
  obtain ⟨d10, F10'⟩ := c.t.d.def_ 10 (d := mkD "entries_rising" sRising) rfl
  have g10 := He.glo_ok X G (c.t.d.fact 10 (f := .glo "entries_rising") rfl)
  have F10 : Fun K "entries_rising" "entries_rising" sRising (He.fAd K ("entries_rising", none)) d10 := funOf F10'
  have D10 : Df K mg "entries_rising" sRising ["book"] _ d10 := ⟨F10, F10.binds (ps := ["book"]) (fun _ _ _ _ _ _ us hl => match us, hl with | [_], _ => rfl), g10⟩
  obtain ⟨d11, F11'⟩ := c.t.d.def_ 11 (d := mkD "deed_entries" sDeedE) rfl
  have g11 := He.glo_ok X G (c.t.d.fact 11 (f := .glo "deed_entries") rfl)
  have F11 : Fun K "deed_entries" "deed_entries" sDeedE (He.fAd K ("deed_entries", none)) d11 := funOf F11'
  have D11 : Df K mg "deed_entries" sDeedE ["book"] _ d11 := ⟨F11, F11.binds (ps := ["book"]) (fun _ _ _ _ _ _ us hl => match us, hl with | [_], _ => rfl), g11⟩
  obtain ⟨d12, F12'⟩ := c.t.d.def_ 12 (d := mkD "act_entries" sActE) rfl
  have g12 := He.glo_ok X G (c.t.d.fact 12 (f := .glo "act_entries") rfl)
  have F12 : Fun K "act_entries" "act_entries" sActE (He.fAd K ("act_entries", none)) d12 := funOf F12'
  have D12 : Df K mg "act_entries" sActE ["book"] _ d12 := ⟨F12, F12.binds (ps := ["book"]) (fun _ _ _ _ _ _ us hl => match us, hl with | [_], _ => rfl), g12⟩
  obtain ⟨d13, F13'⟩ := c.t.d.def_ 13 (d := mkD "deeds_of" sDeedsOf) rfl
  have g13 := He.glo_ok X G (c.t.d.fact 13 (f := .glo "deeds_of") rfl)
  have F13 : Fun K "deeds_of" "deeds_of" sDeedsOf (He.fAd K ("deeds_of", none)) d13 := funOf F13'
  have D13 : Df K mg "deeds_of" sDeedsOf ["book"] _ d13 := ⟨F13, F13.binds (ps := ["book"]) (fun _ _ _ _ _ _ us hl => match us, hl with | [_], _ => rfl), g13⟩
  obtain ⟨d14, F14'⟩ := c.t.d.def_ 14 (d := mkD "is_whole" sWhole) rfl
  have g14 := He.glo_ok X G (c.t.d.fact 14 (f := .glo "is_whole") rfl)
  have F14 : Fun K "is_whole" "is_whole" sWhole (He.fAd K ("is_whole", none)) d14 := funOf F14'
  have D14 : Df K mg "is_whole" sWhole ["thing"] _ d14 := ⟨F14, F14.binds (ps := ["thing"]) (fun _ _ _ _ _ _ us hl => match us, hl with | [_], _ => rfl), g14⟩
  obtain ⟨d15, F15'⟩ := c.t.d.def_ 15 (d := mkD "is_within" sWithin) rfl
  have g15 := He.glo_ok X G (c.t.d.fact 15 (f := .glo "is_within") rfl)
  have F15 : Fun K "is_within" "is_within" sWithin (He.fAd K ("is_within", none)) d15 := funOf F15'
  have D15 : Df K mg "is_within" sWithin ["thing", "low", "high"] _ d15 := ⟨F15, F15.binds (ps := ["thing", "low", "high"]) (fun _ _ _ _ _ _ us hl => match us, hl with | [_, _, _], _ => rfl), g15⟩
  obtain ⟨d16, F16'⟩ := c.t.d.def_ 16 (d := mkD "is_day" sIsDay) rfl
  have g16 := He.glo_ok X G (c.t.d.fact 16 (f := .glo "is_day") rfl)
  have F16 : Fun K "is_day" "is_day" sIsDay (He.fAd K ("is_day", none)) d16 := funOf F16'
  have D16 : Df K mg "is_day" sIsDay ["thing"] _ d16 := ⟨F16, F16.binds (ps := ["thing"]) (fun _ _ _ _ _ _ us hl => match us, hl with | [_], _ => rfl), g16⟩
  obtain ⟨d17, F17'⟩ := c.t.d.def_ 17 (d := mkD "check_day" sCheckDay) rfl
  have g17 := He.glo_ok X G (c.t.d.fact 17 (f := .glo "check_day") rfl)
  have F17 : Fun K "check_day" "check_day" sCheckDay (He.fAd K ("check_day", none)) d17 := funOf F17'
  have D17 : Df K mg "check_day" sCheckDay ["thing"] _ d17 := ⟨F17, F17.binds (ps := ["thing"]) (fun _ _ _ _ _ _ us hl => match us, hl with | [_], _ => rfl), g17⟩
  obtain ⟨d18, F18'⟩ := c.t.d.def_ 18 (d := mkD "open_acts" sOpenA) rfl
  have g18 := He.glo_ok X G (c.t.d.fact 18 (f := .glo "open_acts") rfl)
  have F18 : Fun K "open_acts" "open_acts" sOpenA (He.fAd K ("open_acts", none)) d18 := funOf F18'
  have D18 : Df K mg "open_acts" sOpenA ["book", "d", "k"] _ d18 := ⟨F18, F18.binds (ps := ["book", "d", "k"]) (fun _ _ _ _ _ _ us hl => match us, hl with | [_, _, _], _ => rfl), g18⟩
  obtain ⟨d19, F19'⟩ := c.t.d.def_ 19 (d := mkD "acts_on" sActsOn) rfl
  have g19 := He.glo_ok X G (c.t.d.fact 19 (f := .glo "acts_on") rfl)
  have F19 : Fun K "acts_on" "acts_on" sActsOn (He.fAd K ("acts_on", none)) d19 := funOf F19'
  have D19 : Df K mg "acts_on" sActsOn ["acts", "word", "number"] _ d19 := ⟨F19, F19.binds (ps := ["acts", "word", "number"]) (fun _ _ _ _ _ _ us hl => match us, hl with | [_, _, _], _ => rfl), g19⟩
  obtain ⟨d20, F20'⟩ := c.t.d.def_ 20 (d := mkD "acts_in_force" sForced) rfl
  have g20 := He.glo_ok X G (c.t.d.fact 20 (f := .glo "acts_in_force") rfl)
  have F20 : Fun K "acts_in_force" "acts_in_force" sForced (He.fAd K ("acts_in_force", none)) d20 := funOf F20'
  have D20 : Df K mg "acts_in_force" sForced ["acts"] _ d20 := ⟨F20, F20.binds (ps := ["acts"]) (fun _ _ _ _ _ _ us hl => match us, hl with | [_], _ => rfl), g20⟩
  obtain ⟨d21, F21'⟩ := c.t.d.def_ 21 (d := mkD "word_of_deed" sWordOf) rfl
  have g21 := He.glo_ok X G (c.t.d.fact 21 (f := .glo "word_of_deed") rfl)
  have F21 : Fun K "word_of_deed" "word_of_deed" sWordOf (He.fAd K ("word_of_deed", none)) d21 := funOf F21'
  have D21 : Df K mg "word_of_deed" sWordOf ["deed", "forced", "words", "d", "k"] _ d21 := ⟨F21, F21.binds (ps := ["deed", "forced", "words", "d", "k"]) (fun _ _ _ _ _ _ us hl => match us, hl with | [_, _, _, _, _], _ => rfl), g21⟩
  obtain ⟨d22, F22'⟩ := c.t.d.def_ 22 (d := mkDd "all_standing" sAllSt [.int 9999]) rfl
  have g22 := He.glo_ok X G (c.t.d.fact 22 (f := .glo "all_standing") rfl)
  have F22 : FunD K "all_standing" "all_standing" (defArgs sAllSt) (defBody sAllSt) (defScope sAllSt) [V.int 9999] [] (He.fAd K ("all_standing", none)) d22 := F22'
  obtain ⟨ds22, hv22, b22⟩ := FunD.binds1 (ps := ["book", "d", "k"]) F22 3 1 (by decide) rfl (fun T kV doc pm an cdv ct us its h1 h2 => match us, its, h1, h2 with | [_, _, _], [_], _, _ => ⟨_, rfl, rfl⟩)
  cases hv22
  obtain ⟨d23, F23'⟩ := c.t.d.def_ 23 (d := mkD "days_at" sDaysAt) rfl
  have g23 := He.glo_ok X G (c.t.d.fact 23 (f := .glo "days_at") rfl)
  have F23 : Fun K "days_at" "days_at" sDaysAt (He.fAd K ("days_at", none)) d23 := funOf F23'
  have D23 : Df K mg "days_at" sDaysAt ["book", "place"] _ d23 := ⟨F23, F23.binds (ps := ["book", "place"]) (fun _ _ _ _ _ _ us hl => match us, hl with | [_, _], _ => rfl), g23⟩
  obtain ⟨d24, F24'⟩ := c.t.d.def_ 24 (d := mkD "first_parting" sFirstP) rfl
  have g24 := He.glo_ok X G (c.t.d.fact 24 (f := .glo "first_parting") rfl)
  have F24 : Fun K "first_parting" "first_parting" sFirstP (He.fAd K ("first_parting", none)) d24 := funOf F24'
  have D24 : Df K mg "first_parting" sFirstP ["deed", "days", "ones", "others"] _ d24 := ⟨F24, F24.binds (ps := ["deed", "days", "ones", "others"]) (fun _ _ _ _ _ _ us hl => match us, hl with | [_, _, _, _], _ => rfl), g24⟩
  obtain ⟨d25, F25'⟩ := c.t.d.def_ 25 (d := mkDd "parting_of" sPartOf [.int 9999]) rfl
  have g25 := He.glo_ok X G (c.t.d.fact 25 (f := .glo "parting_of") rfl)
  have F25 : FunD K "parting_of" "parting_of" (defArgs sPartOf) (defBody sPartOf) (defScope sPartOf) [V.int 9999] [] (He.fAd K ("parting_of", none)) d25 := F25'
  obtain ⟨ds25, hv25, b25⟩ := FunD.binds1 (ps := ["book", "other", "k"]) F25 3 1 (by decide) rfl (fun T kV doc pm an cdv ct us its h1 h2 => match us, its, h1, h2 with | [_, _, _], [_], _, _ => ⟨_, rfl, rfl⟩)
  cases hv25
  obtain ⟨d26, F26'⟩ := c.t.d.def_ 26 (d := mkD "_law_named" sLNamed) rfl
  have g26 := He.glo_ok X G (c.t.d.fact 26 (f := .glo "_law_named") rfl)
  have F26 : Fun K "_law_named" "_law_named" sLNamed (He.fAd K ("_law_named", none)) d26 := funOf F26'
  have D26 : Df K mg "_law_named" sLNamed ["_law_entry"] _ d26 := ⟨F26, F26.binds (ps := ["_law_entry"]) (fun _ _ _ _ _ _ us hl => match us, hl with | [_], _ => rfl), g26⟩
  obtain ⟨d27, F27'⟩ := c.t.d.def_ 27 (d := mkD "_law_other" sLOther) rfl
  have g27 := He.glo_ok X G (c.t.d.fact 27 (f := .glo "_law_other") rfl)
  have F27 : Fun K "_law_other" "_law_other" sLOther (He.fAd K ("_law_other", none)) d27 := funOf F27'
  have D27 : Df K mg "_law_other" sLOther ["_law_pen_here", "_law_book_here"] _ d27 := ⟨F27, F27.binds (ps := ["_law_pen_here", "_law_book_here"]) (fun _ _ _ _ _ _ us hl => match us, hl with | [_, _], _ => rfl), g27⟩
  obtain ⟨d28, F28'⟩ := c.t.d.def_ 28 (d := mkD "_law_is_open" sIsOp) rfl
  have g28 := He.glo_ok X G (c.t.d.fact 28 (f := .glo "_law_is_open") rfl)
  have F28 : Fun K "_law_is_open" "_law_is_open" sIsOp (He.fAd K ("_law_is_open", none)) d28 := funOf F28'
  have D28 : Df K mg "_law_is_open" sIsOp ["_law_entry", "_law_d", "_law_k"] _ d28 := ⟨F28, F28.binds (ps := ["_law_entry", "_law_d", "_law_k"]) (fun _ _ _ _ _ _ us hl => match us, hl with | [_, _, _], _ => rfl), g28⟩
  obtain ⟨d29, F29'⟩ := c.t.d.def_ 29 (d := mkD "_law_forces" sForces) rfl
  have g29 := He.glo_ok X G (c.t.d.fact 29 (f := .glo "_law_forces") rfl)
  have F29 : Fun K "_law_forces" "_law_forces" sForces (He.fAd K ("_law_forces", none)) d29 := funOf F29'
  have D29 : Df K mg "_law_forces" sForces ["_law_rows", "_law_d", "_law_k"] _ d29 := ⟨F29, F29.binds (ps := ["_law_rows", "_law_d", "_law_k"]) (fun _ _ _ _ _ _ us hl => match us, hl with | [_, _, _], _ => rfl), g29⟩
  obtain ⟨d30, F30'⟩ := c.t.d.def_ 30 (d := mkD "_law_standing" sLStanding) rfl
  have g30 := He.glo_ok X G (c.t.d.fact 30 (f := .glo "_law_standing") rfl)
  have F30 : Fun K "_law_standing" "_law_standing" sLStanding (He.fAd K ("_law_standing", none)) d30 := funOf F30'
  have D30 : Df K mg "_law_standing" sLStanding ["_law_book_here", "_law_d", "_law_k"] _ d30 := ⟨F30, F30.binds (ps := ["_law_book_here", "_law_d", "_law_k"]) (fun _ _ _ _ _ _ us hl => match us, hl with | [_, _, _], _ => rfl), g30⟩
  obtain ⟨d31, F31'⟩ := c.t.d.def_ 31 (d := mkD "_law_days" sLDays2) rfl
  have g31 := He.glo_ok X G (c.t.d.fact 31 (f := .glo "_law_days") rfl)
  have F31 : Fun K "_law_days" "_law_days" sLDays2 (He.fAd K ("_law_days", none)) d31 := funOf F31'
  have D31 : Df K mg "_law_days" sLDays2 ["_law_book_here", "_law_other_here"] _ d31 := ⟨F31, F31.binds (ps := ["_law_book_here", "_law_other_here"]) (fun _ _ _ _ _ _ us hl => match us, hl with | [_, _], _ => rfl), g31⟩
  obtain ⟨d32, F32'⟩ := c.t.d.def_ 32 (d := mkD "_law_parting" sLParting) rfl
  have g32 := He.glo_ok X G (c.t.d.fact 32 (f := .glo "_law_parting") rfl)
  have F32 : Fun K "_law_parting" "_law_parting" sLParting (He.fAd K ("_law_parting", none)) d32 := funOf F32'
  have D32 : Df K mg "_law_parting" sLParting ["_law_book_here", "_law_other_here", "_law_k"] _ d32 := ⟨F32, F32.binds (ps := ["_law_book_here", "_law_other_here", "_law_k"]) (fun _ _ _ _ _ _ us hl => match us, hl with | [_, _, _], _ => rfl), g32⟩
  obtain ⟨d33, F33'⟩ := c.t.d.def_ 33 (d := mkD "law" sLaw) rfl
  have g33 := He.glo_ok X G (c.t.d.fact 33 (f := .glo "law") rfl)
  have F33 : Fun K "law" "law" sLaw (He.fAd K ("law", none)) d33 := funOf F33'
  have m_range := He.free_ok X G (c.t.d.fact 34 (f := .free "range") rfl)
  have m_min := He.free_ok X G (c.t.d.fact 35 (f := .free "min") rfl)
  have m_max := He.free_ok X G (c.t.d.fact 36 (f := .free "max") rfl)
  have m_tuple := He.free_ok X G (c.t.d.fact 37 (f := .free "tuple") rfl)
  have m_list := He.free_ok X G (c.t.d.fact 38 (f := .free "list") rfl)
  have m_len := He.free_ok X G (c.t.d.fact 39 (f := .free "len") rfl)
  have m_sorted := He.free_ok X G (c.t.d.fact 40 (f := .free "sorted") rfl)
  have m_int := He.free_ok X G (c.t.d.fact 41 (f := .free "int") rfl)
  have m_isinstance := He.free_ok X G (c.t.d.fact 42 (f := .free "isinstance") rfl)
  have m_bool := He.free_ok X G (c.t.d.fact 43 (f := .free "bool") rfl)
  have m_dict := He.free_ok X G (c.t.d.fact 44 (f := .free "dict") rfl)
  have m_any := He.free_ok X G (c.t.d.fact 45 (f := .free "any") rfl)
  have m_zip := He.free_ok X G (c.t.d.fact 46 (f := .free "zip") rfl)
  have m_set := He.free_ok X G (c.t.d.fact 47 (f := .free "set") rfl)
  have i_NUMBER : MgInt mg "NUMBER" 0 := He.int_ok X G (c.t.d.fact 48 (f := .int "NUMBER" 0) rfl)
  have i_WORD : MgInt mg "WORD" 4 := He.int_ok X G (c.t.d.fact 49 (f := .int "WORD" 4) rfl)
  have i_DAY : MgInt mg "DAY" 1 := He.int_ok X G (c.t.d.fact 50 (f := .int "DAY" 1) rfl)
  have i_WRITTEN : MgInt mg "WRITTEN" 2 := He.int_ok X G (c.t.d.fact 51 (f := .int "WRITTEN" 2) rfl)
  have i_OF : MgInt mg "OF" 5 := He.int_ok X G (c.t.d.fact 52 (f := .int "OF" 5) rfl)
  have i_RESTS : MgInt mg "RESTS" 7 := He.int_ok X G (c.t.d.fact 53 (f := .int "RESTS" 7) rfl)
  have i_LAST_DAY : MgInt mg "LAST_DAY" 9999 := He.int_ok X G (c.t.d.fact 54 (f := .int "LAST_DAY" 9999) rfl)
  have e := hfa.symm.trans g33
  cases e
  have b := FunD.bindsA (ps := ["_law_script"]) F33' fun _ _ _ _ _ _ us hl => match us, hl with | [_], _ => rfl
  have B : Bi mg := ⟨m_range, m_min, m_max, m_tuple, m_list, m_len, m_sorted, m_int⟩
  have t0 : (("entries_rising", none) : He.Defn) ∈ tfAll := List.mem_cons_self
  have gCar := He.glo_ok X G (c.t.d.fact 55 (f := .glo "CARRYING") rfl)
  have cCar : CarryAt K mg := ⟨_, gCar, fun H => He.tupB_ok c.more H⟩
  refine ⟨d33, tfAll.map (He.cT K), spLaw K [((He.cT K ("entries_rising", none)).2, qRis)], fun p hp => ?_, fun p hp => ?_, fun p hp => ?_, fun s v => b s [v] rfl, fun H a ns hl _ hH hS => ?_, fun base hK hG hTB => ?_⟩
  · obtain ⟨q, hq, rfl⟩ := List.mem_map.mp hp
    exact c.empty q hq
  · obtain ⟨q, hq, rfl⟩ := List.mem_map.mp hp
    exact c.out q hq
  · obtain ⟨q, hq, rfl⟩ := List.mem_map.mp hp
    exact PySem.W.codeHd_of_K X (c.hd q hq)
  · refine ⟨a, ns, rfl, hS, hl, fun p hp => ?_, fun _ => rfl⟩
    rw [List.mem_singleton.mp hp]
    exact TabS.nil (hH _ (List.mem_map.mpr ⟨_, t0, rfl⟩))
  · have tb0 := hTB _ (List.mem_map.mpr ⟨_, t0, rfl⟩)
    have R : RisD K mg base [((He.cT K ("entries_rising", none)).2, qRis)] _ d10 := ⟨D10, ⟨_, _, codeAt F10, tb0, List.mem_cons_self, fun p hp e => by rw [List.mem_singleton.mp hp]⟩, m_sorted, i_NUMBER⟩
    have GAE : ∀ k, FnOk l.prog w K mg base CX0 (k + 3) _ d12 ["book"] (spPick (fun e => !e.isDeed) _) := fun k => ok_actE (k := k) D12.F R i_WORD
    have GDE : ∀ k, FnOk l.prog w K mg base CX0 (k + 3) _ d11 ["book"] (spPick (·.isDeed) _) := fun k => ok_deedE (k := k) D11.F R i_WORD
    have GDO : FnOk l.prog w K mg base CX0 34 _ d13 ["book"] (spNums (·.isDeed) _) := ok_DeedsOf (k := 30) D13.F D11 (GDE 30) i_NUMBER
    have GCD : ∀ k, FnOk l.prog w K mg base CX0 (k + 4) _ d17 ["thing"] spCkDay := fun k => ok_ckDay (k := k) D17.F D16 D15 D14 m_isinstance m_int m_bool i_LAST_DAY
    have GOA : ∀ k, FnOk l.prog w K mg base CX0 (k + 4) _ d18 ["book", "d", "k"] (spOpenA _) := fun k => ok_openA (k := k) D18.F D12 (GAE k) i_WRITTEN i_DAY
    have GFO : ∀ k, FnOk l.prog w K mg base CX0 (k + 2) _ d20 ["acts"] spForced := fun k => ok_forced (k := k) D20.F D19 i_WORD i_OF i_NUMBER
    have GWO : ∀ k, FnOk l.prog w K mg base CX0 (k + 2) _ d21 ["deed", "forced", "words", "d", "k"] spWordOf := fun k => ok_wordOf (k := k) D21.F D19 i_WORD i_OF i_NUMBER i_WRITTEN i_DAY i_RESTS m_any cCar
    have GAL : ∀ k, FnOk l.prog w K mg base CX0 (k + 5) _ d22 ["book", "d", "k"] (spAllSt _) := fun k => ok_allSt (k := k + 4) F22 i_NUMBER D17 (GCD k) D18 (GOA k) D20 (GFO (k + 2)) D11 (GDE (k + 1)) D21 (GWO (k + 2))
    let CAL : CallOk l.prog w K mg base 34 "all_standing" _ _ := ⟨_, _, g22, F22.kp, b22, GAL 29⟩
    let CPO : CallOk l.prog w K mg base 35 "parting_of" _ _ := ⟨_, _, g25, F25.kp, b25, ok_PartOf (k := 34) F25 (D17.call (GCD 30)) (D23.call (ok_daysAt (k := 33) D23.F m_sorted m_set)) CAL (D13.call GDO) (D24.call (ok_FirstP (k := 33) D24.F m_zip)) m_set m_sorted i_DAY⟩
    obtain ⟨ds_par, VD_par, BD_par⟩ := FunD.binds1 (ps := ["book", "other", "k"]) F25 2 0 (by decide) rfl (fun T kV doc pm an cdv ct us its h1 h2 => match us, its, h1, h2 with | [_, _], [_], _, _ => ⟨_, rfl, rfl⟩)
    let cDr : ∀ k, CDraw l.prog w K mg base (k + 1) := fun k => D2.call (ok_draw D2.F)
    let cMi : ∀ k, CallOk l.prog w K mg base (k + 2) "_law_mixed" _ (spMixed K) := fun k => D5.call (ok_mixed (k := k) D5.F D2 B)
    let cDy : ∀ k, CallOk l.prog w K mg base (k + 2) "_law_day" _ spDay := fun k => D3.call (ok_day (k := k + 1) D3.F (cDr k))
    let cFe : CallOk l.prog w K mg base 3 "_law_few" _ (spFew K) := D6.call (ok_few (k := 2) D6.F (cDr 1) (cMi 0) m_tuple m_sorted)
    let cDe : CallOk l.prog w K mg base 4 "_law_deed" _ (spDeed K) := D7.call (ok_deed (k := 3) D7.F (cDr 2) (cDy 1) (cMi 1) cFe m_list m_range m_len)
    let cAc : CallOk l.prog w K mg base 4 "_law_act" _ (spAct K) := D8.call (ok_act (k := 3) D8.F (cDr 2) (cDy 1) m_len)
    let cFo : CallOk l.prog w K mg base 4 "_law_folk" _ spFolk := D4.call (ok_folk (k := 3) D4.F (cDr 2) m_range m_min m_tuple)
    let cBo : CallOk l.prog w K mg base 5 "_law_book" _ spBook := D9.call (ok_book (k := 4) D9.F (cDr 3) cFo cDe cAc (cMi 2) m_int m_range m_tuple)
    let cSt : CallOk l.prog w K mg base 34 "_law_standing" _ spLStanding := D30.call (ok_LStanding (k := 33) D30.F (D29.call (ok_Forces (k := 32) D29.F (D28.call (ok_IsOp (k := 31) D28.F)) m_list m_sorted)) m_dict m_list m_sorted)
    let cPa : CallOk l.prog w K mg base 35 "_law_parting" _ spLParting := D32.call (ok_LParting (k := 34) D32.F (D31.call (ok_LDays2 (k := 33) D31.F m_set m_sorted)) cSt m_sorted)
    exact ok_law (k := 36) F33 (D0.call (ok_cell D0.F m_len)) (D1.call (ok_pen D1.F m_int)) (cBo.mono (by decide)) (D27.call (ok_LOther (k := 35) D27.F (cDr 34) (cDy 33) (D26.call (ok_LNamed (k := 34) D26.F m_list)) m_len m_int)) (cDy 34) (cDr 35) (CPO.mono (by decide)) VD_par BD_par (cPa.mono (by decide)) m_len m_min m_max m_range
end Deed
open PySem PySem.W PySem.Calls PyProof.Rows
theorem PySem.Challenge.cw_deedsheaf_k42_what_parts_two_books_holds : PySem.Challenge.rw_deedsheaf_k42_what_parts_two_books.Holds := by
  w_on; o_law
  refine HandSHeadRun.head_any (r := OpenLaw.row PySem.Challenge.rw_deedsheaf_k42_what_parts_two_books) (q := view (OpenLaw.row PySem.Challenge.rw_deedsheaf_k42_what_parts_two_books).prog [50]) (H := Deed.hk) (ob := Deed.ob) (M := 12000) (loose := Deed.looseAll) (d := HandSHeadRun.topDef (OpenLaw.row PySem.Challenge.rw_deedsheaf_k42_what_parts_two_books).prog 50) (kwd := []) Deed.ob_eq
    (by kernel_rfl) (fun s => by kernel_rfl) Deed.run (by kernel_rfl) (by kernel_rfl) (by kernel_rfl) (by rfl) (by first | assumption | decide +kernel) (by decide +kernel) ⟨rfl, rfl, rfl, rfl, rfl, by decide +kernel⟩ ?hw ?hc
  case hw => w_witness2
  case hc =>
    refine LamX.walk_ofTsE (l := PySem.Challenge.rw_deedsheaf_k42_what_parts_two_books) (n := 63) (k := 37) (x := "_law_script") (CX := fun _ => L2.CX0) rfl (by decide) (by kernel_rfl) ⟨rfl, by decide, by decide⟩ ?F (fun _ _ _ _ _ z => z)
    intro w mg fa h Y G hmg0
    obtain ⟨K, KX, c⟩ := Y
    have hmg : mg ("law" : PySem.Str) = some (.ref fa) := by
      have e : (HandSHeadRun.topDef (OpenLaw.row PySem.Challenge.rw_deedsheaf_k42_what_parts_two_books).prog 50).name = ("law" : PySem.Str) := by kernel_rfl
      rw [← e]
      exact hmg0
    exact ⟨K, KX, Deed.facts KX G hmg c⟩
