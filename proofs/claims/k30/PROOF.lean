import PyProof.Rows.All
import Wide.All
import OpenK.AllK
import Wide.FinOn
import KE.SortKeyHeap
import KE.KLam
import HandS.ForMost
import HandS.ForExc
import HandS.Flow
import HandS.Style
import HandS.SortInts
import HandS.SortKw
import HandS.TupAny
import HandS.TupMul
import HandS.Lambda
import HandS.EndTab
import HandS.Head2
import HandS.HeadEnd
import HandS.HeadHook4
import HandS.HeadWalk
import HandS.Walk
import HandS.IsInst
import HandS.Defaults
import HandS.More
import HandS.DictComp
import HandS.ListItems
import HandS.SetFor
import HandS.Strs
import HandS.Zip
import HandS.TupSets
import KE.SortData
import KE.GoesMore
import HandS.Conv
import HandS.WordsDict
import HandS.MakeKw
import HandS.Codes
import KE.KIndexOf
import HandS.TryMany
import HandS.WordsExc
import KE.KExcSuper
import HandS.ClsMeth
import HandS.Nested
import HandS.ExcInit
import HandS.ExcIs
import HandS.ExcField
import HandS.ExcValue
import KE.KExcIs
import HandS.Deep
import PySem.Challenge.RW_deedsheaf_k30_refusals_stand_alone
set_option Elab.async false
set_option linter.all false
set_option maxRecDepth 100000
set_option maxHeartbeats 0
set_option pp.maxSteps 1200

namespace Deed
open PySem PySem.Spec PyProof.Rows L2
def topS (i : Nat) : Stmt := PySem.Challenge.pw_deedsheaf_k30_refusals_stand_alone.main.body.getD i (.Pass ⟨0, 0, 0, 0⟩)
/-! ### heaps: all but the pen at p is as it was -/
def Kp (p : Addr) (H H' : Hp) : Prop := ∀ b o, b ≠ p → H b = some o → H' b = some o
theorem Kp.refl (p : Addr) (H : Hp) : Kp p H H := fun _ _ _ h => h
theorem Kp.trans {p : Addr} {H H1 H2 : Hp} (a : Kp p H H1) (b : Kp p H1 H2) : Kp p H H2 := fun c o n h => b c o n (a c o n h)
theorem Kp.new {p q : Addr} {H : Hp} (n : H q = none) (o : HO) : Kp p H (upd H q o) := fun b u _ e => by
  rw [upd_ne (ne_of_none e n)]
  exact e
theorem Kp.put {p : Addr} {H : Hp} (o : HO) : Kp p H (upd H p o) := fun b u n e => by
  rw [upd_ne n]
  exact e
theorem Kp.same {p : Addr} {H H' : Hp} (h : Same H H') : Kp p H H' := fun b o _ e => h b o e
/-- the pen: four whole numbers, the last one a rest -/
def PenAt (H : Hp) (p : Addr) : Prop := ∃ a f c e : Int, H p = some (.lst [.int a, .int f, .int c, .int e]) ∧ 0 ≤ e ∧ e < 1000000007
theorem PenAt.new {p q : Addr} {H : Hp} (h : PenAt H p) (n : H q = none) (o : HO) : PenAt (upd H q o) p := by
  obtain ⟨a, f, c, e, h1, h2⟩ := h
  refine ⟨a, f, c, e, ?_, h2⟩
  rw [upd_ne (ne_of_none h1 n)]
  exact h1
theorem PenAt.ne {p q : Addr} {H : Hp} {o : HO} (h : PenAt H p) (e : H q = some o) (no : ∀ xs, o ≠ .lst xs) : q ≠ p := fun z => by
  obtain ⟨a, f, c, e', h1, _⟩ := h
  rw [z, h1] at e
  exact no _ (Option.some.inj e).symm
theorem PenAt.free {p q : Addr} {H : Hp} (h : PenAt H p) (n : H q = none) : q ≠ p := fun z => by
  obtain ⟨a, f, c, e', h1, _⟩ := h
  rw [z, h1] at n
  cases n
section
variable {P : Program} {w : World} {K : PySem.W.Frag} {mg : Str → Option Value} {base : Heap}
/-! ### the script's cell -/
abbrev sCell : Stmt := topS 28
theorem scCell : FnScope ["_law_script", "_law_k"] ["_law_script", "_law_k"] (defScope sCell) := ⟨rfl, rfl, rfl, by decide +kernel, rfl, by decide +kernel, by decide +kernel⟩
def spCell (K : PySem.W.Frag) : Sp := fun vs H Q _ => ∃ (a : Addr) (ns : List Int) (k : Int), vs = [.ref a, .int k] ∧ SqL K H a (ns.map V.int) ∧ 0 ≤ k ∧ ∀ v : Int, Q (.int v) H
theorem ok_cell {f : Addr} {fd : FuncData} {k : Nat} (F : Fun K "_law_cell_at" "_law_cell_at" sCell f fd) (ml : mg "len" = none) : FnOk P w K mg base CX0 (k + 1) f fd ["_law_script", "_law_k"] (spCell K) := by
  refine F.ok scCell (fun vs H Q E h => ?_) (fun cdv A outer s H vs Q E hr h => ?_)
  · obtain ⟨a, ns, k, rfl, _⟩ := h
    rfl
  · obtain ⟨a, ns, k, rfl, hS, h0, q⟩ := h
    refine ⟨_, pss_cons (ps_if (pt_cmpR op_lt (pv 1) (pe_callB call_len_seq (by rfl) ml PySem.boot_len (pa_cons (pv 0) pa_nil)) (nomark _)) (pss_one (ps_ret (pe_ix ix_list (pv 0) (pv 1) (fun _ _ => rfl)))) pss_nil)
      (pss_one (ps_ret pe_int)), ?_⟩
    have hl : (ns.map V.int).length = ns.length := List.length_map _
    refine ⟨_, rfl, _, rfl, a, _, rfl, .inl hS, _, _, rfl, rfl, _, rfl, ?_⟩
    refine ite2 (fun c => ?_) (fun c => ?_)
    · have c' : k < (((ns.map V.int).length : Nat) : Int) := of_decide_eq_true c
      rw [hl] at c'
      have hk : k.toNat < ns.length := by omega
      have ek : k = ((k.toNat : Nat) : Int) := by omega
      refine ⟨_, rfl, _, rfl, a, _, _, .int ns[k.toNat], rfl, rfl, hS, ?_, q _⟩
      exact at_of ek (by rw [List.getElem?_map, List.getElem?_eq_getElem hk] <;> rfl)
    · exact q 0
/-! ### the pen -/
abbrev sPen : Stmt := topS 29
theorem scPen : FnScope ["_law_cell"] ["_law_cell"] (defScope sPen) := ⟨rfl, rfl, rfl, by decide +kernel, rfl, by decide +kernel, by decide +kernel⟩
def spPen : Sp := fun vs H Q _ => ∃ (c : Int), vs = [.int c] ∧ ∀ p H', Same H H' → H p = none → PenAt H' p → Q (.ref p) H'
theorem ok_pen {f : Addr} {fd : FuncData} {k : Nat} (F : Fun K "_law_pen" "_law_pen" sPen f fd) (mi : mg "int" = none) : FnOk P w K mg base CX0 (k + 1) f fd ["_law_cell"] spPen := by
  refine F.ok scPen (fun vs H Q E h => ?_) (fun cdv A outer s H vs Q E hr h => ?_)
  · obtain ⟨c, rfl, _⟩ := h
    rfl
  · obtain ⟨c, rfl, q⟩ := h
    refine ⟨_, pss_one (ps_ret (pe_lst (pa_cons (pv 0) (pa_cons (pe_callTy call_int1 (by rfl) mi (by decide +kernel) (pa_cons (pe_cmpR op_ge (pv 0) (pe_op op_pow pe_int pe_int) (nomark _)) pa_nil)) (pa_cons pe_int (pa_cons (pe_op op_mod (pv 0) pe_int) pa_nil)))))), ?_⟩
    refine ⟨_, rfl, _, rfl, _, _, rfl, rfl, ⟨by decide, by decide, by decide⟩, _, _, rfl, rfl, .inr ⟨_, rfl, ?_⟩⟩
    refine ⟨_, rfl, _, _, rfl, rfl, (by show (0 : Int) < 1000000007; decide), (by show 4 ≤ sizeLine; decide), fun p hp => ?_⟩
    refine q p _ (fun b o e => ?_) hp ⟨_, _, _, _, upd_same, Int.emod_nonneg _ (by decide), Int.emod_lt_of_pos _ (by decide)⟩
    rw [upd_ne (ne_of_none e hp)]
    exact e
/-! ### a draw -/
abbrev sDraw : Stmt := topS 30
theorem scDraw : FnScope ["_law_pen_here", "_law_bound", "_law_found", "_law_stir"] ["_law_pen_here", "_law_bound"] (defScope sDraw) := ⟨rfl, rfl, rfl, by decide +kernel, rfl, by decide +kernel, by decide +kernel⟩
def spDraw : Sp := fun vs H Q _ => ∃ (p : Addr) (b : Int), vs = [.ref p, .int b] ∧ PenAt H p ∧ 0 < b ∧ b < 1073741824 ∧ ∀ v H', Kp p H H' → PenAt H' p → 0 ≤ v → v < b → Q (.int v) H'
theorem ok_draw {f : Addr} {fd : FuncData} {k : Nat} (F : Fun K "_law_draw" "_law_draw" sDraw f fd) : FnOk P w K mg base CX0 (k + 1) f fd ["_law_pen_here", "_law_bound"] spDraw := by
  refine F.ok scDraw (fun vs H Q E h => ?_) (fun cdv A outer s H vs Q E hr h => ?_)
  · obtain ⟨p, b, rfl, _⟩ := h
    rfl
  · obtain ⟨p, b, rfl, ⟨x, y, c, e, hp, he0, he1⟩, hb0, hb1, q⟩ := h
    refine ⟨_, pss_cons (ps_if (PW.pt (pw_and (pt_cmpR op_eq (pe_ix ix_list (pv 0) pe_int (fun _ _ => rfl)) pe_int (nomark _)) (pw_and1 (pt_cmpR op_gt (pe_ix ix_list (pv 0) pe_int (fun _ _ => rfl)) pe_int (nomark _)))))
        (pss_cons (ps_set (i := 2) scDraw.nd rfl (.inl rfl) (pe_op op_mod (pe_ix ix_list (pv 0) pe_int (fun _ _ => rfl)) (pv 1)))
        (pss_cons (ps_asg (pe_op op_fdiv (pe_ix ix_list (pv 0) pe_int (fun _ _ => rfl)) (pv 1)) (pg_sub (pv 0) pe_int set_list))
        (pss_one (ps_ret (pv 2))))) pss_nil)
      (pss_cons (ps_asg (pe_op op_add (pe_ix ix_list (pv 0) pe_int (fun _ _ => rfl)) pe_int) (pg_sub (pv 0) pe_int set_list))
      (pss_cons (ps_set (i := 3) scDraw.nd rfl (.inl rfl) (pe_op op_mod (pe_op op_mul (pe_op op_add (pe_ix ix_list (pv 0) pe_int (fun _ _ => rfl)) pe_int) (pe_op op_add pe_int (pe_op op_mul pe_int (pe_ix ix_list (pv 0) pe_int (fun _ _ => rfl))))) pe_int))
      (pss_cons (ps_set (i := 3) scDraw.nd rfl (.inl rfl) (pe_op op_mod (pe_op op_add (pe_op op_add (pe_op op_mul (pv 3) (pv 3)) (pe_op op_mul pe_int (pe_ix ix_list (pv 0) pe_int (fun _ _ => rfl)))) pe_int) pe_int))
      (pss_one (ps_ret (pe_op op_mod (pe_op op_fdiv (pe_op op_mod (pe_op op_mul (pv 3) pe_int) pe_int) pe_int) (pv 1))))))), ?_⟩
    have i0 : ∀ u : V, ∀ r : List V, atI (u :: r) 0 = some u := fun u r => atI_nat (j := 0) rfl
    have i1 : ∀ u v : V, ∀ r : List V, atI (u :: v :: r) 1 = some v := fun u v r => atI_nat (j := 1) rfl
    have i2 : ∀ u v w : V, ∀ r : List V, atI (u :: v :: w :: r) 2 = some w := fun u v w r => atI_nat (j := 2) rfl
    have i3 : ∀ u v w z : V, ∀ r : List V, atI (u :: v :: w :: z :: r) 3 = some z := fun u v w z r => atI_nat (j := 3) rfl
    have hS : SqL K H p [.int x, .int y, .int c, .int e] := SqL.of hp
    refine ⟨_, rfl, p, _, _, _, rfl, rfl, hS, i1 _ _ _, rfl, _, rfl, ?_⟩
    refine ite2 (fun c1 => ?_) (fun c1 => ?slow1)
    refine ⟨_, rfl, p, _, _, _, rfl, rfl, hS, i0 _ _, _, _, rfl, rfl, _, rfl, ?_⟩
    refine ite2 (fun c2 => ?_) (fun c2 => ?slow2)
    · refine ⟨_, rfl, p, _, _, _, rfl, rfl, hS, i0 _ _, _, rfl, _, _, rfl, rfl, hb0, ?_⟩
      refine ⟨_, rfl, p, _, _, _, rfl, rfl, hS, i0 _ _, _, rfl, _, _, rfl, rfl, ⟨hb0, hb1⟩, _, rfl, p, _, 0, 0, rfl, rfl, hp, rfl, ?_⟩
      exact ⟨_, rfl, q _ _ (Kp.put _) ⟨_, _, _, _, upd_same, he0, he1⟩ (Int.emod_nonneg _ (by omega)) (Int.emod_lt_of_pos _ hb0)⟩
    all_goals
      refine ⟨_, rfl, p, _, _, _, rfl, rfl, hS, i2 _ _ _ _, _, _, rfl, rfl, _, rfl, p, _, 2, 2, rfl, rfl, hp, rfl, ?_⟩
      have hp1 : (upd H p (.lst [.int x, .int y, .int (c + 1), .int e])) p = some (.lst [.int x, .int y, .int (c + 1), .int e]) := upd_same
      have hS1 : SqL K (upd H p (.lst [.int x, .int y, .int (c + 1), .int e])) p [.int x, .int y, .int (c + 1), .int e] := SqL.of hp1
      refine ⟨_, rfl, p, _, _, _, rfl, rfl, hS1, i3 _ _ _ _ _, _, _, rfl, rfl, _, rfl, p, _, _, _, rfl, rfl, hS1, i2 _ _ _ _, _, _, rfl, rfl, .inl ⟨by decide, by decide⟩, _, _, rfl, rfl, _, _, rfl, rfl, .inl ⟨by omega, by omega⟩, _, _, rfl, rfl, (by show (0 : Int) < 2147483647; decide), ?_⟩
      have r1 := Int.emod_nonneg ((e + 17) * (69621 + 2 * (c + 1))) (b := 2147483647) (by decide)
      have r2 := Int.emod_lt_of_pos ((e + 17) * (69621 + 2 * (c + 1))) (b := 2147483647) (by decide)
      generalize (e + 17) * (69621 + 2 * (c + 1)) % 2147483647 = st at r1 r2
      refine ⟨_, rfl, _, rfl, _, _, rfl, rfl, .inl ⟨by omega, by omega⟩, _, rfl, p, _, _, _, rfl, rfl, hS1, i2 _ _ _ _, _, _, rfl, rfl, .inl ⟨by decide, by decide⟩, _, _, rfl, rfl, _, _, rfl, rfl, _, _, rfl, rfl, (by show (0 : Int) < 2147483629; decide), ?_⟩
      refine ⟨_, rfl, _, _, rfl, rfl, .inr ⟨by decide, by decide⟩, _, _, rfl, rfl, (by show (0 : Int) < 2147483647; decide), _, _, rfl, rfl, ⟨by decide, by decide⟩, _, rfl, _, _, rfl, rfl, hb0, ?_⟩
      exact q _ _ (Kp.put _) ⟨_, _, _, _, upd_same, he0, he1⟩ (Int.emod_nonneg _ (by omega)) (Int.emod_lt_of_pos _ hb0)
end
end Deed

namespace Deed
open PySem PySem.Spec PyProof.Rows L2
/-- a def of the top: where it stands, how its arguments come, its name -/
structure Df (K : PySem.W.Frag) (mg : Str → Option Value) (x : Str) (st : Stmt) (ps : List Str) (f : Addr) (fd : FuncData) : Prop where
  F : Fun K x x st f fd
  b : Binds K fd ps []
  g : mg x = some (.ref f)
theorem am0 {φ : V → Prop} : ∀ y ∈ ([] : List V), φ y := fun _ h => nomatch h
theorem am1 {φ : V → Prop} {x : V} {xs : List V} (h : φ x) (r : ∀ y ∈ xs, φ y) : ∀ y ∈ x :: xs, φ y := fun y hy => (List.mem_cons.mp hy).elim (fun e => e ▸ h) (r y)
/-- an item of a written list at an open place -/
theorem pick {xs : List V} {i : Int} (φ : V → Prop) (h0 : 0 ≤ i) (h1 : i < (xs.length : Int)) (hx : ∀ x ∈ xs, φ x) : ∃ v, atI xs i = some v ∧ φ v := by
  have hk : i.toNat < xs.length := by omega
  exact ⟨xs[i.toNat], at_of (j := i.toNat) (by omega) (List.getElem?_eq_getElem hk), hx _ (List.getElem_mem hk)⟩
/-- an int within bounds -/
def Within (lo hi : Int) (x : V) : Prop := ∃ n : Int, x = .int n ∧ lo ≤ n ∧ n ≤ hi
section
variable {P : Program} {w : World} {K : PySem.W.Frag} {mg : Str → Option Value} {base : Heap} {fDr : Addr} {dDr : FuncData}
abbrev DrawD (K : PySem.W.Frag) (mg : Str → Option Value) := Df K mg "_law_draw" sDraw ["_law_pen_here", "_law_bound"]
/-! ### a day -/
def spDay : Sp := fun vs H Q _ => ∃ (p : Addr), vs = [.ref p] ∧ PenAt H p ∧ ∀ v H', Kp p H H' → PenAt H' p → 0 ≤ v → v ≤ 9999 → Q (.int v) H'
/-! ### folk -/
/-- a person at x -/
def PersonAt (H : Hp) (x : V) : Prop := ∃ (a : Addr) (b : Int) (d : V), x = .ref a ∧ H a = some (.tup [.int b, d]) ∧ -9999 ≤ b ∧ b ≤ 9998 ∧ (d = .non ∨ ∃ i : Int, d = .int i ∧ b < i ∧ i ≤ 9999)
theorem PersonAt.kp {p : Addr} {H H' : Hp} {x : V} (h : PersonAt H x) (k : Kp p H H') (P : PenAt H p) : PersonAt H' x := by
  obtain ⟨a, b, d, e, h1, r⟩ := h
  exact ⟨a, b, d, e, k _ _ (P.ne h1 fun _ z => by cases z) h1, r⟩
def FolkAt (H : Hp) (t : Addr) (n : Nat) : Prop := ∃ xs : List V, H t = some (.tup xs) ∧ xs.length = n ∧ ∀ x ∈ xs, PersonAt H x
theorem FolkAt.kp {p : Addr} {H H' : Hp} {t : Addr} {n : Nat} (h : FolkAt H t n) (k : Kp p H H') (P : PenAt H p) : FolkAt H' t n := by
  obtain ⟨xs, h1, h2, h3⟩ := h
  exact ⟨xs, k _ _ (P.ne h1 fun _ z => by cases z) h1, h2, fun x hx => (h3 x hx).kp k P⟩
def spFolk : Sp := fun vs H Q _ => ∃ (p : Addr) (least : Int), vs = [.ref p, .int least] ∧ PenAt H p ∧ 1 ≤ least ∧ least ≤ 6 ∧ ∀ t (n : Nat) H', Kp p H H' → PenAt H' p → FolkAt H' t n → least ≤ n → n ≤ 6 → Q (.ref t) H'
end
end Deed

namespace Deed
open PySem PySem.Spec PyProof.Rows L2
theorem seqIx {i : Int} {n : Nat} (h0 : 0 ≤ i) (h1 : i < n) : seqIndex? i n = some i.toNat := seqIndex_of h0 h1
theorem rising_of {l : List Int} (hn : l.Nodup) (hp : l.Pairwise (· ≤ ·)) : l.Pairwise (· < ·) := by
  induction l with
  | nil => exact .nil
  | cons x r ih =>
    have h1 := List.nodup_cons.mp hn
    have h2 := List.pairwise_cons.mp hp
    refine List.pairwise_cons.mpr ⟨fun y hy => ?_, ih h1.2 h2.2⟩
    have h3 := h2.1 y hy
    have h4 : x ≠ y := fun e => h1.1 (e ▸ hy)
    omega
theorem perm_erase {α : Type} {l : List α} {k : Nat} {y : α} (h : l[k]? = some y) : (y :: l.eraseIdx k).Perm l := by
  induction l generalizing k with
  | nil => simp at h
  | cons a r ih =>
    cases k with
    | zero =>
      have e : a = y := by simpa using h
      subst e
      exact List.Perm.refl _
    | succ k =>
      have h' : r[k]? = some y := by simpa using h
      show (y :: a :: r.eraseIdx k).Perm (a :: r)
      exact (List.Perm.swap a y _).trans ((ih h').cons a)
theorem erase_map {α β : Type} (f : α → β) : ∀ (l : List α) (k : Nat), (l.map f).eraseIdx k = (l.eraseIdx k).map f
  | [], _ => rfl
  | _ :: _, 0 => rfl
  | a :: r, k + 1 => congrArg (List.cons (f a)) (erase_map f r k)
section
variable {P : Program} {w : World} {K : PySem.W.Frag} {mg : Str → Option Value} {base : Heap} {fDr : Addr} {dDr : FuncData}
/-! ### a few of some -/
def spFew (K : PySem.W.Frag) : Sp := fun vs H Q _ => ∃ (p a : Addr) (most : Int) (ns : List Int), vs = [.ref p, .ref a, .int most] ∧ PenAt H p ∧ SqL K H a (ns.map V.int) ∧ 0 ≤ most ∧ most ≤ 1000 ∧ ns.length ≤ 1000 ∧
  ∀ t (rs ls : List Int) H', Kp p H H' → PenAt H' p → H' t = some (.tup (rs.map V.int)) → (rs ++ ls).Perm ns → rs.Pairwise (· ≤ ·) → rs.length ≤ most → Q (.ref t) H'
end
end Deed

namespace Deed
open PySem PySem.Spec PyProof.Rows L2
/-! ### lists of ints compared -/
theorem dp_ints {K : PySem.W.Frag} {H : Hp} : ∀ ns : List Int, DpAll K H (ns.map V.int) (ns.map PyData.int)
  | [] => .nil
  | n :: r => .cons (.int n) (dp_ints r)
theorem lay_ints : ∀ ns : List Int, PyData.canLayAll0 (ns.map PyData.int) = true
  | [] => by simp [PyData.canLayAll0]
  | n :: r => by simp [PyData.canLayAll0, PyData.canLay0, lay_ints r]
theorem depth_ints : ∀ ns : List Int, PyData.depthAll (ns.map PyData.int) ≤ 1
  | [] => by simp [PyData.depthAll]
  | n :: r => by
    have h := depth_ints r
    simp only [List.map_cons, PyData.depthAll, PyData.depth]
    omega
theorem shaped_ints (ns : List Int) : SeqAt.shaped (.list (ns.map PyData.int)) = true := by
  have h1 := depth_ints ns
  have h2 : PyData.depth (.list (ns.map PyData.int)) ≤ 64 := by
    simp only [PyData.depth]
    omega
  show (PyData.canLay0 (.list (ns.map PyData.int)) && decide (PyData.depth (.list (ns.map PyData.int)) ≤ 64)) = true
  rw [Bool.and_eq_true]
  exact ⟨by simp only [PyData.canLay0]; exact lay_ints ns, decide_eq_true h2⟩
theorem eqvAll_ints : ∀ ns ms : List Int, PyData.eqvAll (ns.map PyData.int) (ms.map PyData.int) = decide (ns = ms)
  | [], [] => by simp [PyData.eqvAll]
  | [], _ :: _ => by simp [PyData.eqvAll]
  | _ :: _, [] => by simp [PyData.eqvAll]
  | n :: r, m :: q => by
    simp only [List.map_cons, PyData.eqvAll, PyData.eqv, eqvAll_ints r q]
    by_cases h : n = m
    · subst h
      simp
    · simp [h]
theorem eqv_ints (ns ms : List Int) : PyData.eqv (.list (ns.map PyData.int)) (.list (ms.map PyData.int)) = decide (ns = ms) := by
  simp only [PyData.eqv]
  exact eqvAll_ints ns ms
theorem mem_inV {n : Int} {ns : List Int} : inV (.int n) (ns.map V.int) = decide (n ∈ ns) := by
  induction ns with
  | nil => simp [inV]
  | cons m r ih =>
    have e : inV (.int n) ((m :: r).map V.int) = (eqV (.int m) (.int n) || inV (.int n) (r.map V.int)) := by simp [inV]
    have e2 : eqV (.int m) (.int n) = decide (m = n) := by
      first | rfl | simp [eqV] | (unfold eqV; simp)
    rw [e, ih, e2]
    by_cases h : m = n
    · subst h
      simp
    · have h' : ¬ n = m := fun z => h z.symm
      simp [h, h']
theorem flat_ints (ns : List Int) : (ns.map V.int).all flatV = true := by
  induction ns with
  | nil => rfl
  | cons n r ih =>
    rw [List.map_cons, List.all_cons, ih]
    rfl
/-! ### entries -/
inductive Kd where
  | deed (g t : Int) (rs ws : List Int)
  | act (x : Str) (o : Int)
structure En where
  num : Int
  day : Int
  wri : Int
  hand : Int
  kd : Kd
def En.isDeed (e : En) : Bool := match e.kd with
  | .deed _ _ _ _ => true
  | .act _ _ => false
/-- the entry e at the address a -/
def EntAt (H : Hp) (a : Addr) (e : En) : Prop := match e.kd with
  | .deed g t rs ws => ∃ r w : Addr, H a = some (.tup [.int e.num, .int e.day, .int e.wri, .int e.hand, .str "deed", .int g, .int t, .ref r, .ref w]) ∧ H r = some (.tup (rs.map V.int)) ∧ H w = some (.tup (ws.map V.int))
  | .act x o => H a = some (.tup [.int e.num, .int e.day, .int e.wri, .int e.hand, .str x, .int o])
/-- all that isn't a list is kept -/
def KpT (H H' : Hp) : Prop := ∀ b xs, H b = some (.tup xs) → H' b = some (.tup xs)
theorem Kp.tup {p : Addr} {H H' : Hp} (k : Kp p H H') (P : PenAt H p) : KpT H H' := fun b xs e => k _ _ (P.ne e fun _ z => by cases z) e
theorem Same.tup {H H' : Hp} (k : Same H H') : KpT H H' := fun b xs e => k _ _ e
theorem KpT.trans {H H1 H2 : Hp} (a : KpT H H1) (b : KpT H1 H2) : KpT H H2 := fun c o h => b c o (a c o h)
theorem EntAt.kp {H H' : Hp} {a : Addr} {e : En} (h : EntAt H a e) (k : KpT H H') : EntAt H' a e := by
  unfold EntAt at h ⊢
  cases hk : e.kd with
  | deed g t rs ws =>
    rw [hk] at h
    obtain ⟨r, w, h1, h2, h3⟩ := h
    exact ⟨r, w, k _ _ h1, k _ _ h2, k _ _ h3⟩
  | act x o =>
    rw [hk] at h
    exact k _ _ h
def EnOk (n : Nat) (ds as : List Int) (e : En) : Prop := (0 ≤ e.day ∧ e.day ≤ 9999) ∧ (0 ≤ e.wri ∧ e.wri ≤ 9999) ∧ (0 ≤ e.hand ∧ e.hand ≤ 3) ∧ match e.kd with
  | .deed g t rs ws => (0 ≤ g ∧ g < n) ∧ (0 ≤ t ∧ t < n) ∧ g ≠ t ∧ rs.length ≤ 2 ∧ rs.Pairwise (· < ·) ∧ (∀ r ∈ rs, r ∈ ds ∧ r < e.num) ∧ ws.length ≤ 3 ∧ ws.Pairwise (· < ·) ∧ ∀ x ∈ ws, 0 ≤ x ∧ x < n ∧ x ≠ g ∧ x ≠ t
  | .act x o => ((x = "undone" ∧ o ∈ as) ∨ ((x = "paid" ∨ x = "void") ∧ o ∈ ds)) ∧ o < e.num
theorem EnOk.mono {n : Nat} {ds as ds' as' : List Int} {e : En} (h : EnOk n ds as e) (h1 : ∀ x ∈ ds, x ∈ ds') (h2 : ∀ x ∈ as, x ∈ as') : EnOk n ds' as' e := by
  unfold EnOk at h ⊢
  obtain ⟨a, b, c, d⟩ := h
  refine ⟨a, b, c, ?_⟩
  cases hk : e.kd with
  | deed g t rs ws =>
    rw [hk] at d
    obtain ⟨d1, d2, d3, d4, d5, d6, d7⟩ := d
    exact ⟨d1, d2, d3, d4, d5, fun r hr => ⟨h1 _ (d6 r hr).1, (d6 r hr).2⟩, d7⟩
  | act x o =>
    rw [hk] at d
    obtain ⟨d1, d2⟩ := d
    refine ⟨?_, d2⟩
    rcases d1 with ⟨z, m⟩ | ⟨z, m⟩
    · exact .inl ⟨z, h2 _ m⟩
    · exact .inr ⟨z, h1 _ m⟩
section
variable {P : Program} {w : World} {K : PySem.W.Frag} {mg : Str → Option Value} {base : Heap} {fDr fFe fDy fDe : Addr} {dDr dFe dDy dDe : FuncData}
/-- the built-ins' names are the built-ins' -/
structure Bi (mg : Str → Option Value) : Prop where
  range : mg "range" = none
  min : mg "min" = none
  max : mg "max" = none
  tuple : mg "tuple" = none
  list : mg "list" = none
  len : mg "len" = none
  sorted : mg "sorted" = none
  int : mg "int" = none
/-! ### what stands behind a deed's word -/
abbrev nDeed : List Str := ["_law_pen_here", "_law_folk_here", "_law_deeds", "_law_giver", "_law_taker", "_law_others", "_law_one"]
def spDeed (K : PySem.W.Frag) : Sp := fun vs H Q _ => ∃ (p fk ld : Addr) (n : Nat) (ds : List Int), vs = [.ref p, .ref fk, .ref ld] ∧ PenAt H p ∧ FolkAt H fk n ∧ 2 ≤ n ∧ n ≤ 6 ∧ H ld = some (.lst (ds.map V.int)) ∧ ld ≠ p ∧ ds.Nodup ∧ ds.length ≤ 1000 ∧
  ∀ a r x (g t : Int) (rs ws : List Int) H', Kp p H H' → PenAt H' p → H' a = some (.tup [.int g, .int t, .ref r, .ref x]) → H' r = some (.tup (rs.map V.int)) → H' x = some (.tup (ws.map V.int)) →
    (0 ≤ g ∧ g < n) → (0 ≤ t ∧ t < n) → g ≠ t → rs.length ≤ 2 → rs.Pairwise (· < ·) → (∀ r ∈ rs, r ∈ ds) → ws.length ≤ 3 → ws.Pairwise (· < ·) → (∀ y ∈ ws, 0 ≤ y ∧ y < n ∧ y ≠ g ∧ y ≠ t) → Q (.ref a) H'
theorem taker_ne {g v : Int} {n : Nat} (h2 : 2 ≤ n) (h6 : n ≤ 6) (hg : 0 ≤ g) (hg' : g < n) (hv : 0 ≤ v) (hv' : v < (n : Int) - 1) : 0 ≤ (g + 1 + v) % (n : Int) ∧ (g + 1 + v) % (n : Int) < n ∧ g ≠ (g + 1 + v) % (n : Int) := by
  have hn : n = 2 ∨ n = 3 ∨ n = 4 ∨ n = 5 ∨ n = 6 := by omega
  rcases hn with rfl | rfl | rfl | rfl | rfl <;> omega
end
end Deed

namespace Deed
open PySem PySem.Spec PySem.W PyProof.Rows L2 LamX
/-! ### sorted(e, key=lambda x: x[0]) of a list or tuple of tuples -/
section
variable {prog : Program} {w : World} {A : Around} {E : Value → Shared → Prop} {s : Shared}
theorem collectT {l : Addr} {vs : List Value} {Q : List Value → Shared → Prop} (ht : s.heap.IsTuple l vs.toArray) (hsz : vs.length ≤ sizeLine)
    (h : Q vs { s with heap := (s.heap.push (seqObj "list" #[] 0)).update s.heap.objs.size (Obj.mapSeq (· ++ vs.toArray)) }) : wpAny (model prog w) A (collect (.ref l)) Q E s := by
  obtain ⟨ob, g0, gc, ep, gd⟩ := id ht
  have g1 : (s.heap.push (seqObj "list" #[] 0)).get? l = some ob := Heap.get?_push_of_some _ g0
  unfold collect
  refine wpAny_bind (m := _) (wpAny_runValue (codeAny_builtin entry_proto_collect' ?_))
  show wpAny _ _ (do again (.builtin "list.__iadd__" ⟨[← newList [], Value.ref l], []⟩)) _ _ s
  refine wpAny_bind (wpAny_newList (wpAny_pure ⟨Code.quiet_builtin _ (by decide +kernel), (codeAny_builtin entry_list_iadd' ?_)⟩))
  show wpAny _ _ (Builtin.List.listExtendWith (.ref s.heap.objs.size) (Value.ref l) (.ref s.heap.objs.size)) _ _ { s with heap := s.heap.push (seqObj "list" #[] 0) }
  unfold Builtin.List.listExtendWith
  refine wpAny_bind (wpAny_typeOf (T := "tuple") ⟨ob, g1, gc⟩ ?_)
  have tt : (Value.type "tuple" == Value.type "tuple") = true := by rfl
  rw [if_pos (by simp [tt])]
  refine wpAny_bind (listItems_at g1 gd ?_)
  refine wpAny_bind (listItems_at (n := 0) (xs := #[]) (Heap.get?_push_size _ rfl) rfl ?_)
  rw [if_neg (fun z => by simp at z)]
  refine wpAny_bind (listUpdate_at (n := 0) (xs := #[]) (Heap.get?_push_size _ rfl) rfl ?_ (Nat.zero_le _) (by show (#[] ++ vs.toArray).size ≤ sizeLine + 1; simp only [Array.size_append, List.size_toArray, List.length_nil]; omega))
  refine wpAny_pure (?_)
  show wpAny (model prog w) A (do let o ← load s.heap.objs.size; match o.data with | .seq xs _ => pure xs.toList | _ => unsupported "internal:collect") Q E { s with heap := (s.heap.push (seqObj "list" #[] 0)).update s.heap.objs.size (Obj.mapSeq (· ++ vs.toArray)) }
  refine wpAny_bind (wpAny_load (get?_update_seq (Heap.get?_push_size _ rfl) _) (?_))
  show wpAny _ _ (pure (((#[] : Array Value) ++ vs.toArray).toList)) Q E _
  rw [show (((#[] : Array Value) ++ vs.toArray).toList) = vs by simp]
  exact wpAny_pure h
theorem collectS {l : Addr} {vs : List Value} {Q : List Value → Shared → Prop} (hl : s.heap.IsList l vs.toArray ∨ s.heap.IsTuple l vs.toArray) (hsz : vs.length ≤ sizeLine)
    (h : Q vs { s with heap := (s.heap.push (seqObj "list" #[] 0)).update s.heap.objs.size (Obj.mapSeq (· ++ vs.toArray)) }) : wpAny (model prog w) A (collect (.ref l)) Q E s := by
  rcases hl with hl | hl
  · exact collect_list hl h hsz
  · exact collectT hl hsz h
/-- sorted(e, key=f), e a list or a tuple, the keys ints -/
theorem sortedK {β : Type} {l f : Addr} {vs : List Value} {bs : List β} {R : Value → β → Prop} {Q : Value → Shared → Prop} (k : β → Int) (hl : s.heap.IsList l vs.toArray ∨ s.heap.IsTuple l vs.toArray) (e : EachIs R vs bs) (hL : bs.length ≤ sizeLine) (hu : A.units + 66 < cLine)
    (turn : ∀ (v : Value) (x : β), R v x → x ∈ bs → ∀ (h : Heap) (tk : Nat), (∀ b o, s.heap.get? b = some o → h.get? b = some o) →
      wpAny (model prog w) A.in1.in1 (call (.ref f) [v]) (KeyPure (.int (k x)) { s with heap := h, toks := tk }) (fun _ _ => False) { s with heap := h, toks := tk })
    (h : ∀ out c h' tk, (∀ b o, s.heap.get? b = some o → h'.get? b = some o) → h'.get? (s.heap.objs.size + 1) = some (seqObj "list" (List.toArray out) c) → out.length = bs.length → EachIs R out (bs.mergeSort (dataLe false fun x => .int (k x))) →
      Q (.ref (s.heap.objs.size + 1)) { s with heap := h', toks := tk }) :
    wpAny (model prog w) A (call (.builtin "sorted") [.ref l] [(Str.ofString "key", .ref f)]) Q E s := by
  have hv : vs.length ≤ sizeLine := by rw [e.length]; exact hL
  have up : ∀ {g : Heap}, KeepsBut (s.heap.objs.size + 1) (copyHeap s.heap vs) g → ∀ b o, s.heap.get? b = some o → g.get? b = some o := fun kp b o z =>
    kp b o (Nat.ne_of_lt (Nat.lt_succ_of_lt (Heap.lt_size z))) (copyHeap_old z)
  have ez : ((s.heap.push (seqObj "list" #[] 0)).update s.heap.objs.size (Obj.mapSeq (· ++ vs.toArray))).objs.size = s.heap.objs.size + 1 := by rw [Heap.size_update, size_push']
  refine call_function_entry_kw kind_sorted plain_sorted entry_sorted (ksk_s1 _ _) ?_
  unfold Builtin.«sorted»
  refine wpAny_bind (m := checkCount "sorted" 1 1 _) (wpAny_pure (?_))
  refine wpAny_bind (collectS hl hv ?_)
  refine wpAny_bind (wpAny_newList (?_) hv)
  show wpAny _ _ _ _ _ { s with heap := copyHeap s.heap vs }
  rw [ez]
  refine wpAny_bind (wpAny_holding (wpAny_call_entry_kw slot_list_sort ⟨_, copyHeap_at s.heap vs, rfl⟩ entry_list_sort (?body) (ksk_l1 _ _)))
  case body =>
    show wpAny (model prog w) A.in1.in1 (Builtin.«list.sort» ⟨[.ref (s.heap.objs.size + 1)], [(Str.ofString "key", .ref f)]⟩) _ _ _
    rw [ksk_t1]
    refine keyH_tree (kz := bs.map fun x => PyData.int (k x)) (s := { s with heap := copyHeap s.heap vs }) (copyHeap_at s.heap vs) (by rw [List.length_map]; exact e.length.symm) hv (AllAlike.of fun _ _ => by simp [alike]) ?srt (fun d hd => ?dep)
      (keyH_turns (k := fun x => PyData.int (k x)) (s := { s with heap := copyHeap s.heap vs }) e fun v x hR hx h tk kp => turn v x hR hx h tk (up kp)) fun h' tk out c kp hD ko => ?fin
    case srt => exact Sortable.others fun _ => ⟨(fun z => nomatch z), (fun _ z => nomatch z)⟩
    case dep =>
      obtain ⟨x, _, rfl⟩ := List.mem_map.mp hd
      show A.units + 1 + 1 + PyData.depth (.int (k x)) < cLine
      simp only [PyData.depth]
      omega
    case fin =>
      exact ⟨_, rfl, wpAny_pure ⟨_, rfl, h out c h' tk (up kp) hD ((ko.length (by rw [List.length_map]; exact e.length.symm)).trans e.length) (keyedOut_each (fun x => PyData.int (k x)) ko e)⟩⟩
/-- the call of the lambda -/
theorem lam_key {f c' t : Addr} {x q : Str} {params : Arguments} {ix : Expr} {scope : Scope} {cl : List (Str × Addr)} {pm ctv : Value} {p1 p3 : Pos} {items : Array Value} {kk : Int} {u : Tok} {mg : Str → Option Value}
    (of : s.heap.get? f = some (kla_obj "<lambda>" q params (.Subscript (.Name x p1) ix p3) scope cl pm c' ctv)) (hcd : s.heap.CodeRec (.ref c') q) (hroom : A.depth < recursionLimit) (lim : s.heap.NoLimit) (ns : s.heap.Ns mainGlobals mg)
    (hk : scope.kind = .function) (hco : scope.isCoroutine = false) (hgen : scope.isGenerator = false) (hcell : ∀ y ∈ scope.names, y.2 ≠ .cell) (hloc : scope.names.lookup x = some .local)
    (hbind : ∀ v : Value, bindArgs (kla_fn "<lambda>" q params (.Subscript (.Name x p1) ix p3) scope cl pm (.ref c') ctv) ⟨[v], []⟩ = pure [(x, v)])
    (hix : ∀ (env : Env) (A : Around) (E : Value → Shared → Prop) (s' : Shared) (Q : Value → Shared → Prop), env.scope = scope → env.globals = mainGlobals → s'.heap.Ns mainGlobals mg → (∀ u tk, Q (.int 0 u) { s' with toks := tk }) → wpAny (model prog w) A (eval ix env) Q E s')
    (hpl : PlainIx ix) (hd : (x == ("__debug__" : Str)) = false) (ht : s.heap.IsTuple t items) (hx : items[0]? = some (.int kk u)) :
    wpAny (model prog w) A (call (.ref f) [.ref t]) (KeyPure (.int kk) s) (fun _ _ => False) s := by
  refine wpAny_call (kla_callFunE hroom of rfl hco hgen rfl hcd ?_)
  rw [hbind]
  refine wpAny_pure (wpAny_newFunctionEnv hcell (fun y hy => ?_) (fun h₁ hns hsb => ⟨lim.fresh _ hsb, ?_⟩) hk)
  · rw [List.mem_singleton.mp hy]
    exact hloc
  have kp : ∀ b o, s.heap.get? b = some o → h₁.get? b = some o := fun b o z => hsb.extBut b o (Nat.ne_of_lt (Heap.lt_size z)) (Heap.get?_push_of_some _ z)
  refine kla_codeExpr (Subscript_ (wpAny_Name (wpAny_loadName_local hk hloc hns (v := .ref t) (by simp) ?_) hd))
  refine hix _ _ _ _ _ rfl rfl (ns.keeps kp) fun u' tk' => ?_
  have ht1 : h₁.IsTuple t items := by
    obtain ⟨o, z1, z2, z3⟩ := ht
    exact ⟨o, kp _ _ z1, z2, z3⟩
  have hsz : 0 < items.size := by
    rcases Nat.eq_zero_or_pos items.size with z | z
    · rw [Array.getElem?_eq_none (by omega)] at hx
      cases hx
    · exact z
  refine subscriptTail_builtinR (x := .int kk u) (ht1.typeIs) slot_tuple_getitem.lookup (getItem_tuple (j := 0) (Q := fun r s' => r = .int kk u ∧ KeyPure (.int kk) s r s') ht1 (by decide) (by decide) (seqIndex_of (by decide) (by omega)) hx ⟨rfl, ?_⟩) (hpl _ _)
  exact ⟨h₁, _, rfl, kp, .int _ _⟩
end
end Deed

namespace Deed
open PySem PySem.Spec PySem.W PyProof.Rows L2 LamX
theorem each_vals {xs : List V} {us : List Value} (r : Vals xs us) : EachIs (fun u y => RelV y u) us xs := by
  induction r with
  | nil => exact .nil
  | cons h _ ih => exact .cons h ih
theorem vals_each {xs : List V} {us : List Value} (r : EachIs (fun u y => RelV y u) us xs) : Vals xs us := by
  induction r with
  | nil => exact .nil
  | cons h _ ih => exact .cons h ih
/-- sorted(e, key=lambda x: x[0]): some arrangement by the keys, at a new address; a table may have grown -/
def tSortK (K : PySem.W.Frag) (T : List (Addr × Str)) (te : TA) : TE := fun σ H Q => te σ H fun vs H1 => ∃ (a : Addr) (xs : List V) (ks : V → Int), vs = [.ref a] ∧ (SqL K H1 a xs ∨ SqT K H1 a xs) ∧ (∀ y ∈ xs, ∃ t r, y = .ref t ∧ H1 t = some (.tup (.int (ks y) :: r))) ∧ Tabs T H1 ∧
  ∀ p ys H2, ExtN H1 H2 → Tabs T H2 → H2 p = none → ys.Perm xs → ys.Pairwise (fun u v => ks u ≤ ks v) → Q (.ref p) (upd H2 p (.lst ys))
section
variable {X : Cx}
theorem pe_sortK {T : List (Addr × Str)} {c P : Addr} {k : Nat} {e ix : Expr} {te : TA} {x : Str} {params : Arguments} {scope : Scope} {p p1 p3 lpos kpos pos : Pos}
    (hg : Gl X "sorted") (hm : X.mg "sorted" = none) (ha : PA X [e] te) (hr : Room (k + 1) X.A) (TB : TabB X.base X.mg c P) (hcode : X.env.code = .ref c) (hmT : (P, X.env.qual ++ "<lambda>") ∈ T) (hu : ∀ p ∈ T, p.1 = P → p.2 = X.env.qual ++ "<lambda>")
    (hdef : defaultsOf params X.env = ([], [])) (hfree : ∀ y ∈ scope.names, y.2 ≠ .free)
    (hk : scope.kind = .function) (hco : scope.isCoroutine = false) (hgen : scope.isGenerator = false) (hcell : ∀ y ∈ scope.names, y.2 ≠ .cell) (hloc : scope.names.lookup x = some .local)
    (hbind : ∀ (q : Str) (cl : List (Str × Addr)) (pm cv ctv v : Value), bindArgs (kla_fn "<lambda>" q params (.Subscript (.Name x p1) ix p3) scope cl pm cv ctv) ⟨[v], []⟩ = pure [(x, v)])
    (hix : ∀ (env : Env) (A : Around) (E : Value → Shared → Prop) (s' : Shared) (Q : Value → Shared → Prop), env.scope = scope → env.globals = mainGlobals → s'.heap.Ns mainGlobals X.mg → (∀ u tk, Q (.int 0 u) { s' with toks := tk }) → wpAny (model X.prog X.w) A (eval ix env) Q E s')
    (hpl : PlainIx ix) (hd : (x == ("__debug__" : Str)) = false)
    (h1 : backTo pos (starEach [e] X.env) = (false, eval e X.env) :: backTo pos (starEach [] X.env) := by rfl) (h2 : (backTo pos (starEach [e] X.env)).any (·.1) = false := by rfl) :
    PE X (.Call (.Name "sorted" p) [e] [⟨some "key", .Lambda params (.Subscript (.Name x p1) ix p3) scope lpos, kpos⟩] pos) (tSortK X.K T te) := by
  refine ⟨fun pins s σ H Q I h => ?_⟩
  refine wpAny_Call_Name_kw (ld_blt I hg hm (show bootBuiltins "sorted" = some (.builtin "sorted") by decide +kernel) ?_)
  refine callWith_kw (thn (ha.run pos pins s σ H _ I h) fun us s1 ⟨vs, H1, I1, r1, q1⟩ => ?_) h1 h2 rfl rfl
  obtain ⟨a, xs, ks, rfl, hS, hxs, hT, q⟩ := q1
  obtain rfl := Vals.ref1 r1
  show wpAny _ _ (evalAll [(do let v ← eval (.Lambda params (.Subscript (.Name x p1) ix p3) scope lpos) X.env; standAt pos; pure v)]) _ _ s1
  refine wpAny_evalAll_cons (wpAny_bind (lam_make2 I1 TB hcode hmT hu hT hdef (fun y hy e => absurd e (hfree y hy)) fun f c' pm ctv H2 s2 I2 eN T2 hf hfn hfr hco' => wpAny_bind (wpAny_standAt (wpAny_pure (wpAny_evalAll_nil ?_)))))
  have seqs : ∃ its, Vals xs its ∧ xs.length ≤ sizeLine ∧ (s2.heap.IsList a its.toArray ∨ s2.heap.IsTuple a its.toArray) := by
    rcases hS with hS | hS
    · have hS2 : SqL X.K H2 a xs := by
        rcases hS with (z | ⟨o, z⟩) | z
        · exact .inl (.inl (eN _ _ z fun ps z' => by cases z'))
        · exact .inl (.inr ⟨o, eN _ _ z fun ps z' => by cases z'⟩)
        · exact .inr z
      obtain ⟨its, rv, hl, hz⟩ := I2.list hS2
      exact ⟨its, rv, hz, .inl hl.isList⟩
    · have hS2 : SqT X.K H2 a xs := by
        rcases hS with (z | ⟨o, z⟩) | z
        · exact .inl (.inl (eN _ _ z fun ps z' => by cases z'))
        · exact .inl (.inr ⟨o, eN _ _ z fun ps z' => by cases z'⟩)
        · exact .inr z
      obtain ⟨its, rv, hl, hz⟩ := I2.tuple hS2
      exact ⟨its, rv, hz, .inr hl⟩
  obtain ⟨its, rv, hz, hl⟩ := seqs
  have hun := hr.un
  have hdp := hr.dp
  show wpAny (model X.prog X.w) X.A (call (.builtin "sorted") [.ref a] [(Str.ofString "key", .ref f)]) _ _ s2
  refine sortedK (R := fun u y => RelV y u) ks hl (each_vals rv) hz (by omega) (fun u y hR hy h tk kp => ?_) fun out ep h' tk kp hD hlen eo => ?_
  · obtain ⟨t, r, rfl, ht⟩ := hxs y hy
    obtain rfl : u = Value.ref t := hR
    have ht2 := eN _ _ ht fun ps z' => by cases z'
    obtain ⟨_, its2, r2, o, ho, hc, n, hd2⟩ := I2.hok _ _ ht2
    obtain ⟨oc, vs, tt, c1, c2, c3⟩ := (I2.hok c' _ hco').1
    cases r2 with
    | cons ru r3 =>
      obtain ⟨tu, rfl⟩ := ru
      refine lam_key (u := tu) (s := { s2 with heap := h, toks := tk }) (kp _ _ hf) ⟨c', oc, vs, tt, rfl, kp _ _ c1, c2, c3⟩ ?_ (I2.nolimit.keeps kp) ((I2.mod.glob.keeps I2.bk).keeps kp) hk hco hgen hcell hloc (fun v => hbind _ _ _ _ _ v) hix hpl hd ⟨o, kp _ _ ho, hc, n, hd2⟩ (by simp)
      show X.A.depth < recursionLimit
      omega
  · rw [dataLe_int] at eo
    have hp : (xs.mergeSort fun a b => decide (ks a ≤ ks b)).Perm xs := List.mergeSort_perm _ _
    have hs : (xs.mergeSort fun a b => decide (ks a ≤ ks b)).Pairwise (fun u v => ks u ≤ ks v) := by
      have := List.pairwise_mergeSort (le := fun a b => decide (ks a ≤ ks b)) (fun a b c h1 h2 => by simp only [decide_eq_true_eq] at *; omega) (fun a b => by simp only [Bool.or_eq_true, decide_eq_true_eq]; omega) xs
      exact this.imp fun h => of_decide_eq_true h
    refine ⟨.ref _, _, I2.laid (t' := tk) kp (Nat.le_succ _) (show ObjOk X.prog X.w _ h' _ (.lst (xs.mergeSort fun a b => decide (ks a ≤ ks b))) from ⟨by rw [hp.length_eq]; exact hz, out, ep, vals_each eo, hD⟩), rfl, q _ _ H2 eN T2 (I2.hok.fresh (Nat.le_succ _)) hp hs⟩
end
end Deed

namespace Deed
open PySem PySem.Spec PyProof.Rows L2 LamX
/-! ### a def whose code object's table is told -/
theorem okC {P : Program} {w : World} {K : PySem.W.Frag} {mg : Str → Option Value} {base : Heap} {x qual : Str} {st : Stmt} {f c : Addr} {fd : FuncData} {N ps : List Str} {k : Nat} {sp : Sp} (F : Fun K x qual st f fd) (hc : fd.code = .ref c) (S : FnScope N ps (defScope st)) (len : ∀ vs H Q E, sp vs H Q E → vs.length = ps.length)
    (hbody : ∀ (A : Around) (outer : List Env) (s : Shared) (H : Hp) (vs : List V) (Q : VK) (E : XK), Room k (A.deeper (envOfC qual (defScope st) s.heap.objs.size f (.ref c))) → sp vs H Q E →
      ∃ t, PSs (cxOf CX0 P w K mg base N qual (defScope st) f (.ref c) A outer s H E).nox (defBody st) t ∧ t { nx := fun _ H' => Q .non H', rt := Q } (start N vs) H) : FnOk P w K mg base CX0 (k + 1) f fd ps sp := by
  obtain ⟨oc, od, kV, doc, pm, an, cdv, ct, osl, rfl, lk, hcd⟩ := F.ex
  have e : cdv = .ref c := hc
  subst e
  refine fn_of lk hcd S len fun A outer s H vs Q E hr hsp => ?_
  obtain ⟨t, h, q⟩ := hbody A outer s H vs Q E hr hsp
  exact ⟨t, h.nox, q⟩
/-- the number that stands ahead in the tuple at v -/
def keyAt (H : Hp) (v : V) : Int := match v with
  | .ref t => (match H t with
    | some (.tup (.int n :: _)) => n
    | _ => 0)
  | _ => 0
theorem EntAt.key {H : Hp} {a : Addr} {e : En} (h : EntAt H a e) : ∃ r, H a = some (.tup (.int e.num :: r)) ∧ keyAt H (.ref a) = e.num := by
  have fin : ∀ r, H a = some (.tup (.int e.num :: r)) → keyAt H (.ref a) = e.num := fun r z => by
    show (match H a with | some (.tup (.int n :: _)) => n | _ => 0) = e.num
    rw [z]
  unfold EntAt at h
  cases hk : e.kd with
  | deed g t rs ws =>
    rw [hk] at h
    obtain ⟨r, w, h1, _⟩ := h
    exact ⟨_, h1, fin _ h1⟩
  | act x o =>
    rw [hk] at h
    exact ⟨_, h, fin _ h⟩
/-- what isn't tracked, or a table -/
def Fresh (H : Hp) (p : Addr) : Prop := ∀ o, H p = some o → ∃ ps, o = .tbl ps
theorem Fresh.of {H H' : Hp} {p : Addr} (e : ExtN H H') (n : H' p = none) : Fresh H p := fun o z => by
  by_cases h : ∃ ps, o = .tbl ps
  · exact h
  · rw [e p o z fun ps q => h ⟨ps, q⟩] at n
    cases n
theorem Fresh.ne {H : Hp} {p b : Addr} {o : HO} (f : Fresh H p) (e : H b = some o) (h : ∀ ps, o ≠ .tbl ps) : b ≠ p := fun z => by
  rw [z] at e
  obtain ⟨ps, q⟩ := f o e
  exact h ps q
theorem Fresh.up {H H' : Hp} {p : Addr} (e : ExtN H H') (f : Fresh H' p) : Fresh H p := fun o z => by
  by_cases h : ∃ ps, o = .tbl ps
  · exact h
  · exact f o (e p o z fun ps q => h ⟨ps, q⟩)
theorem ExtN.tup {H H' : Hp} (e : ExtN H H') : KpT H H' := fun b xs z => e _ _ z fun ps q => by cases q
theorem ExtN.new {H : Hp} {p : Addr} (n : H p = none) (o : HO) : ExtN H (upd H p o) := .of fun b u e => by
  rw [upd_ne (ne_of_none e n)]
  exact e
theorem Tabs.new {T : List (Addr × Str)} {H : Hp} (t : Tabs T H) {p : Addr} (n : H p = none) (o : HO) : Tabs T (upd H p o) := t.ext fun b u e => by
  rw [upd_ne (ne_of_none e n)]
  exact e
/-- a tracked list is written: the tables stay -/
theorem Tabs.put {T : List (Addr × Str)} {H : Hp} (t : Tabs T H) {p : Addr} {xs : List V} (e : H p = some (.lst xs)) (o : HO) : Tabs T (upd H p o) := fun q hq => by
  obtain ⟨ps, h1, h2, h3⟩ := t q hq
  have n1 : q.1 ≠ p := fun z => by
    rw [z, e] at h1
    cases h1
  refine ⟨ps, by rw [upd_ne n1]; exact h1, h2, fun pos cv hc => ?_⟩
  obtain ⟨c, e1, e2⟩ := h3 pos cv hc
  refine ⟨c, e1, ?_⟩
  have n2 : c ≠ p := fun z => by
    rw [z, e] at e2
    unfold CodeO at e2
    cases e2
  rw [upd_ne n2]
  exact e2
section
/-- an int of the module's top -/
def MgInt (mg : Str → Option Value) (x : Str) (i : Int) : Prop := ∃ t, mg x = some (.int i t)
theorem pe_num {X : Cx} {x : Str} {i : Int} {pos : Pos} (hg : Gl X x) (h : MgInt X.mg x i) (hd : (x == ("__debug__" : Str)) = false := by decide) : PE X (.Name x pos) (tC (.int i)) := by
  obtain ⟨t, h⟩ := h
  exact pe_glob hg h ⟨t, rfl⟩ hd
end
end Deed

namespace Deed
theorem take_more {α : Type} {l : List α} {i : Nat} {x : α} (h : l[i]? = some x) : l.take (i + 1) = l.take i ++ [x] := by
  rw [List.take_add_one, h]
  rfl
end Deed

namespace Deed
open PySem PySem.Spec PyProof.Rows L2 LamX
/-! ### rules whose reading names K; a def that may be called; comprehensions at large -/
theorem ix_tupK {X : Cx} {K : PySem.W.Frag} (h : X.K = K) : IxR X (rIxT K) := h ▸ ix_tup
theorem ix_listK {X : Cx} {K : PySem.W.Frag} (h : X.K = K) : IxR X (rIxL K) := h ▸ ix_list
theorem in_seqK {X : Cx} {K : PySem.W.Frag} (h : X.K = K) : OpR X (compareOp .In) (rIn K false) := h ▸ op_in_seq
theorem notIn_seqK {X : Cx} {K : PySem.W.Frag} (h : X.K = K) : OpR X (compareOp .NotIn) (rIn K true) := h ▸ op_notIn_seq
def rLenS (K : PySem.W.Frag) : List V → Hp → VK → Prop := fun xs H Q => ∃ p ys, xs = [.ref p] ∧ (SqL K H p ys ∨ SqT K H p ys) ∧ Q (.int ys.length) H
theorem len_seqK {X : Cx} {K : PySem.W.Frag} (h : X.K = K) : CallR X (.builtin "len") (rLenS K) := h ▸ call_len_seq
structure CallOk (P : Program) (w : World) (K : PySem.W.Frag) (mg : Str → Option Value) (base : Heap) (L : Nat) (x : Str) (ps : List Str) (sp : Sp) where
  f : Addr
  fd : FuncData
  g : mg x = some (.ref f)
  kp : PySem.W.keepIn K (.ref f) = true
  b : Binds K fd ps []
  ok : FnOk P w K mg base CX0 L f fd ps sp
def CallOk.mono {P : Program} {w : World} {K : PySem.W.Frag} {mg : Str → Option Value} {base : Heap} {L L' : Nat} {x : Str} {ps : List Str} {sp : Sp} (c : CallOk P w K mg base L x ps sp) (h : L ≤ L') : CallOk P w K mg base L' x ps sp := ⟨c.f, c.fd, c.g, c.kp, c.b, c.ok.mono h⟩
def Df.call {P : Program} {w : World} {K : PySem.W.Frag} {mg : Str → Option Value} {base : Heap} {L : Nat} {x : Str} {st : Stmt} {ps : List Str} {f : Addr} {fd : FuncData} {sp : Sp} (D : Df K mg x st ps f fd) (G : FnOk P w K mg base CX0 L f fd ps sp) : CallOk P w K mg base L x ps sp := ⟨f, fd, D.g, D.F.kp, D.b, G⟩
theorem nodup_len : ∀ {l m : List Int}, l.Nodup → (∀ x ∈ l, x ∈ m) → l.length ≤ m.length
  | [], m, _, _ => Nat.zero_le _
  | a :: r, m, h, hs => by
    rw [List.nodup_cons] at h
    have ha := hs a List.mem_cons_self
    have h1 := nodup_len (l := r) (m := m.erase a) h.2 fun x hx => by
      have hne : x ≠ a := fun z => h.1 (z ▸ hx)
      exact (List.mem_erase_of_ne hne).mpr (hs x (List.mem_cons_of_mem _ hx))
    rw [List.length_erase_of_mem ha] at h1
    have := List.length_pos_of_mem ha
    rw [List.length_cons]
    omega
theorem none_back {H H' : Hp} {p : Addr} (s : Same H H') (n : H' p = none) : H p = none := by
  cases h : H p with
  | none => rfl
  | some o => rw [s _ _ h] at n; cases n
theorem same_refl (H : Hp) : Same H H := fun _ _ e => e
theorem take_filter {α : Type} {p : α → Bool} {ys : List α} {i : Nat} {y : α} (h : ys[i]? = some y) : (ys.take (i + 1)).filter p = (ys.take i).filter p ++ (if p y then [y] else []) := by
  rw [take_more h, List.filter_append]
  congr 1
  cases hp : p y <;> simp [hp]
section
variable {J : It} {n : Nat} {G : Hp → Prop} {Y : Nat → Hp → V → Hp → Prop} {g : TG} {tt : TT} {te : TE} {vs : List Nat} {σ : L2.St} {H1 : Hp} {D : Addr} {Qd : Hp → Prop} {α : Type}
abbrev LcGoal (J : It) (g : TG) (tt : TT) (te : TE) (vs : List Nat) (σ : L2.St) (H1 : Hp) (D : Addr) (Qd : Hp → Prop) : Prop :=
  ∃ W : Nat → Nat → Hp → Prop, (∃ m, W 0 m (upd H1 D (.lst []))) ∧ ∀ i m H, W i m H →
      (J.stop i H ∧ Qd H) ∨ (J.go i H ∧ ∃ Nx : Hp → Prop, (∀ H', Nx H' → ∃ m', m' < m ∧ W (i + 1) m' H') ∧ ∀ x H', J.yld i H x H' → g x (wipe σ vs) H' fun σ2 H2 => wipe σ2 vs = wipe σ vs ∧ tt σ2 H2 fun b H3 =>
        if b = true then te σ2 H3 fun y H4 => ∃ acc, H4 D = some (.lst acc) ∧ acc.length < sizeLine ∧ Nx (upd H4 D (.lst (acc ++ [y]))) else Nx H3)
/-- at large: St a step of the heap, In what holds of it, E what holds of an item -/
theorem lc_gen (w : Walk J n G Y) (ys : List α) (p : α → Bool) (In : Hp → Prop) (Sp1 : Hp → Hp → Prop) (E : Hp → α → V → Prop) (hn : ys.length = n) (hlen : ys.length ≤ 1000) (h0 : In (upd H1 D (.lst []))) (hG : ∀ H, In H → G H)
    (hSt : ∀ H H', In H → Sp1 H H' → In H' ∧ ∀ xs, H D = some (.lst xs) → H' D = some (.lst xs)) (hPut : ∀ H xs l, In H → H D = some (.lst xs) → In (upd H D (.lst l)))
    (hE : ∀ H H' y u, In H → Sp1 H H' → E H y u → E H' y u) (hEp : ∀ H xs l y u, In H → H D = some (.lst xs) → E H y u → E (upd H D (.lst l)) y u)
    (hs : ∀ i y x H H', ys[i]? = some y → In H → Y i H x H' → ∀ (Q1 : V → Hp → Prop) (Q0 : Hp → Prop), (p y = true → ∀ u H4, Sp1 H H4 → E H4 y u → Q1 u H4) → (p y = false → ∀ H3, Sp1 H H3 → Q0 H3) →
      g x (wipe σ vs) H' fun σ2 H2 => wipe σ2 vs = wipe σ vs ∧ tt σ2 H2 fun b H3 => if b = true then te σ2 H3 Q1 else Q0 H3)
    (hd : ∀ H (zs : List (V × α)), In H → H D = some (.lst (zs.map (·.1))) → zs.map (·.2) = ys.filter p → (∀ z ∈ zs, E H z.2 z.1) → Qd H) : LcGoal J g tt te vs σ H1 D Qd := by
  refine lc_it w (fun i H => In H ∧ ∃ zs : List (V × α), H D = some (.lst (zs.map (·.1))) ∧ zs.map (·.2) = (ys.take i).filter p ∧ ∀ z ∈ zs, E H z.2 z.1) ⟨h0, [], upd_same, rfl, fun _ h => nomatch h⟩ (fun i H _ h => hG H h.1) ?_ ?_
  · rintro i x H H' hi ⟨hI, zs, eD, ez, hz⟩ hY
    rw [← hn] at hi
    have hy : ys[i]? = some ys[i] := List.getElem?_eq_getElem hi
    have hzl : zs.length ≤ 1000 := by
      have h1 := congrArg List.length ez
      rw [List.length_map] at h1
      have h2 := List.length_filter_le p (ys.take i)
      rw [List.length_take] at h2
      omega
    refine hs i ys[i] x H H' hy hI hY _ _ (fun hp u H4 s4 e4 => ?_) (fun hp H3 s3 => ?_)
    · obtain ⟨I4, k4⟩ := hSt _ _ hI s4
      have eD4 := k4 _ eD
      refine ⟨_, eD4, small1000 (by rw [List.length_map]; omega), hPut _ _ _ I4 eD4, zs ++ [(u, ys[i])], ?_, ?_, fun z hzz => ?_⟩
      · rw [upd_same, List.map_append]
        rfl
      · rw [List.map_append, ez, take_filter hy, hp]
        rfl
      · rcases List.mem_append.mp hzz with h | h
        · exact hEp _ _ _ _ _ I4 eD4 (hE _ _ _ _ hI s4 (hz z h))
        · rw [List.mem_singleton.mp h]
          exact hEp _ _ _ _ _ I4 eD4 e4
    · obtain ⟨I3, k3⟩ := hSt _ _ hI s3
      refine ⟨I3, zs, k3 _ eD, ?_, fun z hzz => hE _ _ _ _ hI s3 (hz z hzz)⟩
      rw [ez, take_filter hy, hp]
      simp
  · rintro H ⟨hI, zs, eD, ez, hz⟩
    rw [← hn, List.take_length] at ez
    exact hd H zs hI eD ez hz
theorem same_put {H H1 : Hp} {D : Addr} (nD : H1 D = none) (s : Same H1 H) (o : HO) : Same H1 (upd H D o) := fun b u e => by
  rw [upd_ne (ne_of_none e nD)]
  exact s _ _ e
theorem same_new {H : Hp} {p : Addr} (n : H p = none) (o : HO) : Same H (upd H p o) := fun b u e => by rw [upd_ne (ne_of_none e n)]; exact e
/-- values; nothing but the new list is otherwise -/
theorem lc_sameV (w : Walk J n G Y) (ys : List α) (p : α → Bool) (v : α → V) (hn : ys.length = n) (hlen : ys.length ≤ 1000) (nD : H1 D = none) (hG : ∀ H, Same H1 H → G H)
    (hs : ∀ i y x H H', ys[i]? = some y → Same H1 H → Y i H x H' → ∀ (Q1 : V → Hp → Prop) (Q0 : Hp → Prop), (p y = true → ∀ H4, Same H H4 → Q1 (v y) H4) → (p y = false → ∀ H3, Same H H3 → Q0 H3) →
      g x (wipe σ vs) H' fun σ2 H2 => wipe σ2 vs = wipe σ vs ∧ tt σ2 H2 fun b H3 => if b = true then te σ2 H3 Q1 else Q0 H3)
    (hd : ∀ H, Same H1 H → H D = some (.lst ((ys.filter p).map v)) → Qd H) : LcGoal J g tt te vs σ H1 D Qd := by
  refine lc_gen w ys p (fun H => Same H1 H) Same (fun _ y u => u = v y) hn hlen (same_new nD _) hG (fun H H' h1 h2 => ⟨h1.trans h2, fun xs e => h2 _ _ e⟩) (fun H xs l h1 _ => same_put nD h1 _) (fun _ _ _ _ _ _ e => e) (fun _ _ _ _ _ _ _ e => e) (fun i y x H H' hy h1 hY Q1 Q0 q1 q0 => ?_) (fun H zs h1 e ez hz => ?_)
  · exact hs i y x H H' hy h1 hY Q1 Q0 (fun hp H4 s4 => q1 hp _ H4 s4 rfl) q0
  · refine hd H h1 ?_
    rw [e, ← ez, List.map_map]
    congr 2
    exact List.map_congr_left fun z hzz => hz z hzz
theorem lc_sameM (w : Walk J n G Y) (ys : List α) (v : α → V) (hn : ys.length = n) (hlen : ys.length ≤ 1000) (nD : H1 D = none) (hG : ∀ H, Same H1 H → G H)
    (hs : ∀ i y x H H', ys[i]? = some y → Same H1 H → Y i H x H' → ∀ (Q1 : V → Hp → Prop), (∀ H4, Same H H4 → Q1 (v y) H4) → g x (wipe σ vs) H' fun σ2 H2 => wipe σ2 vs = wipe σ vs ∧ te σ2 H2 Q1)
    (hd : ∀ H, Same H1 H → H D = some (.lst (ys.map v)) → Qd H) : LcGoal J g tYes te vs σ H1 D Qd := by
  refine lc_sameV w ys (fun _ => true) v hn hlen nD hG (fun i y x H H' hy h1 hY Q1 Q0 q1 q0 => ?_) (fun H h1 e => hd H h1 (by rw [e, List.filter_eq_self.mpr fun _ _ => rfl]))
  exact hs i y x H H' hy h1 hY Q1 (fun H4 s4 => q1 rfl H4 s4)
/-- new tuples -/
theorem lc_sameT (w : Walk J n G Y) (ys : List α) (p : α → Bool) (v : α → List V) (hn : ys.length = n) (hlen : ys.length ≤ 1000) (nD : H1 D = none) (hG : ∀ H, Same H1 H → G H)
    (hs : ∀ i y x H H', ys[i]? = some y → Same H1 H → Y i H x H' → ∀ (Q1 : V → Hp → Prop) (Q0 : Hp → Prop), (p y = true → ∀ t H4, Same H H4 → H4 t = some (.tup (v y)) → Q1 (.ref t) H4) → (p y = false → ∀ H3, Same H H3 → Q0 H3) →
      g x (wipe σ vs) H' fun σ2 H2 => wipe σ2 vs = wipe σ vs ∧ tt σ2 H2 fun b H3 => if b = true then te σ2 H3 Q1 else Q0 H3)
    (hd : ∀ H (zs : List (Addr × α)), Same H1 H → H D = some (.lst (zs.map fun z => .ref z.1)) → zs.map (·.2) = ys.filter p → (∀ z ∈ zs, H z.1 = some (.tup (v z.2))) → Qd H) : LcGoal J g tt te vs σ H1 D Qd := by
  refine lc_gen w ys p (fun H => Same H1 H) Same (fun H y u => ∃ t, u = .ref t ∧ H t = some (.tup (v y))) hn hlen (same_new nD _) hG (fun H H' h1 h2 => ⟨h1.trans h2, fun xs e => h2 _ _ e⟩) (fun H xs l h1 _ => same_put nD h1 _) (fun H H' y u _ h2 e => ?_) (fun H xs l y u h1 h2 e => ?_) (fun i y x H H' hy h1 hY Q1 Q0 q1 q0 => ?_) (fun H zs h1 e ez hz => ?_)
  · obtain ⟨t, e1, e2⟩ := e
    exact ⟨t, e1, h2 _ _ e2⟩
  · obtain ⟨t, e1, e2⟩ := e
    refine ⟨t, e1, ?_⟩
    rw [upd_ne fun z => by rw [z, h2] at e2; cases e2]
    exact e2
  · exact hs i y x H H' hy h1 hY Q1 Q0 (fun hp t H4 s4 e4 => q1 hp _ H4 s4 ⟨t, rfl, e4⟩) q0
  · have key : ∀ zs : List (V × α), (∀ z ∈ zs, ∃ t, z.1 = .ref t ∧ H t = some (.tup (v z.2))) → ∃ ws : List (Addr × α), zs.map (·.1) = ws.map (fun z => V.ref z.1) ∧ ws.map (·.2) = zs.map (·.2) ∧ ∀ z ∈ ws, H z.1 = some (.tup (v z.2)) := by
      intro zs
      induction zs with
      | nil => exact fun _ => ⟨[], rfl, rfl, fun _ h => nomatch h⟩
      | cons z r ih =>
        intro h
        obtain ⟨ws, a1, a2, a3⟩ := ih fun x hx => h x (List.mem_cons_of_mem _ hx)
        obtain ⟨t, e1, e2⟩ := h z List.mem_cons_self
        refine ⟨(t, z.2) :: ws, ?_, ?_, fun x hx => ?_⟩
        · rw [List.map_cons, List.map_cons, a1, e1]
        · rw [List.map_cons, List.map_cons, a2]
        · rcases List.mem_cons.mp hx with h | h
          · rw [h]
            exact e2
          · exact a3 x h
    obtain ⟨ws, a1, a2, a3⟩ := key zs hz
    exact hd H ws h1 (by rw [e, a1]) (by rw [a2, ez]) a3
end
end Deed

namespace Deed
open PySem PySem.Spec PyProof.Rows L2 LamX
theorem Tabs.kp {T : List (Addr × Str)} {H H' : Hp} {p : Addr} (t : Tabs T H) (k : Kp p H H') (P : PenAt H p) : Tabs T H' := fun q hq => by
  obtain ⟨ps, h1, h2, h3⟩ := t q hq
  refine ⟨ps, k _ _ (P.ne h1 fun _ z => by cases z) h1, h2, fun pos cv hc => ?_⟩
  obtain ⟨c, e1, e2⟩ := h3 pos cv hc
  exact ⟨c, e1, k _ _ (P.ne e2 fun _ z => by unfold CodeO at z; cases z) e2⟩
theorem ExtN.sqL {K : PySem.W.Frag} {H H' : Hp} {a : Addr} {xs : List V} (e : ExtN H H') (h : SqL K H a xs) : SqL K H' a xs := by
  rcases h with (z | ⟨o, z⟩) | z
  · exact .inl (.inl (e _ _ z fun ps z' => by cases z'))
  · exact .inl (.inr ⟨o, e _ _ z fun ps z' => by cases z'⟩)
  · exact .inr z
theorem ExtN.pen {H H' : Hp} {p : Addr} (e : ExtN H H') (h : PenAt H p) : PenAt H' p := by
  obtain ⟨x1, x2, x3, x4, z1, z2⟩ := h
  exact ⟨x1, x2, x3, x4, e _ _ z1 fun ps z => (by cases z), z2⟩
/-- with a pen that is new -/
theorem ExtN.kp {H H1 H2 : Hp} {p : Addr} (e : ExtN H H1) (n : H p = none) (k : Kp p H1 H2) : ExtN H H2 := fun b o z h => k b o (ne_of_none z n) (e b o z h)
theorem ExtN.put {H H' : Hp} {p : Addr} (e : ExtN H H') (f : Fresh H p) (o : HO) : ExtN H (upd H' p o) := fun b u z h => by
  rw [upd_ne (f.ne z h)]
  exact e b u z h
theorem rising_one : ∀ {l m : List Int}, l.Pairwise (· < ·) → m.Pairwise (· < ·) → (∀ x, x ∈ l ↔ x ∈ m) → l = m
  | [], [], _, _, _ => rfl
  | [], y :: m, _, _, h => absurd ((h y).mpr List.mem_cons_self) (by simp)
  | x :: l, [], _, _, h => absurd ((h x).mp List.mem_cons_self) (by simp)
  | x :: l, y :: m, h1, h2, h => by
    have a1 := List.pairwise_cons.mp h1
    have a2 := List.pairwise_cons.mp h2
    have exy : x = y := by
      have m1 := (h x).mp List.mem_cons_self
      have m2 := (h y).mpr List.mem_cons_self
      rcases List.mem_cons.mp m1 with e | e
      · exact e
      · rcases List.mem_cons.mp m2 with e' | e'
        · exact e'.symm
        · have := a1.1 y e'
          have := a2.1 x e
          omega
    subst exy
    congr 1
    refine rising_one a1.2 a2.2 fun z => ?_
    constructor
    · intro hz
      rcases List.mem_cons.mp ((h z).mp (List.mem_cons_of_mem _ hz)) with e | e
      · have := a1.1 z hz
        omega
      · exact e
    · intro hz
      rcases List.mem_cons.mp ((h z).mpr (List.mem_cons_of_mem _ hz)) with e | e
      · have := a2.1 z hz
        omega
      · exact e
end Deed

namespace SupX
open PySem PySem.Spec PyProof.Rows L2 LamX
/-! ### exceptions as values: isinstance of them, a field of them -/
/-- an exception of the class C that nobody raised -/
def ExV (K : PySem.W.Frag) (H : Hp) (a C : Addr) : Prop := ExcC K C ∧ (H a = some (ExO (.ref C) a) ∨ ∃ d fs, H a = some (exo a C (some d)) ∧ H d = some (exd d fs))
theorem ExV.same {K : PySem.W.Frag} {H H' : Hp} {a C : Addr} (h : ExV K H a C) (s : Same H H') : ExV K H' a C := by
  obtain ⟨c, h | ⟨d, fs, h1, h2⟩⟩ := h
  · exact ⟨c, .inl (s _ _ h)⟩
  · exact ⟨c, .inr ⟨d, fs, s _ _ h1, s _ _ h2⟩⟩
section
variable {X : Cx} {pins : List (Addr × Obj)} {σ : L2.St} {H : Hp} {s : Shared} {a C : Addr}
theorem ExV.inst (I : Inv X pins σ H s) (h : ExV X.K H a C) : ∃ ox od, PySem.W.InstAt s.heap a ox C od := by
  obtain ⟨c, h | ⟨d, fs, h1, h2⟩⟩ := h
  · obtain ⟨⟨oe, vs, ho, hz, hd, _⟩, _, _⟩ := I.hok a _ h
    obtain ⟨oc, odd, oda, osl⟩ := oe
    obtain ⟨z1, z2⟩ := hz
    dsimp only at z1 z2 hd
    subst z1 z2 hd
    exact ⟨_, none, ho, rfl, rfl, trivial⟩
  · obtain ⟨t1, ho⟩ := exo_at I.hok h1
    obtain ⟨mA, hns, hr⟩ := exd_at I.hok h2
    obtain ⟨o, es, ep, e1, e2, _⟩ := hns
    exact ⟨_, some o, ho, rfl, rfl, e1⟩
def rIsX (K : PySem.W.Frag) : List V → Hp → VK → Prop := fun xs H Q => ∃ (a C : Addr) (c : V) (cv : Value) (b : Bool), xs = [.ref a, c] ∧ ExV K H a C ∧ ClsV c cv ∧ PySem.W.kitOne K (.ref C) cv = some b ∧ Q (.bl b) H
theorem call_isX : CallR X (.builtin "isinstance") (rIsX X.K) := by
  intro pins s σ H xs us Q I r h
  obtain ⟨a, C, c, cv, b, rfl, hv, k, e, q⟩ := h
  obtain ⟨u1, u2, rfl, r1, r2⟩ := vals2 r
  have e2 := k.eq r2
  subst e2
  cases (show u1 = Value.ref a from r1)
  obtain ⟨ox, od, J⟩ := hv.inst I
  have E := hv.1
  obtain ⟨cd, hc, _⟩ := PySem.W.any_some E.hd
  exact PySem.W.kia_one (PySem.W.kitx_exc (by rw [hc]; rfl) E.hg E.hk E.hs E.ha E.hn E.ht E.hm) I.kIn J e (fun z => nomatch z) fun tk => ⟨.bl b, H, I.tok tk, rfl, q⟩
/-- e.f of an exception that is held as a value -/
def tXv (K : PySem.W.Frag) (f : Str) (te : TE) : TE := fun σ H Q => te σ H fun x H1 => ∃ (a C d : Addr) (fs : List (Str × V)) (v : V), x = .ref a ∧ XfC K C ∧ PySem.W.findIn K (.ref C) f = some none ∧ H1 a = some (exo a C (some d)) ∧ H1 d = some (exd d fs) ∧ fs.lookup f = some v ∧ Q v H1
theorem pe_xv {e : Expr} {te : TE} {pos : Pos} {n : Str} (he : PE X e te) (hb : attributeBase e n X.env (eval e X.env) = eval e X.env := by rfl) : PE X (.Attribute e n pos) (tXv X.K n te) := by
  refine ⟨fun pins s σ H Q I h => ?_⟩
  refine attr_of hb (thn (he.run pins s σ H _ I h) fun u s1 hh => ?_)
  obtain ⟨x, H1, I1, rx, a, C, d, fs, v, rfl, T, hno, ea, ed, l, q⟩ := hh
  obtain rfl : u = Value.ref a := rx
  obtain ⟨t1, ho⟩ := exo_at I1.hok ea
  obtain ⟨mA, hns, hr⟩ := exd_at I1.hok ed
  obtain ⟨od, hod, hl⟩ := lookIn_ns (show s1.heap.Ns1 d mA from hns)
  obtain ⟨u, hu, ru⟩ := RelO.some_of (v := v) (o := mA n) (by rw [← l]; exact hr n)
  have J : PySem.W.InstAt s1.heap a ({ cls := .ref C, dict := some d, data := .fields #[.ref t1, .none, .none, .none, .bool false, .none] } : Obj) C (some od) := ⟨ho, rfl, rfl, hod⟩
  exact HandSPX.exc_get I1.kIn J T.ga T.gg T.exC (PySem.W.findObj_own T.hdC hno rfl (by rw [hl, hu])) (handed_of ru) ⟨v, H1, I1.tok _, ru, q⟩
end
/-! ### list.count of data -/
def rCountD (K : PySem.W.Frag) : V → List V → Hp → VK → Prop := fun x xs H Q => ∃ (a : Addr) (y : V) (d : PyData) (ds : List PyData), x = V.ref a ∧ xs = [y] ∧ Dp K H (V.ref a) (.list ds) ∧ Dp K H y d ∧
  SeqAt.shaped (.list ds) = true ∧ SeqAt.shaped d = true ∧ Q (.int ((ds.countP fun z => PyData.eqv z d : Nat) : Int)) H
theorem mt_countD {X : Cx} (hu : X.A.units + 65 < cLine) : MtR X "list.count" (rCountD X.K) := by
  intro pins s σ H x xs v us Q I rx rxs h
  obtain ⟨a, y, d, ds, rfl, rfl, hl, hy, sl, sd, q⟩ := h
  cases rx
  obtain ⟨uy, rfl, ry⟩ := rxs.one
  obtain ⟨bs, r1⟩ := Dp.reads I d y uy hy ry
  have hxs : PyData.canLayAll0 ds = true := SeqAt.canLay_of_shaped sl
  have hroom : X.A.units + 1 + min (PyData.depthAll ds) d.depth < cLine := room_in_shaped sd hu
  cases hl with
  | lst hs ha =>
    obtain ⟨its, rv, ⟨⟨cls, dd, data, sls⟩, n, ho, hc, hdn, hdt⟩, hlen⟩ := I.list hs
    simp only at hc hdt
    subst hc hdt
    obtain ⟨as, h4⟩ := Dp.readsAll I ds _ its ha rv
    have hmap : its.map (SeqAt.readOf s.heap) = ds := SeqAt.readsAll_map ds its as hxs h4
    refine call_meets PySem.F.slot_list_count ⟨_, ho, rfl⟩ PySem.F.entry_list_count (PySem.F.args_list_count_2 _ _)
      (SeqAt.list_countAt a its.toArray n dd sls uy (fun u => PyData.eqv (SeqAt.readOf s.heap u) d)) ⟨ho, SeqAt.items_eqAt (vs := its.toArray) (show ReadsAll s.heap its.toArray.toList ds as from h4) r1 hxs (SeqAt.canLay_of_shaped sd) hroom, ?_⟩
    have ec : its.toArray.toList.countP (fun u => PyData.eqv (SeqAt.readOf s.heap u) d) = ds.countP (fun z => PyData.eqv z d) := by
      rw [← hmap, List.countP_map]
      rfl
    refine ⟨.int ((ds.countP fun z => PyData.eqv z d : Nat) : Int), H, I.tok _, ⟨s.toks, ?_⟩, q⟩
    show Value.int ((its.toArray.toList.countP (fun u => PyData.eqv (SeqAt.readOf s.heap u) d) : Nat) : Int) s.toks = _
    rw [ec]
end SupX

namespace PySem.HandSPX
open PySem PySem.Spec PySem.W PySem.Calls PyProof.Rows Builtin Builtin.ObjectAttr
/-! ### an own class of refusals with an __init__ of its own, called by names -/
section
variable {M : Model} {A : Around} {h : Heap} {E : Value → Shared → Prop} {t : Nat} {d : Drawn} {g : Array GenState} {os : OsState}
variable {nm q : Str} {C N : Addr} {bs bm bmB : List Value} {hdct : Bool} {sn : List Str} {sub : List Value} {ab : Bool} {col : Option Bool} {dd : Option Addr} {k0 k1 k2 k3 k5 : Option Value} {B nId iId : String} {kw : List (Str × Value)}
theorem check_new_kw (F : ExcBaseFacts B nId iId bmB) (sameT : ∀ X : String, bm.contains (.type X) = bmB.contains (.type X)) {xs : List Value} {Q : Unit → Shared → Prop}
    (clsAt : h.get? C = some (excClassObj nm q C N bs bm hdct sn sub ab col dd k0 k1 k2 k3 k5 nId)) (goOn : Q () ⟨h, g, d, t, os⟩) : wpAny M A (checkBuiltinCall nId ⟨.ref C :: xs, kw⟩) Q E ⟨h, g, d, t, os⟩ := by
  have inB : (Value.ref C :: bm).contains (.type B) = true := by rw [List.contains_cons, sameT, F.hasB, Bool.or_true]
  have nst := F.noStar
  simp only [checkBuiltinCall, F.newKind, F.newSplit, F.newRow]
  repeat (first | refine wpAny_loadPart_at clsAt ?_ | (refine wpAny_isSubtype_exc clsAt ?_; rw [inB]) | refine wpAny_staticBase_exc clsAt ?_ | refine wpAny_madeBy_exc clsAt ?_ | simp only [bne_self_eq_false, Bool.false_eq_true, if_false] | wp_step)
  exact goOn
end
section
variable {w : World} {prog : Program} {R : Result → Shared → Prop} {A : Around} {E : Value → Shared → Prop} {t : Nat} {h : Heap} {d : Drawn} {g : Array GenState} {os : OsState}
variable {nm q : Str} {C N : Addr} {bs bm bmB : List Value} {hdct : Bool} {sn : List Str} {sub : List Value} {ab : Bool} {col : Option Bool} {dd : Option Addr} {k0 k1 k2 k3 k5 : Option Value} {B nId iId : String} {kw : List (Str × Value)}
theorem new_kw (F : ExcBaseFacts B nId iId bmB) (sameT : ∀ X : String, bm.contains (.type X) = bmB.contains (.type X)) {xs : List Value}
    (clsAt : h.get? C = some (excClassObj nm q C N bs bm hdct sn sub ab col dd k0 k1 k2 k3 k5 nId))
    (goOn : R (.ok (.ret (.ref (h.objs.size + 1)))) ⟨(h.push { cls := .type "tuple", data := .seq xs.toArray }).push
      { cls := .ref C, data := .fields #[.ref h.objs.size, .none, .none, .none, .bool false, .none] }, g, d, t, os⟩) (few : xs.length ≤ sizeLine) :
    codeAny (model prog w) A (.builtin nId ⟨.ref C :: xs, kw⟩) R ⟨h, g, d, t, os⟩ := by
  have fe := F.ends
  have b1in : (Value.ref C :: bm).contains (.type B) = true := by rw [List.contains_cons, sameT, F.hasB, Bool.or_true]
  have b2no : (Value.ref C :: bm).contains (.type "AttributeError") = false := by rw [List.contains_cons, sameT, F.noAttr]; rfl
  have b3no : (Value.ref C :: bm).contains (.type "NameError") = false := by rw [List.contains_cons, sameT, F.noName]; rfl
  refine codeAny_builtinAt F.entry ?_
  unfold Builtin.«BaseException.__new__»
  refine wpAt_bind ?_
  show wpAt _ _ _ (stack >>= _) _ _ _
  refine wpAt_bind (wpAt_stack fun p below => wpAt_of_wpAny ?_)
  wp_walk
  refine wpAt_of_wpAny ?_
  rw [F.owner]
  repeat (first | with_reducible refine wpAny_madeHere_exc F.canon clsAt ?_ | with_reducible refine wpAny_loadPart_at clsAt ?_ | (with_reducible refine wpAny_isSubtype_exc clsAt ?_; first | rw [b1in] | rw [b2no] | rw [b3no]) | wp_step)
  show R _ _
  rw [Heap.size_push]
  exact goOn
theorem type_call_kw (F : ExcBaseFacts B nId iId bmB) (sameT : ∀ X : String, bm.contains (.type X) = bmB.contains (.type X)) {xs : List Value} {ini : Addr} {Q : Fin → Shared → Prop}
    (clsAt : h.get? C = some (excClassObj nm q C N bs bm hdct sn sub ab col dd k0 k1 k2 k3 k5 nId))
    (lkI : W.Looks (model prog w) h (typeLookup (.ref C) "__init__") (some (.ref ini))) (bdI : ∀ self, W.Looks (model prog w) h (bindSpecial (.ref ini) self) (.ref ini, [self])) (few : xs.length ≤ sizeLine)
    (goOn : codeAny (model prog w) A (.call (.ref ini) ⟨.ref (h.objs.size + 1) :: xs, kw⟩)
      (fun r s' => match r with | .ok (.ret v) => v = .none ∧ Q (.done (.ret (.ref (h.objs.size + 1)))) s' | .ok _ => False | .error e => E e s')
      ⟨(h.push (W.kdv_tup xs)).push (excO C h.objs.size), g, d, t, os⟩) :
    wpAny (model prog w) A (Builtin.«type.__call__» ⟨.ref C :: xs, kw⟩) Q E ⟨h, g, d, t, os⟩ := by
  repeat (first | with_reducible refine wpAny_loadPart_at clsAt ?_ | with_reducible refine wpAny_madeBy_exc clsAt ?_ | wp_step)
  refine codeAny_call_builtin_code (Code.quiet_builtin _ F.quiet) (check_new_kw F sameT clsAt ?_)
  refine new_kw F sameT clsAt ?_ few
  show wpAny _ _ _ _ _ _
  have k : ∀ b o, h.get? b = some o → ((h.push (W.kdv_tup xs)).push (excO C h.objs.size)).get? b = some o := fun b o e => Heap.get?_push_of_some _ (Heap.get?_push_of_some _ e)
  have cls1 := k _ _ clsAt
  have at1 : ((h.push (W.kdv_tup xs)).push (excO C h.objs.size)).get? (h.objs.size + 1) = some (excO C h.objs.size) := by heap_get
  have own1 : (Value.ref C :: bm).contains (.ref C) = true := by simp
  have look1 := lkI.keeps k
  have bind1 := (bdI (.ref (h.objs.size + 1))).keeps k
  unfold isInstance
  repeat (first | with_reducible refine wpAny_loadPart_at at1 ?_ | (with_reducible refine wpAny_isSubtype_exc cls1 ?_; rw [own1]) | wp_step)
  show wpAny _ _ (typeLookup (.ref C) _) _ _ _
  refine look1.at ?_
  refine wpAny_holding (wpAny_bind (bind1.at ?_))
  refine wpAny_bind (wpAny_call (codeAny_mono goOn fun r s' z => ?_))
  rcases r with e | (v | _ | _ | _) <;> first | exact z | exact z.elim | skip
  obtain ⟨rfl, z⟩ := z
  first
    | exact wpAny_pure (wpAny_pure z)
    | (wp_walk; exact z)
theorem call_kw (F : ExcBaseFacts B nId iId bmB) (sameT : ∀ X : String, bm.contains (.type X) = bmB.contains (.type X)) {xs : List Value} {ini : Addr}
    (clsAt : h.get? C = some (excClassObj nm q C N bs bm hdct sn sub ab col dd k0 k1 k2 k3 k5 nId))
    (lkI : W.Looks (model prog w) h (typeLookup (.ref C) "__init__") (some (.ref ini))) (bdI : ∀ self, W.Looks (model prog w) h (bindSpecial (.ref ini) self) (.ref ini, [self])) (few : xs.length ≤ sizeLine)
    (goOn : codeAny (model prog w) (A.under (.builtin "type.__call__" ⟨.ref C :: xs, kw⟩)) (.call (.ref ini) ⟨.ref (h.objs.size + 1) :: xs, kw⟩) (W.InitBack (h.objs.size + 1) R)
      ⟨(h.push (W.kdv_tup xs)).push (excO C h.objs.size), g, d, t, os⟩) :
    codeAny (model prog w) A (.call (.ref C) ⟨xs, kw⟩) R ⟨h, g, d, t, os⟩ := by
  have tl := tc_lookup
  have tb := tc_bind (.ref C)
  have tyC : (⟨h, g, d, t, os⟩ : Shared).TypeIs (.ref C) "type" := ⟨_, clsAt, rfl⟩
  refine codeAny_of_tree ?_
  show wpAny _ _ (callAny (.ref C) _) _ _ _
  repeat (any_goals (first | assumption | with_reducible refine wpAny_loadPart_at clsAt ?_ | wp_step))
  refine ⟨rfl, ?_⟩
  refine codeAny_call_builtin_at (Code.quiet_builtin _ (by decide +kernel)) entry_typeCall (wpAny_check_type_call_sub clsAt (type_call_kw F sameT clsAt lkI bdI few ?_))
  refine codeAny_mono goOn fun r s' z => ?_
  rcases r with e | (v | _ | _ | _) <;> exact z
end
end PySem.HandSPX
namespace SupX
open PySem PySem.Spec PyProof.Rows L2 LamX
/-- C(e, .., k = v, ..) of such a class, as a value: n values, m keywords -/
def tMkE (C : Addr) (n m : Nat) (sp : Sp) (gV : List V → List V → List V) (ta tk : TA) : TE := fun σ H Q => ta σ H fun vs H1 => tk σ H1 fun zs H2 => vs.length = n ∧ zs.length = m ∧ n ≤ 1000 ∧
  ∀ a, H2 a = none → sp (gV (.ref a :: vs) zs) (upd H2 a (exo a C none)) (fun v H3 => v = .non ∧ Q (.ref a) H3) (fun _ _ _ => False)
section
variable {X : Cx} {CX : CXT} {k n : Nat} {C fI : Addr} {fd : FuncData} {ps ks : List Str} {sp : Sp} {x : Str} {p pos : Pos} {e : Expr} {es : List Expr} {kws : List Keyword} {ta tk : TA} {g : List Value → List Value → List Value} {gV : List V → List V → List V}
theorem run_mkE {pins : List (Addr × Obj)} {σ : L2.St} {H : Hp} {s : Shared} {Q : VK} {us ws : List Value} {vs zs : List V} (T : OexC X.K C) (iC : PySem.W.findIn X.K (.ref C) "__init__" = some (some (.ref fI))) (tI : PySem.W.typeIn X.K (.ref fI) = some (.type "function"))
    (F1 : FnOk X.prog X.w X.K X.mg X.base CX k fI fd ps sp) (hr : Room (k + 1) X.A) (hb : KBn X.K fd ps (n + 1) ks g gV) (hx : Passes CX X (fun _ _ _ => False)) (I : Inv X pins σ H s) (r : Vals vs us) (rz : Vals zs ws) (l1 : vs.length = n) (l2 : zs.length = ks.length) (hn0 : n ≤ 1000)
    (h : ∀ a, H a = none → sp (gV (.ref a :: vs) zs) (upd H a (exo a C none)) (fun v H3 => v = .non ∧ Q (.ref a) H3) (fun _ _ _ => False)) :
    wpAny (model X.prog X.w) X.A (call (.ref C) us (ks.zip ws)) (EP X pins σ Q) X.xe s := by
  obtain ⟨nm, q, N, bs, bm, sn, sub, ab, col, dd, k0, k1, k2, k3, k5, hC, hbm⟩ := T.cls
  obtain ⟨hp, gg, dr, tk, os⟩ := s
  have hsz : hp.objs.size ≤ hp.objs.size + 1 := Nat.le_succ _
  have hn : H (hp.objs.size + 1) = none := I.hok.fresh hsz
  have hq := h (hp.objs.size + 1) hn
  have kk : ∀ b o, hp.get? b = some o → ((hp.push (PySem.W.kdv_tup us)).push (PySem.HandSPX.excO C hp.objs.size)).get? b = some o := fun b o e => Heap.get?_push_of_some _ (Heap.get?_push_of_some _ e)
  have hget : ((hp.push (PySem.W.kdv_tup us)).push (PySem.HandSPX.excO C hp.objs.size)).get? (hp.objs.size + 1) = some (PySem.HandSPX.excO C hp.objs.size) := by heap_get
  have I2 : Inv X pins σ (upd H (hp.objs.size + 1) (exo (hp.objs.size + 1) C none)) ⟨(hp.push (PySem.W.kdv_tup us)).push (PySem.HandSPX.excO C hp.objs.size), gg, dr, tk, os⟩ :=
    I.laid (t' := tk) (a := hp.objs.size + 1) (o := exo (hp.objs.size + 1) C none) (h' := (hp.push (PySem.W.kdv_tup us)).push (PySem.HandSPX.excO C hp.objs.size)) kk hsz (exo_ok hget)
  have r1 : Vals (V.ref (hp.objs.size + 1) :: vs) (Value.ref (hp.objs.size + 1) :: us) := .cons rfl r
  have r2 := hb.rel r1 rz
  have e1 : (Value.ref (hp.objs.size + 1) :: us).length = n + 1 := r1.length.symm.trans (congrArg Nat.succ l1)
  have e2 : ws.length = ks.length := rz.length.symm.trans l2
  have hus : us.length ≤ sizeLine := by
    rw [← Paired.length r, sizeLine_eq]
    omega
  refine wpAny_call (PySem.HandSPX.call_kw F.excBase_ValueError (fun Y => PySem.HandSPX.refsVE_contains Y bm hbm) (I.kIn _ _ hC) (PySem.W.looks_findIn I.kIn iC) (fun self => PySem.W.bind_fn I.kIn self tI) hus
    (codeAny_mono (F1.run _ X.stack _ _ ⟨Value.ref (hp.objs.size + 1) :: us, ks.zip ws⟩ (g (Value.ref (hp.objs.size + 1) :: us) ws) _ _ (fun _ _ _ => False) (hr.make C us (ks.zip ws)) (I2.env0.make C us (ks.zip ws)) (hb.to _ (Value.ref (hp.objs.size + 1) :: us) ws I2.kIn e1 e2) r2 hq) fun r s' hq' => ?_))
  cases r with
  | error er => exact hx pins σ _ _ er s' I2 hq'
  | ok fl =>
    cases fl with
    | ret u =>
      obtain ⟨v, H', I3, rv, ev, q3⟩ := I2.after hq'
      subst ev
      exact ⟨rv, ⟨V.ref (hp.objs.size + 1), H', I3, rfl, q3⟩⟩
    | next => exact False.elim hq'
    | brk => exact False.elim hq'
    | cont => exact False.elim hq'
/-- C(e, ..) -/
theorem pe_mkE (T : OexC X.K C) (kC : PySem.W.keepIn X.K (.ref C) = true) (iC : PySem.W.findIn X.K (.ref C) "__init__" = some (some (.ref fI))) (tI : PySem.W.typeIn X.K (.ref fI) = some (.type "function")) (F1 : FnOk X.prog X.w X.K X.mg X.base CX k fI fd ps sp) (hr : Room (k + 1) X.A) (hg : Gl X x) (hm : X.mg x = some (.ref C))
    (hb : KBn X.K fd ps (n + 1) [] g gV) (hx : Passes CX X (fun _ _ _ => False)) (ha : PA X (e :: es) ta)
    (hdb : (x == ("__debug__" : Str)) = false := by decide) (he : starEach (e :: es) X.env = (false, eval e X.env) :: starEach es X.env := by rfl) (hpl : (backTo pos (starEach es X.env)).any (·.1) = false := by rfl) :
    PE X (.Call (.Name x p) (e :: es) [] pos) (tMkE C n 0 sp gV ta (fun _ H Q => Q [] H)) := by
  refine ⟨fun pins s σ H Q I h => ?_⟩
  refine wpAny_Call_Name_kw (ld_glob I hg hm ?_ hdb)
  refine PySem.W.callWith_K (h₀ := X.base) I.ok.mod.kin kC (thn (ha.run pos pins s σ H _ I h) fun us s1 ⟨vs, H1, I1, r1, l1, _, hn0, q1⟩ => ⟨I1.kIn, ?_⟩) he hpl
  exact run_mkE (ks := []) (ws := []) (zs := []) T iC tI F1 hr hb hx I1 r1 .nil l1 rfl hn0 q1
/-- C(k = v, ..) -/
theorem pe_mkEK (T : OexC X.K C) (kC : PySem.W.keepIn X.K (.ref C) = true) (iC : PySem.W.findIn X.K (.ref C) "__init__" = some (some (.ref fI))) (tI : PySem.W.typeIn X.K (.ref fI) = some (.type "function")) (F1 : FnOk X.prog X.w X.K X.mg X.base CX k fI fd ps sp) (hr : Room (k + 1) X.A) (hg : Gl X x) (hm : X.mg x = some (.ref C))
    (hb : KBn X.K fd ps 1 ks g gV) (hx : Passes CX X (fun _ _ _ => False))
    (hkw : PK X kws tk) (hall : (backToKw pos (keywordEach kws X.env)).all (·.1.isSome) = true := by rfl) (hks : (backToKw pos (keywordEach kws X.env)).filterMap (·.1) = ks := by rfl)
    (hdb : (x == ("__debug__" : Str)) = false := by decide) (hpl : ((backTo pos (starEach [] X.env)).any (·.1) || (backToKw pos (keywordEach kws X.env)).any (·.1.isNone)) = false := by rfl) :
    PE X (.Call (.Name x p) [] kws pos) (tMkE C 0 ks.length sp gV (fun _ H Q => Q [] H) tk) := by
  refine ⟨fun pins s σ H Q I h => ?_⟩
  refine wpAny_Call_Name_kw (ld_glob I hg hm ?_ hdb)
  refine PySem.W.callWith_KW0 (h₀ := X.base) I.ok.mod.kin kC hall (thn (hkw.run pos pins s σ H _ I h) fun ws s2 ⟨zs, H2, I2, rz, _, l2, hn0, q2⟩ => ⟨I2.kIn, ?_⟩) hpl
  rw [hks]
  exact run_mkE (us := []) (vs := []) T iC tI F1 hr hb hx I2 .nil rz rfl l2 hn0 q2
end
end SupX

namespace SupX
open PySem PySem.Spec PyProof.Rows L2 LamX NdefX ClX
/-! super().__init__(text) in an own exception over ValueError -/
/-- what the written part says of the class, of its __init__ at f and of the cell that has the class -/
structure SupC (P : Program) (K : PySem.W.Frag) (C f cc : Addr) (F : NF) : Prop where
  oex : OexC K C
  sup : PySem.W.ks_superIn K C C "__init__" = some (some (.builtin "ValueError.__init__"))
  mro : PySem.W.mroIn K C (.ref C) = some true
  subB : PySem.W.subIn K (.ref C) (.type "ValueError") = some true
  any : PySem.W.nsIn K PySem.cStatics "thirdparty.any" = some none
  cell : ∃ oc od osl, K.lookup cc = some (⟨oc, od, .cell (some (.ref C)), osl⟩ : Obj)
  fn : ∃ oc od doc pm ctv osl, K.lookup f = some (⟨oc, od, .func (F.fd doc pm ctv), osl⟩ : Obj)
  code : ∃ ccl cdd vs ccs file tf, K.lookup F.c = some (⟨ccl, cdd, .fields vs, ccs⟩ : Obj) ∧ vs[2]? = some (.str file tf) ∧ ((P.main.file : Str) == file) = true
  rec_ : PySem.W.codeIn K (.ref F.c) F.qual = true
  top : (P.main.scope.names.lookup ("super" : Str)).isSome = false
section
variable {X : Cx} {pins : List (Addr × Obj)} {σ : L2.St} {H : Hp} {s : Shared} {a C f cc : Addr} {F : NF} {E : Value → Shared → Prop} {body : List Stmt} {p0 p1 p2 p3 p4 : Pos} {ar : Arg} {r : List Arg}
theorem sup_base {whole : Sem Value} {Q : Value → Shared → Prop} (I : Inv X pins σ H s) (S : SupC X.prog X.K C f cc F) (e : H a = some (exo a C none)) (hfu : X.env.func = some f) (hco : X.env.code = .ref F.c)
    (hks : X.env.kindOf "super" = some .globalImplicit) (hkc : X.env.kindOf "__class__" = some .free) (hcl : X.env.cells.lookup ("__class__" : Str) = some cc) (hp : F.params.posonlyargs ++ F.params.args = ar :: r) (hks1 : X.env.kindOf ar.arg = some .local)
    (hN : X.N[0]? = some ar.arg) (hσ : σ[0]? = some (some (.ref a))) (hm : X.mg "super" = none) (h : ∀ s' so, Inv X ((so, PySem.W.ks_superObj C a C) :: pins) σ H s' → Q (.ref so) s') :
    _root_.PySem.wpAt (model X.prog X.w) X.A (.func body X.env) (attributeBase (.Call (.Name "super" p0) [] [] p1) "__init__" X.env whole) Q E s := by
  obtain ⟨hh, g, d, t, os⟩ := s
  have X0 := I.kIn
  obtain ⟨oc, od, doc, pm, ctv, osl, lf⟩ := S.fn
  obtain ⟨ccl, cdd, vs, ccs, file, tf, lc, hvs, hfile⟩ := S.code
  obtain ⟨oc2, od2, osl2, lcell⟩ := S.cell
  obtain ⟨nm, q, N, bs, bm, sn, sub, ab, col, dd, k0, k1, k2, k3, k5, hC, hbm⟩ := S.oex.cls
  obtain ⟨t1, ho⟩ := exo_at I.hok e
  obtain ⟨mb, h1, h2⟩ := I.mod.blt
  obtain ⟨m, hns, hl⟩ := I.loc
  obtain ⟨u, ru, hlk⟩ := hl 0 ar.arg (.ref a) hN hσ (.inl hks1)
  obtain rfl : u = Value.ref a := ru
  have hv : m ar.arg = some (.ref a) := by
    rcases hlk with ⟨_, h⟩ | ⟨h | h, _⟩
    · exact h
    · rw [hks1] at h; cases h
    · rw [hks1] at h; cases h
  refine PySem.ks_wpAt_super_base (env := X.env) hks hkc (by decide) hfu (X0 _ _ lf) rfl (show (F.params.posonlyargs ++ F.params.args).head? = some ar by rw [hp]; rfl) hco (X0 _ _ lc) rfl hvs hfile S.top ?_
  refine PySem.W.ks_loadName_global I.ok.kind hks (PySem.Calls.loadGlobal_builtin (by rw [I.ok.glob]; exact I.mod.glob.keeps I.bk) hm (by rw [I.ok.blt]; exact h1.keeps I.bk) ((h2 _ (by decide)).trans (show bootBuiltins "super" = some (.type "super") by decide +kernel)) ⟨rfl, ?_⟩)
  refine wpAny_loadName_free I.ok.kind hkc hcl ⟨_, X0 _ _ lcell, rfl⟩ ?_
  refine wpAny_loadName_local I.ok.kind hks1 hns hv ?_
  refine PySem.ks_wpAny_isType_cls (X0 _ _ hC) rfl ⟨rfl, ?_⟩
  refine PySem.ks_wpAny_call_super (X0 _ _ hC) rfl ho rfl (fun c z => by cases z) (PySem.W.looks_mroIn X0 S.mro) (fun h' e' k => ?_)
  exact h _ _ (pin_new I k (Nat.le_refl _) e' (fun v z => by cases z))
theorem sup_meth {so : Addr} {pl : Sem Bool} {Q : Value × List Value → Shared → Prop} (I : Inv X ((so, PySem.W.ks_superObj C a C) :: pins) σ H s) (S : SupC X.prog X.K C f cc F) (e : H a = some (exo a C none))
    (h : ∀ s' u, Inv X ((u, PySem.W.kxs_mw "ValueError.__init__" a) :: pins) σ H s' → Q (.ref u, []) s') : wpAny (model X.prog X.w) X.A (getMethod (.ref so) "__init__" pl) Q E s := by
  have X0 := I.kIn
  have hso := pin_at I
  obtain ⟨t1, ho⟩ := exo_at I.hok e
  obtain ⟨hh, g, d, t, os⟩ := s
  have J : PySem.W.InstAt hh a ({ cls := .ref C, dict := none, data := .fields #[.ref t1, .none, .none, .none, .bool false, .none] } : Obj) C none := ⟨ho, rfl, rfl, trivial⟩
  cases hc : PySem.W.clsIn X.K C with
  | none =>
    have z := S.sup
    unfold PySem.W.ks_superIn at z
    rw [hc] at z
    cases z
  | some cd =>
    have z := S.sup
    unfold PySem.W.ks_superIn at z
    rw [hc] at z
    refine PySem.W.kxs_getMethod PySem.W.kxs_ValueError hso (PySem.W.looks_opaque X0 S.any) (l₀ := cd.mro) (fun A Q E s k q => wpAny_bind ((PySem.W.looks_clsIn X0 hc) A _ E s k (wpAny_pure q))) rfl X0 z (J.type.andThen (PySem.W.looks_subIn X0 S.subB)) (PySem.W.ks_ne X0 J hc) (by decide) ?_
    exact h _ _ (pin_new (unpin I) (fun b o e => Heap.get?_push_of_some _ e) (Nat.le_refl _) (Heap.get?_push_at rfl rfl) (fun v z => by cases z))
theorem sup_call {u : Addr} {us : List Value} {Q : Value → Shared → Prop} (I : Inv X ((u, PySem.W.kxs_mw "ValueError.__init__" a) :: pins) σ H s) (T : OexC X.K C) (e : H a = some (exo a C none)) (hl : us.length ≤ sizeLine)
    (h : ∀ s', Inv X pins σ H s' → Q .none s') : wpAny (model X.prog X.w) X.A (call (.ref u) us) Q E s := by
  obtain ⟨nm, q, N, bs, bm, sn, sub, ab, col, dd, k0, k1, k2, k3, k5, hC, hbm⟩ := T.cls
  have hu := pin_at I
  have I0 := unpin I
  obtain ⟨t1, ho⟩ := exo_at I0.hok e
  have hC' := I0.kIn _ _ hC
  obtain ⟨hh, g, d, t, os⟩ := s
  refine wpAny_call (codeAny_of_tree ?_)
  show wpAny _ X.A.in1 (callAny (.ref u) ⟨us, []⟩) _ _ _
  unfold callAny
  refine wpAny_bind (wpAny_load hu ?_)
  dsimp only
  rw [if_pos (by decide)]
  refine PySem.W.KFB.if_so (by decide) ?_
  refine wpAny_bind (PySem.W.check_bound_init F.excBase_ValueError.toExcCallFacts hC' ho rfl ?_)
  refine wpAny_bind (wpAny_pure (wpAny_pure ?_))
  refine ⟨plainId_quiet F.excBase_ValueError.init.plain _, codeAny_builtin F.excBase_ValueError.initEntry ?_⟩
  refine PySem.W.exc_init_tree (cls := .ref C) (t0 := t1) (dv := none) (c2 := .none) (c3 := .none) (b4 := .bool false) ho hl fun h' k hx _ => ?_
  have J := I0.write (t' := t) (x := a) (e := a) (o := exo a C none) (by rw [e]; exact True.intro) (.inl rfl) k ⟨_, hx⟩ (exo_ok hx)
  have eu : upd H a (exo a C none) = H := funext fun b => by
    unfold upd
    split
    · rename_i hb
      rw [hb, e]
    · rfl
  rw [eu] at J
  exact h _ J
end
end SupX

namespace SupX
open PySem PySem.Spec PyProof.Rows L2 LamX NdefX ClX
section
variable {X : Cx} {pins : List (Addr × Obj)} {σ : L2.St} {H : Hp} {s : Shared} {a C f cc : Addr} {F : NF} {body : List Stmt} {p0 p1 p2 p3 p4 : Pos} {ar : Arg} {r : List Arg} {ex : Expr} {es : List Expr} {ta : TA}
/-- super().__init__(e, ..) as a statement -/
theorem sup_stmt {Q : Flow → Shared → Prop} (I : Inv X pins σ H s) (S : SupC X.prog X.K C f cc F) (e : H a = some (exo a C none)) (hfu : X.env.func = some f) (hco : X.env.code = .ref F.c)
    (hks : X.env.kindOf "super" = some .globalImplicit) (hkc : X.env.kindOf "__class__" = some .free) (hcl : X.env.cells.lookup ("__class__" : Str) = some cc) (hp : F.params.posonlyargs ++ F.params.args = ar :: r) (hks1 : X.env.kindOf ar.arg = some .local)
    (hN : X.N[0]? = some ar.arg) (hσ : σ[0]? = some (some (.ref a))) (hm : X.mg "super" = none) (ha : PA X (ex :: es) ta) (hi : interactive X.env = false)
    {R : List V → Hp → Prop} (h : ta σ H R) (hR : ∀ vs H1, R vs H1 → vs.length ≤ 1000 ∧ H1 a = some (exo a C none) ∧ ∀ s', Inv X pins σ H1 s' → Q .next s')
    (hpl : (backTo p3 (starEach es X.env)).any (·.1) = false := by rfl) (he : starEach (ex :: es) X.env = (false, eval ex X.env) :: starEach es X.env := by rfl)
    (hs : swapsWith (.Call (.Attribute (.Call (.Name "super" p0) [] [] p1) "__init__" p2) (ex :: es) [] p3) none p4.line X.env = pure false := by rfl)
    (hev : eval (.Call (.Attribute (.Call (.Name "super" p0) [] [] p1) "__init__" p2) (ex :: es) [] p3) X.env = (do
      let ov ← attributeBase (.Call (.Name "super" p0) [] [] p1) "__init__" X.env (eval (.Call (.Name "super" p0) [] [] p1) X.env)
      standAt p2.atName
      let (f, first) ← holding [ov] (getMethod ov "__init__" (pure false))
      callWith p3 f first (backTo p3 (starEach (ex :: es) X.env)) []) := by rfl) :
    _root_.PySem.wpAt (model X.prog X.w) X.A (.func body X.env) (exec (.Expr (.Call (.Attribute (.Call (.Name "super" p0) [] [] p1) "__init__" p2) (ex :: es) [] p3) p4) X.env) Q X.xe s := by
  refine PySem.ks_wpAt_Expr_any ?_ hi hs
  refine PySem.ks_wpAt_MethodCall (sup_base I S e hfu hco hks hkc hcl hp hks1 hN hσ hm fun s1 so I1 => sup_meth I1 S e fun s2 u I2 => ?_) hev
  rw [he]
  refine PySem.W.kxs_callWith (i := "ValueError.__init__") (x := a) (by show (false || (backTo p3 (starEach es X.env)).any (·.1)) = false; rw [hpl]; rfl) (PySem.Calls.evalArgs_plain ?_)
  have hrun := ha.run p3 _ _ σ H _ I2 h
  rw [he] at hrun
  refine thn hrun fun us s3 hh => ?_
  obtain ⟨vs, H1, I3, r3, hv⟩ := hh
  obtain ⟨hz, ea, q⟩ := hR _ _ hv
  have hlen : us.length ≤ sizeLine := by
    rw [← Paired.length r3, sizeLine_eq]
    omega
  exact ⟨pin_at I3, sup_call I3 S.oex ea hlen fun s4 I4 => q s4 I4⟩
end
section
variable {CX : CXT} {P : Program} {w : World} {K : PySem.W.Frag} {mg : Str → Option Value} {base : Heap} {N ps : List Str} {F : NF} {f C cc : Addr} {k : Nat} {sp : Sp} {oc doc pm ctv : Value} {od : Option Addr} {osl : Array (Option Value)} {p0 p1 p2 p3 p4 : Pos} {ar : Arg} {r : List Arg} {ex : Expr} {es : List Expr} {rest : List Stmt}
/-- the __init__ of such a class -/
theorem sup_fn (lk : K.lookup f = some (⟨oc, od, .func (F.fd doc pm ctv), osl⟩ : Obj)) (S : SupC P K C f cc F) (NS : NScope N ps ["__class__"] F.scope) (hcl : F.cl = [(("__class__" : Str), cc)])
    (hbd : F.body = .Expr (.Call (.Attribute (.Call (.Name "super" p0) [] [] p1) "__init__" p2) (ex :: es) [] p3) p4 :: rest) (hp : F.params.posonlyargs ++ F.params.args = ar :: r) (hps : ps[0]? = some ar.arg) (hss : F.scope.names.lookup ("super" : Str) = some .globalImplicit)
    (hm : mg "super" = none) (len : ∀ vs H Q E, sp vs H Q E → vs.length = ps.length)
    (hbody : ∀ (A : Around) (outer : List Env) (s : Shared) (H : Hp) (vs : List V) (Q : VK) (E : XK), Room k (A.deeper (envF F f s.heap.objs.size)) → sp vs H Q E →
      ∃ (a : Addr) (vs' : List V) (ta : TA) (t : TS), vs = .ref a :: vs' ∧ H a = some (exo a C none) ∧ PA (ncx CX P w K mg base N F f A outer s H E) (ex :: es) ta ∧ PSs (ncx CX P w K mg base N F f A outer s H E) rest t ∧
        ta (startF N vs [some (.ref C)]) H fun us H1 => us.length ≤ 1000 ∧ H1 a = some (exo a C none) ∧ t { nx := fun _ H' => Q .non H', rt := Q } (startF N vs [some (.ref C)]) H1)
    (hpl : ∀ env, (backTo p3 (starEach es env)).any (·.1) = false := by intro _; rfl) (he : ∀ env, starEach (ex :: es) env = (false, eval ex env) :: starEach es env := by intro _; rfl)
    (hs : ∀ env, swapsWith (.Call (.Attribute (.Call (.Name "super" p0) [] [] p1) "__init__" p2) (ex :: es) [] p3) none p4.line env = pure false := by intro _; rfl)
    (hev : ∀ env, eval (.Call (.Attribute (.Call (.Name "super" p0) [] [] p1) "__init__" p2) (ex :: es) [] p3) env = (do
      let ov ← attributeBase (.Call (.Name "super" p0) [] [] p1) "__init__" env (eval (.Call (.Name "super" p0) [] [] p1) env)
      standAt p2.atName
      let (f, first) ← holding [ov] (getMethod ov "__init__" (pure false))
      callWith p3 f first (backTo p3 (starEach (ex :: es) env)) []) := by intro _; rfl) : FnOk P w K mg base CX (k + 1) f (F.fd doc pm ctv) ps sp := by
  refine ⟨len, fun A outer s H args us vs Q E hr e0 hb rv hsp => ?_⟩
  have hl := len _ _ _ _ hsp
  have KX : K.In s.heap := e0.mod.kin.keeps fun b o e => (e0.bs b o e).1
  have lim : s.heap.NoLimit := e0.mod.nolimit.keeps fun b o e => (e0.bs b o e).1
  obtain ⟨oc2, od2, osl2, lcell⟩ := S.cell
  refine PySem.ks_codeAny_call_defAt hr.depth (KX _ _ lk) rfl lim (PySem.W.codeRec_of KX S.rec_) (body := F.body) rfl hb NS.nocell (fun y hy => NS.par y.1 (List.of_mem_zip hy).1) (fun h1 hns kp => ?_) NS.co NS.gen NS.kind
  show _root_.PySem.wpAt (model P w) (A.deeper (envF F f s.heap.objs.size)) (.func F.body (envF F f s.heap.objs.size)) (execs F.body (envF F f s.heap.objs.size)) _ _ _
  have CA : CellsAt F.cl ["__class__"] [some (.ref C)] s.heap H := by
    have hc : s.heap.IsCell cc (some (.ref C)) := ⟨_, KX _ _ lcell, rfl⟩
    have hcn : H cc = none := by
      obtain ⟨o, ho⟩ : ∃ o, base.get? cc = some o := ⟨_, e0.mod.kin _ _ lcell⟩
      exact (e0.bs cc o ho).2
    refine ⟨rfl, fun y c hy => ?_, fun x y c hx hy => ?_, fun i y hi => ?_⟩
    · rw [hcl] at hy
      unfold List.lookup at hy
      split at hy
      · cases hy; exact ⟨hcn, _, hc⟩
      · cases hy
    · rw [hcl] at hx hy
      have key : ∀ z : Str, List.lookup z [(("__class__" : Str), cc)] = some c → z = "__class__" := fun z hz => by
        unfold List.lookup at hz
        split at hz
        · rename_i hq
          exact eq_of_beq hq
        · cases hz
      rw [key x hx, key y hy]
    · cases i with
      | zero =>
        obtain rfl : ("__class__" : Str) = y := Option.some.inj hi
        refine ⟨cc, by rw [hcl]; simp [List.lookup], fun v hv => ?_⟩
        cases hv
        exact ⟨_, rfl, hc⟩
      | succ i => cases hi
  have I : Inv (ncx CX P w K mg base N F f A outer s H E) [] (startF N vs [some (.ref C)]) H { s with heap := h1, toks := s.toks + (ps.zip us).length } := inv_startN NS hr.hd e0 hl rv CA hns kp
  obtain ⟨a, vs', ta, t, rfl, ea, ha, ht, hq⟩ := hbody A outer s H vs Q E (hr.deeper _) hsp
  have hpl0 : N.take (ps.length + 1) = ps ++ [("__class__" : Str)] := NS.pre
  have hN0 : N[0]? = some ar.arg := by
    have h0 : (N.take (ps.length + 1))[0]? = N[0]? := List.getElem?_take_of_lt (by omega)
    rw [← h0, hpl0]
    cases ps with
    | nil => cases hps
    | cons x y => exact hps
  have hloc : F.scope.names.lookup ar.arg = some .local := NS.par _ (List.mem_of_getElem? hps)
  rw [hbd]
  refine PySem.ks_wpAt_execs_cons ?_
  refine sup_stmt (X := ncx CX P w K mg base N F f A outer s H E) I S ea rfl rfl hss (NS.frk _ List.mem_cons_self) (by show List.lookup ("__class__" : Str) F.cl = some cc; rw [hcl]; simp [List.lookup]) hp hloc hN0 rfl hm ha (by show (F.scope.kind == .module && _) = false; rw [NS.kind]; rfl) hq (fun us H1 hr1 => ⟨hr1.1, hr1.2.1, fun s' J => ?_⟩) (hpl _) (he _) (hs _) (hev _)
  refine wpAt_of_wpAny (wpAny_mono (ht.run [] s' _ H1 _ J hr1.2.2) (fun fl s'' hs' => ?_) fun e s'' hs' => hs')
  match fl, hs' with
  | .ret _, ⟨v, _, H2, J2, rv2, q⟩ => exact ⟨v, H2, J2.os, J2.bare, J2.base, J2.hok, rv2, q⟩
  | .next, ⟨_, H2, J2, q⟩ => exact ⟨.non, H2, J2.os, J2.bare, J2.base, J2.hok, rfl, q⟩
  | .brk, ⟨_, _, _, z⟩ => exact z.elim
  | .cont, ⟨_, _, _, z⟩ => exact z.elim
end
end SupX

namespace SupX
open PySem PySem.Spec PyProof.Rows L2 LamX NdefX ClX
/-! ### what the written part says of a class whose __init__ says super().__init__, by a truth -/
def oexcB (K : PySem.W.Frag) (C : Addr) : Bool := (match K.lookup C with
  | some ⟨.type t, _, .cls cd, sl⟩ => decide (t = "type") && (match cd.mro, sl.toList with
    | .ref C' :: bm, [_, _, _, _, some (.builtin n), _] => decide (C' = C) && (decide (n = "ValueError.__new__") && (!cd.hasDel && (cd.hasDict && PySem.HandSPX.refsVE bm)))
    | _, _ => false)
  | _ => false) && (decide (PySem.W.findIn K (.ref C) "__setattr__" = some (some (.builtin "object.__setattr__"))) && (decide (PySem.W.subIn K (.ref C) (.type "BaseException") = some true) && (decide (PySem.W.typeIn K (.ref C) = some (.type "type")) && PySem.W.keepIn K (.ref C))))
theorem oexcB_ok {K : PySem.W.Frag} {C : Addr} (h : oexcB K C = true) : OexC K C := by
  unfold oexcB at h
  obtain ⟨h1, h⟩ := He.ba h
  obtain ⟨h2, h⟩ := He.ba h
  obtain ⟨h3, h⟩ := He.ba h
  obtain ⟨h4, h5⟩ := He.ba h
  refine ⟨?_, of_decide_eq_true h2, of_decide_eq_true h3, of_decide_eq_true h4, h5⟩
  split at h1
  · rename_i t dd cd sl ho
    obtain ⟨ht, h1⟩ := He.ba h1
    split at h1
    · rename_i C' bm k0 k1 k2 k3 n k5 hm hs
      obtain ⟨e1, h1⟩ := He.ba h1
      obtain ⟨e2, h1⟩ := He.ba h1
      obtain ⟨e3, h1⟩ := He.ba h1
      obtain ⟨e4, e5⟩ := He.ba h1
      have e1 := of_decide_eq_true e1
      have e2 := of_decide_eq_true e2
      have ht := of_decide_eq_true ht
      obtain ⟨nm, bs, mro, ns, qn, hd, sn, sub, ab, col, dl⟩ := cd
      obtain ⟨l⟩ := sl
      have hm : mro = .ref C' :: bm := hm
      have hs : l = [k0, k1, k2, k3, some (.builtin n), k5] := hs
      have e6 : dl = false := by
        have e7 : (!dl) = true := e3
        simpa using e7
      have e8 : hd = true := e4
      clear e3 e4
      subst e1 e2 ht hm hs e6 e8
      exact ⟨nm, qn, ns, bs, bm, sn, sub, ab, col, dd, k0, k1, k2, k3, k5, ho, e5⟩
    · cases h1
  · cases h1
abbrev FnS : Type := Option (Str × Str × Arguments × FuncBody × Scope × Addr × List Str × Addr)
/-- a function with cells: their names -/
def fnS (K : PySem.W.Frag) (f : Addr) : FnS := match K.lookup f with
  | some ⟨_, _, .func fd, _⟩ => some (fd.name, fd.qualname, fd.params, fd.body, fd.scope, fd.globals, fd.closure.map (·.1), fd.builtins)
  | _ => none
/-- its one cell, its code -/
def clA (K : PySem.W.Frag) (f : Addr) : Addr := match K.lookup f with
  | some ⟨_, _, .func fd, _⟩ => (match fd.closure with
    | (_, c) :: _ => c
    | _ => 0)
  | _ => 0
def cdA (K : PySem.W.Frag) (f : Addr) : Addr := match K.lookup f with
  | some ⟨_, _, .func fd, _⟩ => (match fd.code with
    | .ref c => c
    | _ => 0)
  | _ => 0
def fnB (K : PySem.W.Frag) (f : Addr) : Bool := match K.lookup f with
  | some ⟨_, _, .func fd, _⟩ => (match fd.defaults, fd.kwdefaults, fd.annotations, fd.code with
    | .none, .none, none, .ref _ => true
    | _, _, _, _ => false)
  | _ => false
def cellB (K : PySem.W.Frag) (cc C : Addr) : Bool := match K.lookup cc with
  | some ⟨_, _, .cell (some v), _⟩ => decide (v = .ref C)
  | _ => false
def fileB (P : Program) (K : PySem.W.Frag) (c : Addr) : Bool := match K.lookup c with
  | some ⟨_, _, .fields vs, _⟩ => (match (vs[2]? : Option Value) with
    | some (.str file _) => (P.main.file : Str) == file
    | _ => false)
  | _ => false
def supB (P : Program) (K : PySem.W.Frag) (x qual fld : Str) : Bool :=
  oexcB K (He.ga K x) && (decide (PySem.W.ks_superIn K (He.ga K x) (He.ga K x) "__init__" = some (some (.builtin "ValueError.__init__"))) && (decide (PySem.W.mroIn K (He.ga K x) (.ref (He.ga K x)) = some true) && (decide (PySem.W.subIn K (.ref (He.ga K x)) (.type "ValueError") = some true) &&
  (decide (PySem.W.nsIn K PySem.cStatics "thirdparty.any" = some none) && (cellB K (clA K (He.fAd K (x, some "__init__"))) (He.ga K x) && (fnB K (He.fAd K (x, some "__init__")) && (fileB P K (cdA K (He.fAd K (x, some "__init__"))) && (PySem.W.codeIn K (.ref (cdA K (He.fAd K (x, some "__init__")))) qual &&
  (decide (PySem.W.findIn K (.ref (He.ga K x)) "__init__" = some (some (.ref (He.fAd K (x, some "__init__"))))) && (decide (PySem.W.typeIn K (.ref (He.fAd K (x, some "__init__"))) = some (.type "function")) && decide (PySem.W.findIn K (.ref (He.ga K x)) fld = some none)))))))))))
theorem supB_ok {P : Program} {K : PySem.W.Frag} {x qual fld nm : Str} {st : Stmt} (h : supB P K x qual fld = true) (e : fnS K (He.fAd K (x, some "__init__")) = some (nm, qual, defArgs st, FuncBody.stmts (defBody st), defScope st, mainGlobals, [("__class__" : Str)], builtinsNs)) (top : (P.main.scope.names.lookup ("super" : Str)).isSome = false) :
    SupC P K (He.ga K x) (He.fAd K (x, some "__init__")) (clA K (He.fAd K (x, some "__init__"))) ⟨nm, qual, defArgs st, defBody st, defScope st, [(("__class__" : Str), clA K (He.fAd K (x, some "__init__")))], cdA K (He.fAd K (x, some "__init__"))⟩ ∧
    PySem.W.findIn K (.ref (He.ga K x)) "__init__" = some (some (.ref (He.fAd K (x, some "__init__")))) ∧ PySem.W.typeIn K (.ref (He.fAd K (x, some "__init__"))) = some (.type "function") ∧ PySem.W.findIn K (.ref (He.ga K x)) fld = some none := by
  unfold supB at h
  generalize hf : He.fAd K (x, some "__init__") = f at h e ⊢
  generalize He.ga K x = C at h ⊢
  obtain ⟨h1, h⟩ := He.ba h
  obtain ⟨h2, h⟩ := He.ba h
  obtain ⟨h3, h⟩ := He.ba h
  obtain ⟨h4, h⟩ := He.ba h
  obtain ⟨h5, h⟩ := He.ba h
  obtain ⟨h6, h⟩ := He.ba h
  obtain ⟨h7, h⟩ := He.ba h
  obtain ⟨h8, h⟩ := He.ba h
  obtain ⟨h9, h⟩ := He.ba h
  obtain ⟨h10, h⟩ := He.ba h
  obtain ⟨h11, h12⟩ := He.ba h
  refine ⟨⟨oexcB_ok h1, of_decide_eq_true h2, of_decide_eq_true h3, of_decide_eq_true h4, of_decide_eq_true h5, ?_, ?_, ?_, h9, top⟩, of_decide_eq_true h10, of_decide_eq_true h11, of_decide_eq_true h12⟩
  · unfold cellB at h6
    split at h6
    · rename_i oc od v osl ho
      have h6 := of_decide_eq_true h6
      subst h6
      exact ⟨_, _, _, ho⟩
    · cases h6
  · unfold fnS at e
    unfold fnB at h7
    unfold clA cdA
    split at e
    · rename_i oc od fd osl ho
      rw [ho] at h7 ⊢
      obtain ⟨n1, n2, n3, n4, n5, n6, n7, n8, n9, n10, n11, n12, n13, n14, n15⟩ := fd
      have e2 : (some (n1, n2, n3, n4, n5, n6, n7.map (·.1), n15) : FnS) = some (nm, qual, defArgs st, FuncBody.stmts (defBody st), defScope st, mainGlobals, [("__class__" : Str)], builtinsNs) := e
      simp only [Option.some.injEq, Prod.mk.injEq] at e2
      obtain ⟨a1, a2, a3, a4, a5, a6, a7, a8⟩ := e2
      subst a1 a2 a3 a4 a5 a6 a8
      obtain ⟨c, rfl⟩ : ∃ c, n7 = [(("__class__" : Str), c)] := by
        match n7, a7 with
        | [(y, c)], a7 =>
          have : y = "__class__" := by simpa using a7
          exact ⟨c, by rw [this]⟩
      dsimp only at h7 ⊢
      split at h7
      · rename_i q1 q2 q3 q4
        exact ⟨oc, od, n10, n11, n14, osl, rfl⟩
      · cases h7
    · cases e
  · unfold fileB at h8
    split at h8
    · rename_i oc od vs osl ho
      split at h8
      · rename_i file tk hv
        exact ⟨_, _, _, _, _, _, ho, hv, h8⟩
      · cases h8
    · cases h8
end SupX

namespace Deed
open PySem PySem.Spec PyProof.Rows L2 LamX SupX
/-! ### the classes of the refusals by numbers -/
def ks : List Str := (["Missing", "Named", "NoAct", "NoAge", "NoCopy", "NoDay", "NoDeed", "NoDraft", "NoEntry", "NoFolk"] : List Str) ++ (["NoForms", "NoName", "NoRow", "NoSize", "NoText", "NoWords", "NothingDone", "TooMany", "Twice"] : List Str)
def cA (K : PySem.W.Frag) (i : Nat) : Addr := He.ga K (ks.getD i "")
def exccB (K : PySem.W.Frag) (D : Addr) : Bool := decide (PySem.W.findIn K (.ref D) "__getattribute__" = some (some (.builtin "BaseException.__getattribute__"))) && (decide (PySem.W.findIn K (.ref D) "__getattr__" = some none) && (decide (PySem.W.subIn K (.ref D) (.type "BaseException") = some true) && (PySem.W.hasDictIn K D &&
  (decide (PySem.W.findIn K (.ref D) "__class__" = some (some (.builtin "object.__class__"))) && (decide (PySem.W.specialIn K (.builtin "object.__class__") "__get__" = some (some (.builtin "getset_descriptor.__get__"))) && (decide (PySem.W.takesIn K (.builtin "object.__class__") = some true) && decide (PySem.W.mroIn K D (.type "object") = some true)))))))
theorem exccB_ok {K : PySem.W.Frag} {D : Addr} (h : exccB K D = true) : ExcC K D := by
  obtain ⟨h1, h⟩ := He.ba h
  obtain ⟨h2, h⟩ := He.ba h
  obtain ⟨h3, h⟩ := He.ba h
  obtain ⟨h4, h⟩ := He.ba h
  obtain ⟨h5, h⟩ := He.ba h
  obtain ⟨h6, h⟩ := He.ba h
  obtain ⟨h7, h8⟩ := He.ba h
  exact ⟨of_decide_eq_true h1, of_decide_eq_true h2, of_decide_eq_true h3, h4, of_decide_eq_true h5, of_decide_eq_true h6, of_decide_eq_true h7, of_decide_eq_true h8⟩
def kindsB (K : PySem.W.Frag) : Bool := (List.range 19).all fun i => exccB K (cA K i) && (decide (PySem.W.kitOne K (.ref (cA K i)) (.ref (He.ga K "SheafError")) = some true) && (decide (PySem.W.kitOne K (.ref (cA K i)) (.type "ValueError") = some true) &&
  (List.range 19).all fun j => decide (PySem.W.kitOne K (.ref (cA K i)) (.ref (cA K j)) = some (decide (i = j)))))
structure Kinds (K : PySem.W.Frag) (mg : Str → Option Value) : Prop where
  g : ∀ i, i < 19 → mg (ks.getD i "") = some (.ref (cA K i))
  gs : mg "SheafError" = some (.ref (He.ga K "SheafError"))
  c : ∀ i, i < 19 → ExcC K (cA K i)
  s : ∀ i, i < 19 → PySem.W.kitOne K (.ref (cA K i)) (.ref (He.ga K "SheafError")) = some true
  v : ∀ i, i < 19 → PySem.W.kitOne K (.ref (cA K i)) (.type "ValueError") = some true
  k : ∀ i j, i < 19 → j < 19 → PySem.W.kitOne K (.ref (cA K i)) (.ref (cA K j)) = some (decide (i = j))
theorem Kinds.of {K : PySem.W.Frag} {mg : Str → Option Value} (h : kindsB K = true) (g : ∀ i, i < 19 → mg (ks.getD i "") = some (.ref (cA K i))) (gs : mg "SheafError" = some (.ref (He.ga K "SheafError"))) : Kinds K mg := by
  have h1 := fun i (hi : i < 19) => He.ba (List.all_eq_true.mp h i (List.mem_range.mpr hi))
  have h2 := fun i hi => He.ba (h1 i hi).2
  have h3 := fun i hi => He.ba (h2 i hi).2
  exact ⟨g, gs, fun i hi => exccB_ok (h1 i hi).1, fun i hi => of_decide_eq_true (h2 i hi).1, fun i hi => of_decide_eq_true (h3 i hi).1, fun i j hi hj => of_decide_eq_true (List.all_eq_true.mp (h3 i hi).2 j (List.mem_range.mpr hj))⟩
/-- what isinstance tells of one of the i-th class, class by class -/
def kindB (i : Nat) : List Bool := [decide (i = 0), decide (i = 1), decide (i = 2), decide (i = 3), decide (i = 4), decide (i = 5), decide (i = 6), decide (i = 7), decide (i = 8), decide (i = 9), decide (i = 10), decide (i = 11), decide (i = 12), decide (i = 13), decide (i = 14), decide (i = 15), decide (i = 16), decide (i = 17), decide (i = 18)]
section
variable {P : Program} {w : World} {K : PySem.W.Frag} {mg : Str → Option Value} {base : Heap}
abbrev sLOne : Stmt := topS 31
abbrev nLOne : List Str := ["_law_one", "_law_found"]
abbrev pLOne : List Str := ["_law_one"]
theorem scLOne : FnScope nLOne pLOne (defScope sLOne) := ⟨rfl, rfl, rfl, by decide +kernel, rfl, by decide +kernel, by decide +kernel⟩
def spLOne (K : PySem.W.Frag) : Sp := fun vs H Q _ => ∃ (a : Addr) (i : Nat), vs = [.ref a] ∧ i < 19 ∧ ExV K H a (cA K i) ∧ ∀ p H', Same H H' → H p = none → H' p = some (.lst ((kindB i).map V.bl)) → Q (.ref p) H'
theorem ok_LOne {f : Addr} {fd : FuncData} {k : Nat} (F : Fun K "_law_of_one" "_law_of_one" sLOne f fd) (KD : Kinds K mg) (m_isi : mg "isinstance" = none) : FnOk P w K mg base CX0 (k + 1) f fd pLOne (spLOne K) := by
  refine F.ok scLOne (fun vs H Q E h => ?_) (fun cdv A outer s H vs Q E hr h => ?_)
  · obtain ⟨a, i, rfl, _⟩ := h
    rfl
  · obtain ⟨a, i, rfl, hi, hx, q⟩ := h
    have nd := scLOne.nd
    refine ⟨_, pss_cons (ps_set (i := 1) nd rfl (.inl rfl) (pe_lst (pa_cons (pe_callB call_isX (by rfl) m_isi (by decide +kernel) (pa_cons (pv 0) (pa_cons (pe_glob (v := .ref (cA K 0)) (by rfl) (KD.g 0 (by decide)) rfl) pa_nil))) (pa_cons (pe_callB call_isX (by rfl) m_isi (by decide +kernel) (pa_cons (pv 0) (pa_cons (pe_glob (v := .ref (cA K 1)) (by rfl) (KD.g 1 (by decide)) rfl) pa_nil))) (pa_cons (pe_callB call_isX (by rfl) m_isi (by decide +kernel) (pa_cons (pv 0) (pa_cons (pe_glob (v := .ref (cA K 2)) (by rfl) (KD.g 2 (by decide)) rfl) pa_nil))) (pa_cons (pe_callB call_isX (by rfl) m_isi (by decide +kernel) (pa_cons (pv 0) (pa_cons (pe_glob (v := .ref (cA K 3)) (by rfl) (KD.g 3 (by decide)) rfl) pa_nil))) pa_nil))))))
      (pss_cons (ps_set (i := 1) nd rfl (.inl rfl) (pe_op op_cat (pv 1) (pe_lst (pa_cons (pe_callB call_isX (by rfl) m_isi (by decide +kernel) (pa_cons (pv 0) (pa_cons (pe_glob (v := .ref (cA K 4)) (by rfl) (KD.g 4 (by decide)) rfl) pa_nil))) (pa_cons (pe_callB call_isX (by rfl) m_isi (by decide +kernel) (pa_cons (pv 0) (pa_cons (pe_glob (v := .ref (cA K 5)) (by rfl) (KD.g 5 (by decide)) rfl) pa_nil))) (pa_cons (pe_callB call_isX (by rfl) m_isi (by decide +kernel) (pa_cons (pv 0) (pa_cons (pe_glob (v := .ref (cA K 6)) (by rfl) (KD.g 6 (by decide)) rfl) pa_nil))) (pa_cons (pe_callB call_isX (by rfl) m_isi (by decide +kernel) (pa_cons (pv 0) (pa_cons (pe_glob (v := .ref (cA K 7)) (by rfl) (KD.g 7 (by decide)) rfl) pa_nil))) pa_nil)))))))
      (pss_cons (ps_set (i := 1) nd rfl (.inl rfl) (pe_op op_cat (pv 1) (pe_lst (pa_cons (pe_callB call_isX (by rfl) m_isi (by decide +kernel) (pa_cons (pv 0) (pa_cons (pe_glob (v := .ref (cA K 8)) (by rfl) (KD.g 8 (by decide)) rfl) pa_nil))) (pa_cons (pe_callB call_isX (by rfl) m_isi (by decide +kernel) (pa_cons (pv 0) (pa_cons (pe_glob (v := .ref (cA K 9)) (by rfl) (KD.g 9 (by decide)) rfl) pa_nil))) (pa_cons (pe_callB call_isX (by rfl) m_isi (by decide +kernel) (pa_cons (pv 0) (pa_cons (pe_glob (v := .ref (cA K 10)) (by rfl) (KD.g 10 (by decide)) rfl) pa_nil))) pa_nil))))))
      (pss_cons (ps_expr (pe_bm PySem.F.plainAttrs_list PySem.F.slot_list_append PySem.F.type_list_append mt_append (pv 1) (pa_cons (pe_callB call_isX (by rfl) m_isi (by decide +kernel) (pa_cons (pv 0) (pa_cons (pe_glob (v := .ref (cA K 11)) (by rfl) (KD.g 11 (by decide)) rfl) pa_nil))) pa_nil)))
      (pss_cons (ps_set (i := 1) nd rfl (.inl rfl) (pe_op op_cat (pv 1) (pe_lst (pa_cons (pe_callB call_isX (by rfl) m_isi (by decide +kernel) (pa_cons (pv 0) (pa_cons (pe_glob (v := .ref (cA K 12)) (by rfl) (KD.g 12 (by decide)) rfl) pa_nil))) (pa_cons (pe_callB call_isX (by rfl) m_isi (by decide +kernel) (pa_cons (pv 0) (pa_cons (pe_glob (v := .ref (cA K 13)) (by rfl) (KD.g 13 (by decide)) rfl) pa_nil))) (pa_cons (pe_callB call_isX (by rfl) m_isi (by decide +kernel) (pa_cons (pv 0) (pa_cons (pe_glob (v := .ref (cA K 14)) (by rfl) (KD.g 14 (by decide)) rfl) pa_nil))) (pa_cons (pe_callB call_isX (by rfl) m_isi (by decide +kernel) (pa_cons (pv 0) (pa_cons (pe_glob (v := .ref (cA K 15)) (by rfl) (KD.g 15 (by decide)) rfl) pa_nil))) pa_nil)))))))
      (pss_one (ps_ret (pe_op op_cat (pv 1) (pe_lst (pa_cons (pe_callB call_isX (by rfl) m_isi (by decide +kernel) (pa_cons (pv 0) (pa_cons (pe_glob (v := .ref (cA K 16)) (by rfl) (KD.g 16 (by decide)) rfl) pa_nil))) (pa_cons (pe_callB call_isX (by rfl) m_isi (by decide +kernel) (pa_cons (pv 0) (pa_cons (pe_glob (v := .ref (cA K 17)) (by rfl) (KD.g 17 (by decide)) rfl) pa_nil))) (pa_cons (pe_callB call_isX (by rfl) m_isi (by decide +kernel) (pa_cons (pv 0) (pa_cons (pe_glob (v := .ref (cA K 18)) (by rfl) (KD.g 18 (by decide)) rfl) pa_nil))) pa_nil))))))))))), ?_⟩
    refine ⟨_, rfl, a, _, _, _, _, rfl, hx, .own _, KD.k i 0 hi (by decide), ?_⟩
    refine ⟨_, rfl, a, _, _, _, _, rfl, hx, .own _, KD.k i 1 hi (by decide), ?_⟩
    refine ⟨_, rfl, a, _, _, _, _, rfl, hx, .own _, KD.k i 2 hi (by decide), ?_⟩
    refine ⟨_, rfl, a, _, _, _, _, rfl, hx, .own _, KD.k i 3 hi (by decide), ?_⟩
    refine ⟨(by show 4 ≤ sizeLine; decide), fun l1 n1 => ?_⟩
    have e1 : (upd H l1 (.lst [V.bl (decide (i = 0)), V.bl (decide (i = 1)), V.bl (decide (i = 2)), V.bl (decide (i = 3))])) l1 = some (.lst [V.bl (decide (i = 0)), V.bl (decide (i = 1)), V.bl (decide (i = 2)), V.bl (decide (i = 3))]) := upd_same
    have s1 : Same H (upd H l1 (.lst [V.bl (decide (i = 0)), V.bl (decide (i = 1)), V.bl (decide (i = 2)), V.bl (decide (i = 3))])) := same_new n1 _
    generalize upd H l1 (.lst [V.bl (decide (i = 0)), V.bl (decide (i = 1)), V.bl (decide (i = 2)), V.bl (decide (i = 3))]) = H1 at e1 s1 ⊢
    have t1 : Same H H1 := s1
    refine ⟨_, rfl, ?_⟩
    refine ⟨_, rfl, a, _, _, _, _, rfl, (hx.same t1), .own _, KD.k i 4 hi (by decide), ?_⟩
    refine ⟨_, rfl, a, _, _, _, _, rfl, (hx.same t1), .own _, KD.k i 5 hi (by decide), ?_⟩
    refine ⟨_, rfl, a, _, _, _, _, rfl, (hx.same t1), .own _, KD.k i 6 hi (by decide), ?_⟩
    refine ⟨_, rfl, a, _, _, _, _, rfl, (hx.same t1), .own _, KD.k i 7 hi (by decide), ?_⟩
    refine ⟨(by show 4 ≤ sizeLine; decide), fun l2 n2 => ?_⟩
    have e2 : (upd H1 l2 (.lst [V.bl (decide (i = 4)), V.bl (decide (i = 5)), V.bl (decide (i = 6)), V.bl (decide (i = 7))])) l2 = some (.lst [V.bl (decide (i = 4)), V.bl (decide (i = 5)), V.bl (decide (i = 6)), V.bl (decide (i = 7))]) := upd_same
    have s2 : Same H1 (upd H1 l2 (.lst [V.bl (decide (i = 4)), V.bl (decide (i = 5)), V.bl (decide (i = 6)), V.bl (decide (i = 7))])) := same_new n2 _
    generalize upd H1 l2 (.lst [V.bl (decide (i = 4)), V.bl (decide (i = 5)), V.bl (decide (i = 6)), V.bl (decide (i = 7))]) = H2 at e2 s2 ⊢
    refine ⟨l1, l2, _, _, rfl, rfl, s2 _ _ e1, e2, (by show 8 ≤ sizeLine; decide), fun l3 n3 => ?_⟩
    have e3 : (upd H2 l3 (.lst ([V.bl (decide (i = 0)), V.bl (decide (i = 1)), V.bl (decide (i = 2)), V.bl (decide (i = 3))] ++ [V.bl (decide (i = 4)), V.bl (decide (i = 5)), V.bl (decide (i = 6)), V.bl (decide (i = 7))]))) l3 = some (.lst [V.bl (decide (i = 0)), V.bl (decide (i = 1)), V.bl (decide (i = 2)), V.bl (decide (i = 3)), V.bl (decide (i = 4)), V.bl (decide (i = 5)), V.bl (decide (i = 6)), V.bl (decide (i = 7))]) := upd_same
    have s3 : Same H2 (upd H2 l3 (.lst ([V.bl (decide (i = 0)), V.bl (decide (i = 1)), V.bl (decide (i = 2)), V.bl (decide (i = 3))] ++ [V.bl (decide (i = 4)), V.bl (decide (i = 5)), V.bl (decide (i = 6)), V.bl (decide (i = 7))]))) := same_new n3 _
    generalize upd H2 l3 (.lst ([V.bl (decide (i = 0)), V.bl (decide (i = 1)), V.bl (decide (i = 2)), V.bl (decide (i = 3))] ++ [V.bl (decide (i = 4)), V.bl (decide (i = 5)), V.bl (decide (i = 6)), V.bl (decide (i = 7))])) = H3 at e3 s3 ⊢
    have t3 : Same H H3 := t1.trans (s2.trans s3)
    refine ⟨_, rfl, ?_⟩
    refine ⟨_, rfl, a, _, _, _, _, rfl, (hx.same t3), .own _, KD.k i 8 hi (by decide), ?_⟩
    refine ⟨_, rfl, a, _, _, _, _, rfl, (hx.same t3), .own _, KD.k i 9 hi (by decide), ?_⟩
    refine ⟨_, rfl, a, _, _, _, _, rfl, (hx.same t3), .own _, KD.k i 10 hi (by decide), ?_⟩
    refine ⟨(by show 3 ≤ sizeLine; decide), fun l4 n4 => ?_⟩
    have e4 : (upd H3 l4 (.lst [V.bl (decide (i = 8)), V.bl (decide (i = 9)), V.bl (decide (i = 10))])) l4 = some (.lst [V.bl (decide (i = 8)), V.bl (decide (i = 9)), V.bl (decide (i = 10))]) := upd_same
    have s4 : Same H3 (upd H3 l4 (.lst [V.bl (decide (i = 8)), V.bl (decide (i = 9)), V.bl (decide (i = 10))])) := same_new n4 _
    generalize upd H3 l4 (.lst [V.bl (decide (i = 8)), V.bl (decide (i = 9)), V.bl (decide (i = 10))]) = H4 at e4 s4 ⊢
    refine ⟨l3, l4, _, _, rfl, rfl, s4 _ _ e3, e4, (by show 11 ≤ sizeLine; decide), fun l5 n5 => ?_⟩
    have e5 : (upd H4 l5 (.lst ([V.bl (decide (i = 0)), V.bl (decide (i = 1)), V.bl (decide (i = 2)), V.bl (decide (i = 3)), V.bl (decide (i = 4)), V.bl (decide (i = 5)), V.bl (decide (i = 6)), V.bl (decide (i = 7))] ++ [V.bl (decide (i = 8)), V.bl (decide (i = 9)), V.bl (decide (i = 10))]))) l5 = some (.lst [V.bl (decide (i = 0)), V.bl (decide (i = 1)), V.bl (decide (i = 2)), V.bl (decide (i = 3)), V.bl (decide (i = 4)), V.bl (decide (i = 5)), V.bl (decide (i = 6)), V.bl (decide (i = 7)), V.bl (decide (i = 8)), V.bl (decide (i = 9)), V.bl (decide (i = 10))]) := upd_same
    have s5 : Same H4 (upd H4 l5 (.lst ([V.bl (decide (i = 0)), V.bl (decide (i = 1)), V.bl (decide (i = 2)), V.bl (decide (i = 3)), V.bl (decide (i = 4)), V.bl (decide (i = 5)), V.bl (decide (i = 6)), V.bl (decide (i = 7))] ++ [V.bl (decide (i = 8)), V.bl (decide (i = 9)), V.bl (decide (i = 10))]))) := same_new n5 _
    generalize upd H4 l5 (.lst ([V.bl (decide (i = 0)), V.bl (decide (i = 1)), V.bl (decide (i = 2)), V.bl (decide (i = 3)), V.bl (decide (i = 4)), V.bl (decide (i = 5)), V.bl (decide (i = 6)), V.bl (decide (i = 7))] ++ [V.bl (decide (i = 8)), V.bl (decide (i = 9)), V.bl (decide (i = 10))])) = H5 at e5 s5 ⊢
    have t5 : Same H H5 := t3.trans (s4.trans s5)
    have m5 : H l5 = none := none_back (t3.trans s4) n5
    refine ⟨_, rfl, .inl ⟨rfl, _, SqL.of e5⟩, ?_⟩
    refine ⟨_, rfl, a, _, _, _, _, rfl, (hx.same t5), .own _, KD.k i 11 hi (by decide), ?_⟩
    refine ⟨l5, _, _, rfl, rfl, e5, (by show 11 < sizeLine; decide), ?_⟩
    have e6 : (upd H5 l5 (.lst ([V.bl (decide (i = 0)), V.bl (decide (i = 1)), V.bl (decide (i = 2)), V.bl (decide (i = 3)), V.bl (decide (i = 4)), V.bl (decide (i = 5)), V.bl (decide (i = 6)), V.bl (decide (i = 7)), V.bl (decide (i = 8)), V.bl (decide (i = 9)), V.bl (decide (i = 10))] ++ [V.bl (decide (i = 11))]))) l5 = some (.lst [V.bl (decide (i = 0)), V.bl (decide (i = 1)), V.bl (decide (i = 2)), V.bl (decide (i = 3)), V.bl (decide (i = 4)), V.bl (decide (i = 5)), V.bl (decide (i = 6)), V.bl (decide (i = 7)), V.bl (decide (i = 8)), V.bl (decide (i = 9)), V.bl (decide (i = 10)), V.bl (decide (i = 11))]) := upd_same
    have t6 : Same H (upd H5 l5 (.lst ([V.bl (decide (i = 0)), V.bl (decide (i = 1)), V.bl (decide (i = 2)), V.bl (decide (i = 3)), V.bl (decide (i = 4)), V.bl (decide (i = 5)), V.bl (decide (i = 6)), V.bl (decide (i = 7)), V.bl (decide (i = 8)), V.bl (decide (i = 9)), V.bl (decide (i = 10))] ++ [V.bl (decide (i = 11))]))) := same_put m5 t5 _
    generalize upd H5 l5 (.lst ([V.bl (decide (i = 0)), V.bl (decide (i = 1)), V.bl (decide (i = 2)), V.bl (decide (i = 3)), V.bl (decide (i = 4)), V.bl (decide (i = 5)), V.bl (decide (i = 6)), V.bl (decide (i = 7)), V.bl (decide (i = 8)), V.bl (decide (i = 9)), V.bl (decide (i = 10))] ++ [V.bl (decide (i = 11))])) = H6 at e6 t6 ⊢
    have s6 := t6
    refine ⟨_, rfl, ?_⟩
    refine ⟨_, rfl, a, _, _, _, _, rfl, (hx.same t6), .own _, KD.k i 12 hi (by decide), ?_⟩
    refine ⟨_, rfl, a, _, _, _, _, rfl, (hx.same t6), .own _, KD.k i 13 hi (by decide), ?_⟩
    refine ⟨_, rfl, a, _, _, _, _, rfl, (hx.same t6), .own _, KD.k i 14 hi (by decide), ?_⟩
    refine ⟨_, rfl, a, _, _, _, _, rfl, (hx.same t6), .own _, KD.k i 15 hi (by decide), ?_⟩
    refine ⟨(by show 4 ≤ sizeLine; decide), fun l7 n7 => ?_⟩
    have e7 : (upd H6 l7 (.lst [V.bl (decide (i = 12)), V.bl (decide (i = 13)), V.bl (decide (i = 14)), V.bl (decide (i = 15))])) l7 = some (.lst [V.bl (decide (i = 12)), V.bl (decide (i = 13)), V.bl (decide (i = 14)), V.bl (decide (i = 15))]) := upd_same
    have s7 : Same H6 (upd H6 l7 (.lst [V.bl (decide (i = 12)), V.bl (decide (i = 13)), V.bl (decide (i = 14)), V.bl (decide (i = 15))])) := same_new n7 _
    generalize upd H6 l7 (.lst [V.bl (decide (i = 12)), V.bl (decide (i = 13)), V.bl (decide (i = 14)), V.bl (decide (i = 15))]) = H7 at e7 s7 ⊢
    refine ⟨l5, l7, _, _, rfl, rfl, s7 _ _ e6, e7, (by show 16 ≤ sizeLine; decide), fun l8 n8 => ?_⟩
    have e8 : (upd H7 l8 (.lst ([V.bl (decide (i = 0)), V.bl (decide (i = 1)), V.bl (decide (i = 2)), V.bl (decide (i = 3)), V.bl (decide (i = 4)), V.bl (decide (i = 5)), V.bl (decide (i = 6)), V.bl (decide (i = 7)), V.bl (decide (i = 8)), V.bl (decide (i = 9)), V.bl (decide (i = 10)), V.bl (decide (i = 11))] ++ [V.bl (decide (i = 12)), V.bl (decide (i = 13)), V.bl (decide (i = 14)), V.bl (decide (i = 15))]))) l8 = some (.lst [V.bl (decide (i = 0)), V.bl (decide (i = 1)), V.bl (decide (i = 2)), V.bl (decide (i = 3)), V.bl (decide (i = 4)), V.bl (decide (i = 5)), V.bl (decide (i = 6)), V.bl (decide (i = 7)), V.bl (decide (i = 8)), V.bl (decide (i = 9)), V.bl (decide (i = 10)), V.bl (decide (i = 11)), V.bl (decide (i = 12)), V.bl (decide (i = 13)), V.bl (decide (i = 14)), V.bl (decide (i = 15))]) := upd_same
    have s8 : Same H7 (upd H7 l8 (.lst ([V.bl (decide (i = 0)), V.bl (decide (i = 1)), V.bl (decide (i = 2)), V.bl (decide (i = 3)), V.bl (decide (i = 4)), V.bl (decide (i = 5)), V.bl (decide (i = 6)), V.bl (decide (i = 7)), V.bl (decide (i = 8)), V.bl (decide (i = 9)), V.bl (decide (i = 10)), V.bl (decide (i = 11))] ++ [V.bl (decide (i = 12)), V.bl (decide (i = 13)), V.bl (decide (i = 14)), V.bl (decide (i = 15))]))) := same_new n8 _
    generalize upd H7 l8 (.lst ([V.bl (decide (i = 0)), V.bl (decide (i = 1)), V.bl (decide (i = 2)), V.bl (decide (i = 3)), V.bl (decide (i = 4)), V.bl (decide (i = 5)), V.bl (decide (i = 6)), V.bl (decide (i = 7)), V.bl (decide (i = 8)), V.bl (decide (i = 9)), V.bl (decide (i = 10)), V.bl (decide (i = 11))] ++ [V.bl (decide (i = 12)), V.bl (decide (i = 13)), V.bl (decide (i = 14)), V.bl (decide (i = 15))])) = H8 at e8 s8 ⊢
    have t8 : Same H H8 := t6.trans (s7.trans s8)
    refine ⟨_, rfl, ?_⟩
    refine ⟨_, rfl, a, _, _, _, _, rfl, (hx.same t8), .own _, KD.k i 16 hi (by decide), ?_⟩
    refine ⟨_, rfl, a, _, _, _, _, rfl, (hx.same t8), .own _, KD.k i 17 hi (by decide), ?_⟩
    refine ⟨_, rfl, a, _, _, _, _, rfl, (hx.same t8), .own _, KD.k i 18 hi (by decide), ?_⟩
    refine ⟨(by show 3 ≤ sizeLine; decide), fun l9 n9 => ?_⟩
    have e9 : (upd H8 l9 (.lst [V.bl (decide (i = 16)), V.bl (decide (i = 17)), V.bl (decide (i = 18))])) l9 = some (.lst [V.bl (decide (i = 16)), V.bl (decide (i = 17)), V.bl (decide (i = 18))]) := upd_same
    have s9 : Same H8 (upd H8 l9 (.lst [V.bl (decide (i = 16)), V.bl (decide (i = 17)), V.bl (decide (i = 18))])) := same_new n9 _
    generalize upd H8 l9 (.lst [V.bl (decide (i = 16)), V.bl (decide (i = 17)), V.bl (decide (i = 18))]) = H9 at e9 s9 ⊢
    refine ⟨l8, l9, _, _, rfl, rfl, s9 _ _ e8, e9, (by show 19 ≤ sizeLine; decide), fun l10 n10 => ?_⟩
    have t9 : Same H H9 := t8.trans s9
    exact q l10 _ (t9.trans (same_new n10 _)) (none_back t9 n10) upd_same
end
end Deed

namespace Deed
open PySem PySem.Spec PyProof.Rows L2 LamX SupX
def spFld (fld : Str) (C : Addr) : Sp := fun vs H Q _ => ∃ (a : Addr) (i : Int), vs = [.ref a, .int i] ∧ H a = some (exo a C none) ∧ ∀ d, H d = none → d ≠ a → Q .non (upd (upd H d (exd d [(fld, .int i)])) a (exo a C (some d)))
end Deed

namespace Deed
open PySem PySem.Spec PyProof.Rows L2 LamX NdefX SupX
/-! ### X("..") and X(n), X(f = n) as values -/
def tXN (K : PySem.W.Frag) (C : Addr) : TE := fun _ H Q => ∀ a H', Same H H' → H a = none → ExV K H' a C → Q (.ref a) H'
theorem pe_exn {X : Cx} {K : PySem.W.Frag} {C : Addr} {x : Str} {e : Expr} {z : Str} {p pos : Pos} (hK : X.K = K) (q : PySem.W.excIn K C [.type "ValueError", .type "Exception", .type "BaseException", .type "object"] "ValueError.__new__" = true) (gC : X.mg x = some (.ref C)) (kC : PySem.W.keepIn K (.ref C) = true) (ec : ExcC K C) (hg : Gl X x)
    (he : PE X e (tC (.str z))) (hs : starEach [e] X.env = (false, eval e X.env) :: starEach [] X.env := by rfl) (hdb : (x == ("__debug__" : Str)) = false := by decide) : PE X (.Call (.Name x p) [e] [] pos) (tXN K C) := by
  subst hK
  exact ⟨fun pins s σ H Q I h => (pe_exc1 PySem.F.excBase_ValueError q gC kC hg he hs hdb).run pins s σ H Q I (fun a na => h a _ (same_new na _) na ⟨ec, .inl upd_same⟩)⟩
/-- all that is asked of an own class of refusals whose __init__ keeps a number -/
structure MkV (P : Program) (w : World) (K : PySem.W.Frag) (mg : Str → Option Value) (base : Heap) (j : Nat) (x fld : Str) (n : Nat) (kw : List Str) (C : Addr) where
  fI : Addr
  fd : FuncData
  oex : OexC K C
  ec : ExcC K C
  kC : PySem.W.keepIn K (.ref C) = true
  g : mg x = some (.ref C)
  iC : PySem.W.findIn K (.ref C) "__init__" = some (some (.ref fI))
  tI : PySem.W.typeIn K (.ref fI) = some (.type "function")
  b : KBn K fd ["self", fld] n kw (fun us ws => us ++ ws) (fun vs zs => vs ++ zs)
  ok : FnOk P w K mg base CX0 j fI fd ["self", fld] (spFld fld C)
section
variable {P : Program} {w : World} {K : PySem.W.Frag} {mg : Str → Option Value} {base : Heap} {j : Nat} {x fld : Str} {C : Addr}
theorem made_same {H : Hp} {a d : Addr} {fs : List (Str × V)} (na : H a = none) (nd : (upd H a (exo a C none)) d = none) : Same H (upd (upd (upd H a (exo a C none)) d (exd d fs)) a (exo a C (some d))) := fun b o e => by
  have h1 : b ≠ a := ne_of_none e na
  have h2 : b ≠ d := fun z => by rw [z] at e; rw [upd_ne (by rw [← z]; exact h1), e] at nd; cases nd
  rw [upd_ne h1, upd_ne h2, upd_ne h1]
  exact e
theorem fld_made (ec : ExcC K C) {H : Hp} {i : Int} {a : Addr} {Q : VK} {E : XK} (na : H a = none) (h : ∀ d H', Same H H' → ExV K H' a C → H' a = some (exo a C (some d)) → H' d = some (exd d [(fld, .int i)]) → Q .non H') : spFld fld C [.ref a, .int i] (upd H a (exo a C none)) Q E := by
  refine ⟨a, i, rfl, upd_same, fun d nd ne => ?_⟩
  have e1 : (upd (upd (upd H a (exo a C none)) d (exd d [(fld, .int i)])) a (exo a C (some d))) a = some (exo a C (some d)) := upd_same
  have e2 : (upd (upd (upd H a (exo a C none)) d (exd d [(fld, .int i)])) a (exo a C (some d))) d = some (exd d [(fld, .int i)]) := by rw [upd_ne ne, upd_same]
  exact h d _ (made_same na nd) ⟨ec, .inr ⟨d, _, e1, e2⟩⟩ e1 e2
end
abbrev sTwI : Stmt := inClass (topS 25) 0
theorem nsTw : NScope ["self", "at", "__class__"] ["self", "at"] ["__class__"] (defScope sTwI) := nscope_by (by decide +kernel)
abbrev fTw (cc c : Addr) : NF := ⟨"__init__", "Twice.__init__", defArgs sTwI, defBody sTwI, defScope sTwI, [(("__class__" : Str), cc)], c⟩
abbrev sNmI : Stmt := inClass (topS 26) 0
theorem nsNm : NScope ["self", "by", "__class__"] ["self", "by"] ["__class__"] (defScope sNmI) := nscope_by (by decide +kernel)
abbrev fNm (cc c : Addr) : NF := ⟨"__init__", "Named.__init__", defArgs sNmI, defBody sNmI, defScope sNmI, [(("__class__" : Str), cc)], c⟩
theorem twv_fn {P : Program} {w : World} {K : PySem.W.Frag} {mg : Str → Option Value} {base : Heap} {C f cc c : Addr} {k : Nat} (S : SupC P K C f cc (fTw cc c)) (hs : mg "super" = none) (na : PySem.W.findIn K (.ref C) "at" = some none) :
    ∃ fd, KBn K fd ["self", "at"] 2 [] (fun us ws => us ++ ws) (fun vs zs => vs ++ zs) ∧ FnOk P w K mg base CX0 (k + 1) f fd ["self", "at"] (spFld "at" C) := by
  obtain ⟨oc, od, doc, pm, ctv, osl, lk⟩ := S.fn
  refine ⟨_, ⟨fun s us ws X l1 l2 => .of_eq (match us, ws, l1, l2 with | [_, _], [], _, _ => rfl), fun r1 r2 => r1.append r2⟩, sup_fn lk S nsTw rfl rfl rfl rfl (show (defScope sTwI).names.lookup ("super" : Str) = some .globalImplicit from by decide +kernel) hs (fun vs H Q E h => ?_) (fun A outer s H vs Q E hr h => ?_)⟩
  · obtain ⟨a, i, rfl, _⟩ := h
    rfl
  · obtain ⟨a, i, rfl, ea, q⟩ := h
    refine ⟨a, [.int i], _, _, rfl, ea, pa_cons pe_str pa_nil, pss_one (ps_ost (pv 0) (pv 1)), ?_⟩
    refine ⟨by show 1 ≤ 1000; decide, ea, ?_⟩
    exact ⟨_, rfl, _, rfl, a, C, rfl, S.oex, na, .inl ⟨ea, fun d nd ne => q d nd ne⟩⟩
theorem nmv_fn {P : Program} {w : World} {K : PySem.W.Frag} {mg : Str → Option Value} {base : Heap} {C f cc c : Addr} {k : Nat} (S : SupC P K C f cc (fNm cc c)) (hs : mg "super" = none) (na : PySem.W.findIn K (.ref C) "by" = some none) :
    ∃ fd, KBn K fd ["self", "by"] 1 ["by"] (fun us ws => us ++ ws) (fun vs zs => vs ++ zs) ∧ FnOk P w K mg base CX0 (k + 1) f fd ["self", "by"] (spFld "by" C) := by
  obtain ⟨oc, od, doc, pm, ctv, osl, lk⟩ := S.fn
  refine ⟨_, ⟨fun s us ws X l1 l2 => .of_eq (match us, ws, l1, l2 with | [_], [_], _, _ => rfl), fun r1 r2 => r1.append r2⟩, sup_fn lk S nsNm rfl rfl rfl rfl (show (defScope sNmI).names.lookup ("super" : Str) = some .globalImplicit from by decide +kernel) hs (fun vs H Q E h => ?_) (fun A outer s H vs Q E hr h => ?_)⟩
  · obtain ⟨a, i, rfl, _⟩ := h
    rfl
  · obtain ⟨a, i, rfl, ea, q⟩ := h
    refine ⟨a, [.int i], _, _, rfl, ea, pa_cons pe_str pa_nil, pss_one (ps_ost (pv 0) (pv 1)), ?_⟩
    refine ⟨by show 1 ≤ 1000; decide, ea, ?_⟩
    exact ⟨_, rfl, _, rfl, a, C, rfl, S.oex, na, .inl ⟨ea, fun d nd ne => q d nd ne⟩⟩
end Deed

namespace Deed
open PySem PySem.Spec PyProof.Rows L2 LamX
section
variable {P : Program} {w : World} {K : PySem.W.Frag} {mg : Str → Option Value} {base : Heap} {T : List (Addr × Str)}
/-! ### a book without entries -/
def spEmp (T : List (Addr × Str)) : Sp := fun vs H Q _ => ∃ (b fk t : Addr) (age : Int), vs = [.ref b] ∧ H b = some (.tup [.ref fk, .int age, .ref t]) ∧ H t = some (.tup []) ∧ Tabs T H ∧ ∀ (p : Addr) (H' : Hp), ExtN H H' → Tabs T H' → Fresh H p → H' p = some (.lst []) → Q (.ref p) H'
abbrev sRising : Stmt := topS 3
theorem scRising : FnScope ["book"] ["book"] (defScope sRising) := ⟨rfl, rfl, rfl, by decide +kernel, rfl, by decide +kernel, by decide +kernel⟩
def qRis : Str := "entries_rising.<locals>.<lambda>"
theorem ok_risE {f c tb : Addr} {fd : FuncData} {k : Nat} (F : Fun K "entries_rising" "entries_rising" sRising f fd) (hc : fd.code = .ref c) (TB : TabB base mg c tb) (ms : mg "sorted" = none) (mN : MgInt mg "NUMBER" 0) (hmT : (tb, qRis) ∈ T) (hu : ∀ p ∈ T, p.1 = tb → p.2 = qRis) :
    FnOk P w K mg base CX0 (k + 2) f fd ["book"] (spEmp T) := by
  refine okC F hc scRising (fun vs H Q E h => ?_) (fun A outer s H vs Q E hr h => ?_)
  · obtain ⟨b, fk, t, age, rfl, _⟩ := h
    rfl
  · obtain ⟨b, fk, t, age, rfl, hB, ht, hT, q⟩ := h
    refine ⟨_, pss_one (ps_ret (pe_sortK (T := T) (c := c) (P := tb) (k := k) (by rfl) ms (pa_cons (pe_ix ix_tup (pv 0) pe_int (fun _ _ => rfl)) pa_nil) hr TB rfl hmT hu rfl (by decide +kernel) rfl rfl rfl (by decide +kernel) rfl (fun _ _ _ _ _ _ => rfl) (fun env A E s' Q he hg hn hq => ?ix) (fun _ _ => rfl) (by decide))), ?_⟩
    case ix =>
      obtain ⟨tk, hN⟩ := mN
      refine Calls.Name_function_global (by rw [he]) (by unfold Env.kindOf; rw [he]; rfl) (Calls.loadGlobal_global (by rw [hg]; exact hn) hN (hq tk s'.toks))
    refine ⟨_, rfl, b, _, 2, _, rfl, rfl, SqT.of hB, atI_nat (j := 2) rfl, t, [], (fun _ => 0), rfl, .inr (SqT.of ht), (fun y hy => nomatch hy), hT, fun p ys H2 eN T2 np pm so => ?_⟩
    obtain rfl : ys = [] := List.Perm.eq_nil pm
    exact q p _ (eN.trans (ExtN.new np _)) (Tabs.new T2 np _) (Fresh.of eN np) upd_same
abbrev sDeedE : Stmt := topS 4
theorem scDeedE : FnScope ["book", "entry"] ["book"] (defScope sDeedE) := ⟨rfl, rfl, rfl, by decide +kernel, rfl, by decide +kernel, by decide +kernel⟩
theorem ok_deE {f : Addr} {fd : FuncData} {k : Nat} (F : Fun K "deed_entries" "deed_entries" sDeedE f fd) (C : CallOk P w K mg base (k + 2) "entries_rising" ["book"] (spEmp T)) (mW : MgInt mg "WORD" 4) : FnOk P w K mg base CX0 (k + 3) f fd ["book"] (spEmp T) := by
  refine F.ok scDeedE (fun vs H Q E h => ?_) (fun cdv A outer s H vs Q E hr h => ?_)
  · obtain ⟨b, fk, t, age, rfl, _⟩ := h
    rfl
  · obtain ⟨b, fk, t, age, rfl, hB, ht, hT, q⟩ := h
    refine ⟨_, pss_one (ps_ret (pe_lc (own := [("entry", 1)]) (g := gName 1) (by rfl) scDeedE.nd (pi_list (pe_call C.ok hr (by rfl) C.g C.kp C.b .nil pass0 (pa_cons (pv 0) pa_nil))) (blkOk_by (own := [("entry", 1)]) (N := ["book", "entry"]) (sc := defScope sDeedE) (by decide +kernel)) (fun _ _ _ _ _ => pg_name (i := 1) scDeedE.nd rfl (Or.inl rfl))
      (fun _ _ _ _ _ => pts_one (pt_cmpR op_eq (show PE _ _ (tOp (rIxT K) (tVar 1) (tC (.int 4))) from pe_ix ix_tup (pv 1) (pe_num (by rfl) mW) (fun _ _ => rfl)) pe_str (nomark _))) (fun _ _ _ _ _ => pv 1))), ?_⟩
    refine ⟨_, rfl, b, fk, t, age, rfl, hB, ht, hT, fun p H1 eN T1 fr ep => ?_⟩
    refine ⟨p, rfl, ⟨_, SqL.of ep⟩, fun D nD => ?_⟩
    refine lc_list (K := K) (a := p) (xs := []) (fun i H' => H' D = some (.lst []) ∧ Same H1 H') ⟨upd_same, same_new nD _⟩ (fun i H' _ h => SqL.of (h.2 _ _ ep)) (fun i x H' hx _ => nomatch hx) ?_
    rintro H' ⟨eD, sm⟩
    exact q D H' (eN.trans (.of sm)) (T1.ext sm) (Fresh.of eN nD) eD
abbrev sDeedsOf : Stmt := topS 5
theorem scDeedsOf : FnScope ["book", "entry"] ["book"] (defScope sDeedsOf) := ⟨rfl, rfl, rfl, by decide +kernel, rfl, by decide +kernel, by decide +kernel⟩
theorem ok_doE {f : Addr} {fd : FuncData} {k : Nat} (F : Fun K "deeds_of" "deeds_of" sDeedsOf f fd) (C : CallOk P w K mg base (k + 3) "deed_entries" ["book"] (spEmp T)) (mN : MgInt mg "NUMBER" 0) : FnOk P w K mg base CX0 (k + 4) f fd ["book"] (spEmp T) := by
  refine F.ok scDeedsOf (fun vs H Q E h => ?_) (fun cdv A outer s H vs Q E hr h => ?_)
  · obtain ⟨b, fk, t, age, rfl, _⟩ := h
    rfl
  · obtain ⟨b, fk, t, age, rfl, hB, ht, hT, q⟩ := h
    refine ⟨_, pss_one (ps_ret (pe_lc (own := [("entry", 1)]) (g := gName 1) (by rfl) scDeedsOf.nd (pi_list (pe_call C.ok hr (by rfl) C.g C.kp C.b .nil pass0 (pa_cons (pv 0) pa_nil))) (blkOk_by (own := [("entry", 1)]) (N := ["book", "entry"]) (sc := defScope sDeedsOf) (by decide +kernel)) (fun _ _ _ _ _ => pg_name (i := 1) scDeedsOf.nd rfl (Or.inl rfl))
      (fun _ _ _ _ _ => pts_nil) (fun _ _ _ _ _ => show PE _ _ (tOp (rIxT K) (tVar 1) (tC (.int 0))) from pe_ix ix_tup (pv 1) (pe_num (by rfl) mN) (fun _ _ => rfl)))), ?_⟩
    refine ⟨_, rfl, b, fk, t, age, rfl, hB, ht, hT, fun p H1 eN T1 fr ep => ?_⟩
    refine ⟨p, rfl, ⟨_, SqL.of ep⟩, fun D nD => ?_⟩
    refine lc_list (K := K) (a := p) (xs := []) (fun i H' => H' D = some (.lst []) ∧ Same H1 H') ⟨upd_same, same_new nD _⟩ (fun i H' _ h => SqL.of (h.2 _ _ ep)) (fun i x H' hx _ => nomatch hx) ?_
    rintro H' ⟨eD, sm⟩
    exact q D H' (eN.trans (.of sm)) (T1.ext sm) (Fresh.of eN nD) eD
end
end Deed

namespace Deed
open PySem PySem.Spec PyProof.Rows L2 LamX NdefX SupX
/-! ### the law -/
abbrev sLaw : Stmt := topS 32
abbrev nLaw : List Str := ["_law_script", "_law_row", "_law_k", "_law_number", "_law_twice", "_law_named", "_law_kinds", "_law_one", "_law_kind"]
theorem scLaw : FnScope nLaw ["_law_script"] (defScope sLaw) := ⟨rfl, rfl, rfl, by decide +kernel, rfl, by decide +kernel, by decide +kernel⟩
def ids17 : List Nat := [0, 2, 3, 4, 5, 6, 7, 8, 9, 10, 11, 12, 13, 14, 15, 16, 17]
def ids19 : List Nat := ids17 ++ [18, 1]
abbrev erefs (zs : List (Addr × Nat)) : List V := zs.map fun z => .ref z.1
def RowOk (K : PySem.W.Frag) (H : Hp) (zs : List (Addr × Nat)) : Prop := ∀ z ∈ zs, z.2 < 19 ∧ ExV K H z.1 (cA K z.2)
theorem rk0 {K : PySem.W.Frag} {H : Hp} : RowOk K H [] := fun _ h => nomatch h
theorem rkc {K : PySem.W.Frag} {H : Hp} {a : Addr} {i : Nat} {zs : List (Addr × Nat)} (h : i < 19) (x : ExV K H a (cA K i)) (r : RowOk K H zs) : RowOk K H ((a, i) :: zs) := fun z hz => by
  rcases List.mem_cons.mp hz with h1 | h1
  · rw [h1]
    exact ⟨h, x⟩
  · exact r z h1
theorem RowOk.same {K : PySem.W.Frag} {H H' : Hp} {zs : List (Addr × Nat)} (r : RowOk K H zs) (s : Same H H') : RowOk K H' zs := fun z hz => ⟨(r z hz).1, (r z hz).2.same s⟩
def kindD (i : Nat) : List PyData := (kindB i).map PyData.bool
theorem kind_lay (i : Nat) : SeqAt.shaped (.list (kindD i)) = true := by
  simp [SeqAt.shaped, kindD, kindB, PyData.canLay0, PyData.canLayAll0, PyData.depth, PyData.depthAll]
theorem dp_kind {K : PySem.W.Frag} {H : Hp} : ∀ bs : List Bool, DpAll K H (bs.map V.bl) (bs.map PyData.bool)
  | [] => .nil
  | b :: r => .cons (.bl b) (dp_kind r)
theorem kind_count : ∀ i, i < 19 → (kindD i).countP (fun z => PyData.eqv z (.bool true)) = 1 := by decide +kernel
theorem kind_at0 : ∀ i, i < 19 → (kindB i)[i]? = some true := by decide +kernel
theorem kind_no0 : ∀ i, i < 19 → ∀ m, m < i → (kindB i)[m]? = some false := by decide +kernel
theorem kind_at (i : Nat) (h : i < 19) : (kindD i)[i]? = some (.bool true) := by
  unfold kindD
  rw [List.getElem?_map, kind_at0 i h]
  rfl
theorem kind_no (i : Nat) (h : i < 19) (m : Nat) (hm : m < i) : (kindD i)[m]? = some (.bool false) := by
  unfold kindD
  rw [List.getElem?_map, kind_no0 i h m hm]
  rfl
def r19 : List Int := [0, 1, 2, 3, 4, 5, 6, 7, 8, 9, 10, 11, 12, 13, 14, 15, 16, 17, 18]
theorem sort19 {ns : List Int} (hp : ns.Perm (ids19.map Int.ofNat)) (hs : ns.Pairwise (· ≤ ·)) : ns = r19 := by
  have h1 : (ids19.map Int.ofNat).Perm r19 := by decide +kernel
  have h2 := hp.trans h1
  have nd : ns.Nodup := h2.nodup_iff.mpr (by decide +kernel)
  refine rising_one (hs.imp₂ (fun a b hle hne => by omega) nd) (by decide +kernel) fun x => h2.mem_iff
theorem rg19 : rgV 0 19 = r19.map V.int := by rfl
def E30 (D : Addr) (H : Hp) (y : Addr × Nat) (u : V) : Prop := ∃ q, u = .ref q ∧ q ≠ D ∧ H q = some (.lst ((kindB y.2).map V.bl))
theorem E30.same {D : Addr} {H H' : Hp} {y : Addr × Nat} {u : V} (h : E30 D H y u) (s : Same H H') : E30 D H' y u := by
  obtain ⟨q, h1, h2, h3⟩ := h
  exact ⟨q, h1, h2, s _ _ h3⟩
theorem E30.put {D : Addr} {H : Hp} {o : HO} {y : Addr × Nat} {u : V} (h : E30 D H y u) : E30 D (upd H D o) y u := by
  obtain ⟨q, h1, h2, h3⟩ := h
  exact ⟨q, h1, h2, by rw [upd_ne h2]; exact h3⟩
theorem kk_of {H : Hp} {D : Addr} : ∀ zs : List (V × (Addr × Nat)), (∀ z ∈ zs, ∃ q, z.1 = .ref q ∧ q ≠ D ∧ H q = some (.lst ((kindB z.2.2).map V.bl))) → ∃ kk : List (Addr × Nat), zs.map (·.1) = erefs kk ∧ kk.map (·.2) = (zs.map (·.2)).map (·.2) ∧ ∀ z ∈ kk, H z.1 = some (.lst ((kindB z.2).map V.bl)) := by
  intro zs
  induction zs with
  | nil => exact fun _ => ⟨[], rfl, rfl, fun _ h => nomatch h⟩
  | cons z r ih =>
    intro h
    obtain ⟨ws, a1, a2, a3⟩ := ih fun x hx => h x (List.mem_cons_of_mem _ hx)
    obtain ⟨t, e1, _, e2⟩ := h z List.mem_cons_self
    refine ⟨(t, z.2.2) :: ws, ?_, ?_, fun x hx => ?_⟩
    · show _ = V.ref t :: erefs ws
      rw [List.map_cons, a1, e1]
    · rw [List.map_cons, List.map_cons, List.map_cons, a2]
    · rcases List.mem_cons.mp hx with h | h
      · rw [h]
        exact e2
      · exact a3 x h
structure Exc30 (K : PySem.W.Frag) : Prop where
  q : ∀ i ∈ ids17, PySem.W.excIn K (cA K i) [.type "ValueError", .type "Exception", .type "BaseException", .type "object"] "ValueError.__new__" = true
  kp : ∀ i ∈ ids17, PySem.W.keepIn K (.ref (cA K i)) = true
def spLaw (K : PySem.W.Frag) (T : List (Addr × Str)) : Sp := fun vs H Q _ => ∃ (a : Addr) (ns : List Int), vs = [.ref a] ∧ SqL K H a (ns.map V.int) ∧ ns.length ≤ 63 ∧ Tabs T H ∧ ∀ H', Q (.bl true) H'
section
variable {P : Program} {w : World} {K : PySem.W.Frag} {mg : Str → Option Value} {base : Heap} {T : List (Addr × Str)}
theorem ok_law {f : Addr} {fd : FuncData} {k j : Nat} (F : Fun K "law" "law" sLaw f fd) (KD : Kinds K mg) (EX : Exc30 K) (MT : MkV P w K mg base j "Twice" "at" 2 [] (cA K 18)) (MN : MkV P w K mg base j "Named" "by" 1 ["by"] (cA K 1)) (hj : j + 1 ≤ k) (XT : XfC K (cA K 18)) (XN : XfC K (cA K 1)) (nT : PySem.W.findIn K (.ref (cA K 18)) "at" = some none) (nN : PySem.W.findIn K (.ref (cA K 1)) "by" = some none)
    (C_ce : CallOk P w K mg base k "_law_cell_at" ["_law_script", "_law_k"] (spCell K)) (C_pe : CallOk P w K mg base k "_law_pen" ["_law_cell"] spPen) (C_dr : CallOk P w K mg base k "_law_draw" ["_law_pen_here", "_law_bound"] spDraw) (C_on : CallOk P w K mg base k "_law_of_one" pLOne (spLOne K)) (C_do : CallOk P w K mg base k "deeds_of" ["book"] (spEmp T))
    (m_range : mg "range" = none) (m_max : mg "max" = none) (m_min : mg "min" = none) (m_len : mg "len" = none) (m_isi : mg "isinstance" = none) (m_sorted : mg "sorted" = none) (m_list : mg "list" = none) (m_VE : mg "ValueError" = none) : FnOk P w K mg base CX0 (k + 1) f fd ["_law_script"] (spLaw K T) := by
  refine F.ok scLaw (fun vs H Q E h => ?_) (fun cdv A outer s H vs Q E hr h => ?_)
  · obtain ⟨a, ns, rfl, _⟩ := h
    rfl
  · obtain ⟨a, ns, rfl, hS, h63, hT, q⟩ := h
    have nd := scLaw.nd
    have hu := hu_of hr
    have hr1 := hr.mono hj
    have hu65 := Nat.lt_of_le_of_lt (Nat.add_le_add_left (show 65 ≤ 16 * k + 200 by omega) _) (show _ + (16 * k + 200) < cLine from by have h := hr.un; rw [Nat.add_assoc] at h; exact h)
    refine ⟨_, pss_cons (ps_set (i := 1) nd rfl (.inl rfl) (pe_lst (pa_cons (pe_exn (C := cA K 0) rfl (EX.q 0 (by decide)) (KD.g 0 (by decide)) (EX.kp 0 (by decide)) (KD.c 0 (by decide)) (by rfl) pe_str) (pa_cons (pe_exn (C := cA K 2) rfl (EX.q 2 (by decide)) (KD.g 2 (by decide)) (EX.kp 2 (by decide)) (KD.c 2 (by decide)) (by rfl) pe_str) (pa_cons (pe_exn (C := cA K 3) rfl (EX.q 3 (by decide)) (KD.g 3 (by decide)) (EX.kp 3 (by decide)) (KD.c 3 (by decide)) (by rfl) pe_str) (pa_cons (pe_exn (C := cA K 4) rfl (EX.q 4 (by decide)) (KD.g 4 (by decide)) (EX.kp 4 (by decide)) (KD.c 4 (by decide)) (by rfl) pe_str) (pa_cons (pe_exn (C := cA K 5) rfl (EX.q 5 (by decide)) (KD.g 5 (by decide)) (EX.kp 5 (by decide)) (KD.c 5 (by decide)) (by rfl) pe_str) (pa_cons (pe_exn (C := cA K 6) rfl (EX.q 6 (by decide)) (KD.g 6 (by decide)) (EX.kp 6 (by decide)) (KD.c 6 (by decide)) (by rfl) pe_str) (pa_cons (pe_exn (C := cA K 7) rfl (EX.q 7 (by decide)) (KD.g 7 (by decide)) (EX.kp 7 (by decide)) (KD.c 7 (by decide)) (by rfl) pe_str) (pa_cons (pe_exn (C := cA K 8) rfl (EX.q 8 (by decide)) (KD.g 8 (by decide)) (EX.kp 8 (by decide)) (KD.c 8 (by decide)) (by rfl) pe_str) pa_nil))))))))))
      (pss_cons (ps_set (i := 1) nd rfl (.inl rfl) (pe_op op_cat (pv 1) (pe_lst (pa_cons (pe_exn (C := cA K 9) rfl (EX.q 9 (by decide)) (KD.g 9 (by decide)) (EX.kp 9 (by decide)) (KD.c 9 (by decide)) (by rfl) pe_str) (pa_cons (pe_exn (C := cA K 10) rfl (EX.q 10 (by decide)) (KD.g 10 (by decide)) (EX.kp 10 (by decide)) (KD.c 10 (by decide)) (by rfl) pe_str) (pa_cons (pe_exn (C := cA K 11) rfl (EX.q 11 (by decide)) (KD.g 11 (by decide)) (EX.kp 11 (by decide)) (KD.c 11 (by decide)) (by rfl) pe_str) (pa_cons (pe_exn (C := cA K 12) rfl (EX.q 12 (by decide)) (KD.g 12 (by decide)) (EX.kp 12 (by decide)) (KD.c 12 (by decide)) (by rfl) pe_str) (pa_cons (pe_exn (C := cA K 13) rfl (EX.q 13 (by decide)) (KD.g 13 (by decide)) (EX.kp 13 (by decide)) (KD.c 13 (by decide)) (by rfl) pe_str) (pa_cons (pe_exn (C := cA K 14) rfl (EX.q 14 (by decide)) (KD.g 14 (by decide)) (EX.kp 14 (by decide)) (KD.c 14 (by decide)) (by rfl) pe_str) (pa_cons (pe_exn (C := cA K 15) rfl (EX.q 15 (by decide)) (KD.g 15 (by decide)) (EX.kp 15 (by decide)) (KD.c 15 (by decide)) (by rfl) pe_str) pa_nil))))))))))
      (pss_cons (ps_set (i := 1) nd rfl (.inl rfl) (pe_op op_cat (pv 1) (pe_lst (pa_cons (pe_exn (C := cA K 16) rfl (EX.q 16 (by decide)) (KD.g 16 (by decide)) (EX.kp 16 (by decide)) (KD.c 16 (by decide)) (by rfl) pe_str) (pa_cons (pe_exn (C := cA K 17) rfl (EX.q 17 (by decide)) (KD.g 17 (by decide)) (EX.kp 17 (by decide)) (KD.c 17 (by decide)) (by rfl) pe_str) pa_nil)))))
      (pss_cons (ps_for PassesOwn.never rfl (pi_range1 rfl m_range (pa_cons (pe_callB (call_max2 rfl) (by rfl) m_max (by decide +kernel) (pa_cons pe_int (pa_cons (pe_callB (call_min2 rfl) (by rfl) m_min (by decide +kernel) (pa_cons (pe_callB call_len_seq (by rfl) m_len PySem.boot_len (pa_cons (pv 0) pa_nil)) (pa_cons pe_int pa_nil))) pa_nil))) pa_nil)) (pg_name (i := 2) nd rfl (.inl rfl))
        (pss_cons (ps_set (i := 3) nd rfl (.inl rfl) (pe_call C_dr.ok hr (by rfl) C_dr.g C_dr.kp C_dr.b .nil pass0 (pa_cons (pe_call C_pe.ok hr (by rfl) C_pe.g C_pe.kp C_pe.b .nil pass0 (pa_cons (pe_call C_ce.ok hr (by rfl) C_ce.g C_ce.kp C_ce.b .nil pass0 (pa_cons (pv 0) (pa_cons (pv 2) pa_nil))) pa_nil)) (pa_cons pe_int pa_nil))))
        (pss_cons (ps_par (i := 4) (j := 5) (by rfl) nd rfl rfl (by decide) rfl rfl (pa_cons (pe_mkE (n := 1) MT.oex MT.kC MT.iC MT.tI MT.ok hr1 (by rfl) MT.g MT.b pass0 (pa_cons (pv 3) pa_nil)) (pa_cons (pe_mkEK MN.oex MN.kC MN.iC MN.tI MN.ok hr1 (by rfl) MN.g MN.b pass0 (pk_cons (pv 3) pk_nil)) pa_nil)) (by rfl))
        (pss_cons (ps_setLc (i := 6) (own := [("_law_one", 7)]) (g := gName 7) (by rfl) nd rfl rfl (sw_true rfl rfl rfl (by decide +kernel)) (pi_list (pe_op op_cat (pv 1) (pe_lst (pa_cons (pv 4) (pa_cons (pv 5) pa_nil))))) (blkOk_by (own := [("_law_one", 7)]) (N := nLaw) (sc := defScope sLaw) (by decide +kernel)) (fun _ _ _ _ _ => pg_name (i := 7) nd rfl (Or.inl rfl)) (fun _ _ _ _ _ => pts_nil) (fun _ _ _ _ _ => pe_call C_on.ok hr (by rfl) C_on.g C_on.kp C_on.b .nil pass0 (pa_cons (pv 7) pa_nil)))
        (pss_cons (ps_if (PW.pt (pw_or (pt_cmpR (op_neD hr.units) (pe_lc (own := [("_law_kind", 8)]) (g := gName 8) (by rfl) nd (pi_list (pv 6)) (blkOk_by (own := [("_law_kind", 8)]) (N := nLaw) (sc := defScope sLaw) (by decide +kernel)) (fun _ _ _ _ _ => pg_name (i := 8) nd rfl (Or.inl rfl)) (fun _ _ _ _ _ => pts_one (pt_cmpR op_ne (show PE _ _ (tBM K "list" (rCountD K) (tVar 8) (tCons (tC (.bl true)) tNil)) from pe_bm PySem.F.plainAttrs_list PySem.F.slot_list_count PySem.F.type_list_count (mt_countD hu65) (pv 8) (pa_cons pe_bl pa_nil)) pe_int (nomark _))) (fun _ _ _ _ _ => pv 8)) (pe_lst pa_nil) (nomark _)) (pw_or (pt_cmpR op_ne (pe_xv (pv 4)) (pv 3) (nomark _)) (pw_or1 (pt_cmpR op_ne (pe_xv (pv 5)) (pv 3) (nomark _)))))) (pss_one (ps_ret pe_bl)) pss_nil)
        (pss_cons (ps_if (pt_cmpR (op_neD hr.units) (pe_callB cr_sortedI (by rfl) m_sorted (by decide +kernel) (pa_cons (pe_lc (own := [("_law_kind", 8)]) (g := gName 8) (by rfl) nd (pi_list (pv 6)) (blkOk_by (own := [("_law_kind", 8)]) (N := nLaw) (sc := defScope sLaw) (by decide +kernel)) (fun _ _ _ _ _ => pg_name (i := 8) nd rfl (Or.inl rfl)) (fun _ _ _ _ _ => pts_nil) (fun _ _ _ _ _ => (show PE _ _ (tBM K "list" (rIndexD K) (tVar 8) (tCons (tC (.bl true)) tNil)) from pe_bm PySem.F.plainAttrs_list PySem.F.slot_list_index PySem.F.type_list_index (mt_indexD hu65) (pv 8) (pa_cons pe_bl pa_nil)))) pa_nil)) (pe_listRg (by rfl) (by rfl) m_list (prg_1 (by rfl) m_range pe_int)) (nomark _)) (pss_one (ps_ret pe_bl)) pss_nil)
        (pss_one (ps_for PassesOwn.never rfl (pi_list (pe_op op_cat (pv 1) (pe_lst (pa_cons (pv 4) (pa_cons (pv 5) pa_nil))))) (pg_name (i := 7) nd rfl (.inl rfl))
          (pss_one (ps_if (PW.pt (pw_or (pt_not (pt_val (pe_callB call_isX (by rfl) m_isi (by decide +kernel) (pa_cons (pv 7) (pa_cons (pe_glob (v := .ref (He.ga K "SheafError")) (by rfl) KD.gs rfl) pa_nil))))) (pw_or1 (pt_not (pt_val (pe_callB call_isX (by rfl) m_isi (by decide +kernel) (pa_cons (pv 7) (pa_cons (pe_bltn (v := .ty "ValueError") (by rfl) m_VE (by decide +kernel) rfl) pa_nil)))))))) (pss_one (ps_ret pe_bl)) pss_nil))))))))))
      (pss_one (ps_ret (pe_cmpR (op_eqD hr.units) (pe_call C_do.ok hr (by rfl) C_do.g C_do.kp C_do.b .nil pass0 (pa_cons (pe_tup (pa_cons (pe_tup (pa_cons (pe_tup (pa_cons pe_int (pa_cons pe_non pa_nil))) pa_nil)) (pa_cons pe_int (pa_cons (pe_tup pa_nil) pa_nil)))) pa_nil)) (pe_lst pa_nil) (nomark _))))))), ?_⟩
    refine fun a0 G0 s0 n0 x0 => ?_
    refine fun a2 G2 s2 n2 x2 => ?_
    refine fun a3 G3 s3 n3 x3 => ?_
    refine fun a4 G4 s4 n4 x4 => ?_
    refine fun a5 G5 s5 n5 x5 => ?_
    refine fun a6 G6 s6 n6 x6 => ?_
    refine fun a7 G7 s7 n7 x7 => ?_
    refine fun a8 G8 s8 n8 x8 => ?_
    refine ⟨(by show 8 ≤ sizeLine; decide), fun l1 nl1 => ?_⟩
    have e1 : (upd G8 l1 (.lst [V.ref a0, V.ref a2, V.ref a3, V.ref a4, V.ref a5, V.ref a6, V.ref a7, V.ref a8])) l1 = some (.lst [V.ref a0, V.ref a2, V.ref a3, V.ref a4, V.ref a5, V.ref a6, V.ref a7, V.ref a8]) := upd_same
    have t1 : Same G8 (upd G8 l1 (.lst [V.ref a0, V.ref a2, V.ref a3, V.ref a4, V.ref a5, V.ref a6, V.ref a7, V.ref a8])) := same_new nl1 _
    generalize upd G8 l1 (.lst [V.ref a0, V.ref a2, V.ref a3, V.ref a4, V.ref a5, V.ref a6, V.ref a7, V.ref a8]) = L1 at e1 t1 ⊢
    refine ⟨_, rfl, ?_⟩
    refine fun a9 G9 s9 n9 x9 => ?_
    refine fun a10 G10 s10 n10 x10 => ?_
    refine fun a11 G11 s11 n11 x11 => ?_
    refine fun a12 G12 s12 n12 x12 => ?_
    refine fun a13 G13 s13 n13 x13 => ?_
    refine fun a14 G14 s14 n14 x14 => ?_
    refine fun a15 G15 s15 n15 x15 => ?_
    have u15 : Same L1 G15 := s9.trans (s10.trans (s11.trans (s12.trans (s13.trans (s14.trans s15)))))
    refine ⟨(by show 7 ≤ sizeLine; decide), fun l2 nl2 => ?_⟩
    refine ⟨l1, l2, _, _, rfl, rfl, same_new nl2 _ _ _ (u15 _ _ e1), upd_same, (by show 15 ≤ sizeLine; decide), fun l3 nl3 => ?_⟩
    have e3 : (upd (upd G15 l2 (.lst [V.ref a9, V.ref a10, V.ref a11, V.ref a12, V.ref a13, V.ref a14, V.ref a15])) l3 (.lst ([V.ref a0, V.ref a2, V.ref a3, V.ref a4, V.ref a5, V.ref a6, V.ref a7, V.ref a8] ++ [V.ref a9, V.ref a10, V.ref a11, V.ref a12, V.ref a13, V.ref a14, V.ref a15]))) l3 = some (.lst [V.ref a0, V.ref a2, V.ref a3, V.ref a4, V.ref a5, V.ref a6, V.ref a7, V.ref a8, V.ref a9, V.ref a10, V.ref a11, V.ref a12, V.ref a13, V.ref a14, V.ref a15]) := upd_same
    have t3 : Same G15 (upd (upd G15 l2 (.lst [V.ref a9, V.ref a10, V.ref a11, V.ref a12, V.ref a13, V.ref a14, V.ref a15])) l3 (.lst ([V.ref a0, V.ref a2, V.ref a3, V.ref a4, V.ref a5, V.ref a6, V.ref a7, V.ref a8] ++ [V.ref a9, V.ref a10, V.ref a11, V.ref a12, V.ref a13, V.ref a14, V.ref a15]))) := (same_new nl2 _).trans (same_new nl3 _)
    generalize (upd (upd G15 l2 (.lst [V.ref a9, V.ref a10, V.ref a11, V.ref a12, V.ref a13, V.ref a14, V.ref a15])) l3 (.lst ([V.ref a0, V.ref a2, V.ref a3, V.ref a4, V.ref a5, V.ref a6, V.ref a7, V.ref a8] ++ [V.ref a9, V.ref a10, V.ref a11, V.ref a12, V.ref a13, V.ref a14, V.ref a15]))) = L3 at e3 t3 ⊢
    refine ⟨_, rfl, ?_⟩
    refine fun a16 G16 s16 n16 x16 => ?_
    refine fun a17 G17 s17 n17 x17 => ?_
    have u17 : Same L3 G17 := s16.trans s17
    refine ⟨(by show 2 ≤ sizeLine; decide), fun l4 nl4 => ?_⟩
    refine ⟨l3, l4, _, _, rfl, rfl, same_new nl4 _ _ _ (u17 _ _ e3), upd_same, (by show 17 ≤ sizeLine; decide), fun r nr => ?_⟩
    have eR : (upd (upd G17 l4 (.lst [V.ref a16, V.ref a17])) r (.lst ([V.ref a0, V.ref a2, V.ref a3, V.ref a4, V.ref a5, V.ref a6, V.ref a7, V.ref a8, V.ref a9, V.ref a10, V.ref a11, V.ref a12, V.ref a13, V.ref a14, V.ref a15] ++ [V.ref a16, V.ref a17]))) r = some (.lst [V.ref a0, V.ref a2, V.ref a3, V.ref a4, V.ref a5, V.ref a6, V.ref a7, V.ref a8, V.ref a9, V.ref a10, V.ref a11, V.ref a12, V.ref a13, V.ref a14, V.ref a15, V.ref a16, V.ref a17]) := upd_same
    have t17 : Same G17 (upd (upd G17 l4 (.lst [V.ref a16, V.ref a17])) r (.lst ([V.ref a0, V.ref a2, V.ref a3, V.ref a4, V.ref a5, V.ref a6, V.ref a7, V.ref a8, V.ref a9, V.ref a10, V.ref a11, V.ref a12, V.ref a13, V.ref a14, V.ref a15] ++ [V.ref a16, V.ref a17]))) := (same_new nl4 _).trans (same_new nr _)
    generalize (upd (upd G17 l4 (.lst [V.ref a16, V.ref a17])) r (.lst ([V.ref a0, V.ref a2, V.ref a3, V.ref a4, V.ref a5, V.ref a6, V.ref a7, V.ref a8, V.ref a9, V.ref a10, V.ref a11, V.ref a12, V.ref a13, V.ref a14, V.ref a15] ++ [V.ref a16, V.ref a17]))) = H0 at eR t17 ⊢
    have v17 : Same G17 H0 := t17
    have v16 : Same G16 H0 := s17.trans v17
    have vL3 : Same L3 H0 := s16.trans v16
    have v15 : Same G15 H0 := t3.trans vL3
    have v14 : Same G14 H0 := s15.trans v15
    have v13 : Same G13 H0 := s14.trans v14
    have v12 : Same G12 H0 := s13.trans v13
    have v11 : Same G11 H0 := s12.trans v12
    have v10 : Same G10 H0 := s11.trans v11
    have v9 : Same G9 H0 := s10.trans v10
    have vL1 : Same L1 H0 := s9.trans v9
    have v8 : Same G8 H0 := t1.trans vL1
    have v7 : Same G7 H0 := s8.trans v8
    have v6 : Same G6 H0 := s7.trans v7
    have v5 : Same G5 H0 := s6.trans v6
    have v4 : Same G4 H0 := s5.trans v5
    have v3 : Same G3 H0 := s4.trans v4
    have v2 : Same G2 H0 := s3.trans v3
    have v0 : Same G0 H0 := s2.trans v2
    have v : Same H H0 := s0.trans v0
    obtain ⟨zs, hz, hid, hzx⟩ : ∃ zs : List (Addr × Nat), [V.ref a0, V.ref a2, V.ref a3, V.ref a4, V.ref a5, V.ref a6, V.ref a7, V.ref a8, V.ref a9, V.ref a10, V.ref a11, V.ref a12, V.ref a13, V.ref a14, V.ref a15, V.ref a16, V.ref a17] = erefs zs ∧ zs.map (·.2) = ids17 ∧ RowOk K H0 zs := ⟨[(a0, 0), (a2, 2), (a3, 3), (a4, 4), (a5, 5), (a6, 6), (a7, 7), (a8, 8), (a9, 9), (a10, 10), (a11, 11), (a12, 12), (a13, 13), (a14, 14), (a15, 15), (a16, 16), (a17, 17)], rfl, rfl, rkc (by decide) (x0.same v0) <| rkc (by decide) (x2.same v2) <| rkc (by decide) (x3.same v3) <| rkc (by decide) (x4.same v4) <| rkc (by decide) (x5.same v5) <| rkc (by decide) (x6.same v6) <| rkc (by decide) (x7.same v7) <| rkc (by decide) (x8.same v8) <| rkc (by decide) (x9.same v9) <| rkc (by decide) (x10.same v10) <| rkc (by decide) (x11.same v11) <| rkc (by decide) (x12.same v12) <| rkc (by decide) (x13.same v13) <| rkc (by decide) (x14.same v14) <| rkc (by decide) (x15.same v15) <| rkc (by decide) (x16.same v16) <| rkc (by decide) (x17.same v17) <|  rk0⟩
    rw [hz] at eR
    clear x0 n0 x2 n2 x3 n3 x4 n4 x5 n5 x6 n6 x7 n7 x8 n8 x9 n9 x10 n10 x11 n11 x12 n12 x13 n13 x14 n14 x15 n15 x16 n16 x17 n17 hz
    have hl : (ns.map V.int).length = ns.length := List.length_map _
    refine ⟨_, rfl, a, _, rfl, .inl (ExtN.sqL (.of v) hS), _, _, rfl, _, _, rfl, ?_⟩
    rw [hl]
    obtain ⟨tn, etn, ht0, ht3⟩ : ∃ tn : Int, (if (if 3 < (ns.length : Int) then 3 else (ns.length : Int)) > 1 then (if 3 < (ns.length : Int) then 3 else (ns.length : Int)) else 1) = tn ∧ 0 ≤ tn ∧ tn ≤ 3 := ⟨_, rfl, by split <;> split <;> omega, by split <;> split <;> omega⟩
    rw [etn]
    refine ⟨_, rfl, by omega, by omega, ?_⟩
    refine for_range (lo := 0) (n := tn.toNat) (fun i σ H' => ∃ y, σ = some (.ref a) :: some (.ref r) :: y ∧ y.length = 7 ∧ Same H0 H') ⟨_, rfl, rfl, same_refl _⟩ ?_ ?_
    · rintro i σ H' hi ⟨y, rfl, hyl, sm⟩
      obtain ⟨y1, y2, y3, y4, y5, y6, y7, rfl⟩ : ∃ y1 y2 y3 y4 y5 y6 y7, y = [y1, y2, y3, y4, y5, y6, y7] := by
        match y, hyl with
        | [a, b, c, d, e, f, g], _ => exact ⟨a, b, c, d, e, f, g, rfl⟩
      refine ⟨_, rfl, _, rfl, a, ns, _, rfl, ExtN.sqL (.of (v.trans sm)) hS, by omega, fun cv => ?_⟩
      refine ⟨cv, rfl, fun p H1 s1 np P1 => ?_⟩
      refine ⟨p, 99, rfl, P1, by decide, by decide, fun n H2 k2 P2 n0 n99 => ?_⟩
      have sm2 : Same H0 H2 := fun b o e => k2 b o (ne_of_none (sm _ _ e) np) (s1 _ _ (sm _ _ e))
      -- the two refusals
      refine ⟨_, rfl, rfl, rfl, by decide, fun tw ntw => fld_made (KD.c 18 (by decide)) ntw fun d1 H3 s3 xt e1 e2 => ⟨rfl, ?_⟩⟩
      refine ⟨_, rfl, rfl, rfl, by decide, fun nm nnm => fld_made (KD.c 1 (by decide)) nnm fun d2 H4 s4 xn e3 e4 => ⟨rfl, ?_⟩⟩
      have sm4 : Same H0 H4 := sm2.trans (s3.trans s4)
      refine ⟨_, _, rfl, ?_⟩
      have xt4 := xt.same s4
      have e14 := s4 _ _ e1
      have e24 := s4 _ _ e2
      clear xt e1 e2
      have hzz : RowOk K H4 (zs ++ [(tw, 18), (nm, 1)]) := fun z hz => by
        rcases List.mem_append.mp hz with h | h
        · exact (hzx.same sm4) z h
        · exact (rkc (by decide) xt4 (rkc (by decide) xn rk0)) z h
      have hzl : zs.length = 17 := by
        have h := congrArg List.length hid
        rw [List.length_map] at h
        exact h
      -- the row of all
      refine ⟨_, rfl, _, rfl, _, rfl, (by show 2 ≤ sizeLine; decide), fun l5 nl5 => ?_⟩
      refine ⟨r, l5, _, _, rfl, rfl, same_new nl5 _ _ _ (sm4 _ _ eR), upd_same, (by rw [List.length_map, hzl]; show 17 + 2 ≤ sizeLine; decide), fun l6 nl6 => ?_⟩
      have e6 : (upd (upd H4 l5 (.lst [.ref tw, .ref nm])) l6 (.lst (erefs zs ++ [.ref tw, .ref nm]))) l6 = some (.lst (erefs (zs ++ [(tw, 18), (nm, 1)]))) := by
        rw [upd_same]
        show _ = some (HO.lst (List.map _ (_ ++ _)))
        rw [List.map_append]
        rfl
      have s6 : Same H4 (upd (upd H4 l5 (.lst [.ref tw, .ref nm])) l6 (.lst (erefs zs ++ [.ref tw, .ref nm]))) := (same_new nl5 _).trans (same_new nl6 _)
      generalize upd (upd H4 l5 (.lst [.ref tw, .ref nm])) l6 (.lst (erefs zs ++ [.ref tw, .ref nm])) = H6 at e6 s6 ⊢
      refine ⟨l6, rfl, ⟨_, SqL.of e6⟩, fun D nD => ?_⟩
      refine lc_gen (walk_list (xs := erefs (zs ++ [(tw, 18), (nm, 1)]))) (zs ++ [(tw, 18), (nm, 1)]) (fun _ => true) (fun H => Same H6 H ∧ ∃ xs, H D = some (.lst xs)) Same (E30 D) (by rw [List.length_map]) (by rw [List.length_append, hzl]; show 17 + 2 ≤ 1000; decide) ⟨same_new nD _, _, upd_same⟩ (fun H s => SqL.of (s.1 _ _ e6)) (fun H H' h1 h2 => ⟨⟨h1.1.trans h2, h1.2.imp fun xs e => h2 _ _ e⟩, fun xs e => h2 _ _ e⟩) (fun H xs l h1 _ => ⟨same_put nD h1.1 _, _, upd_same⟩) (fun H H' y u _ h2 e => e.same h2) (fun H xs l y u _ _ e => e.put) ?_ ?_
      · rintro i y x H7 H7' hy ⟨s7, xs7, eD7⟩ ⟨rfl, hx⟩ Q1 Q0 q1 q0
        rw [List.getElem?_map, hy] at hx
        injection hx with hx
        subst hx
        have hyz := hzz y (List.mem_of_getElem? hy)
        refine ⟨rfl, ?_⟩
        refine ⟨_, rfl, y.1, y.2, rfl, hyz.1, hyz.2.same (s6.trans s7), fun q' H8 s8 nq eq => q1 rfl _ H8 s8 ⟨q', rfl, (ne_of_none eD7 nq).symm, eq⟩⟩
      rintro H7 ws ⟨s7, _⟩ eD7 ews hws
      obtain ⟨kk, ek, kid, hkk⟩ := kk_of ws fun z hz => hws z hz
      rw [ek] at eD7
      rw [ews, List.filter_eq_self.mpr fun _ _ => rfl, List.map_append, hid] at kid
      have kid : kk.map (·.2) = ids19 := kid
      clear ek ews hws
      have hkl : kk.length = 19 := by
        have h := congrArg List.length kid
        rw [List.length_map] at h
        exact h
      have hk19 : ∀ z ∈ kk, z.2 < 19 := fun z hz => by
        have h : z.2 ∈ ids19 := kid ▸ List.mem_map.mpr ⟨z, hz, rfl⟩
        exact (show ∀ i ∈ ids19, i < 19 by decide) _ h
      have sm7 : Same H4 H7 := s6.trans s7
      -- each is of one class
      refine ⟨_, rfl, D, rfl, ⟨_, SqL.of eD7⟩, fun D2 nD2 => ?_⟩
      refine lc_sameV (walk_list (xs := erefs kk)) kk (fun _ => false) (fun z => .ref z.1) (by rw [List.length_map]) (by rw [hkl]; decide) nD2 (fun H s => SqL.of (s _ _ eD7)) ?_ ?_
      · rintro i y x H8 H8' hy s8 ⟨rfl, hx⟩ Q1 Q0 q1 q0
        rw [List.getElem?_map, hy] at hx
        injection hx with hx
        subst hx
        have hyk := List.mem_of_getElem? hy
        have ey := s8 _ _ (hkk y hyk)
        refine ⟨rfl, ?_⟩
        refine ⟨_, rfl, .inl ⟨rfl, _, SqL.of ey⟩, y.1, .bl true, .bool true, kindD y.2, rfl, rfl, .lst (SqL.of ey) (dp_kind _), .bl true, kind_lay _, rfl, ?_⟩
        rw [kind_count _ (hk19 y hyk)]
        refine ⟨rfl, _, rfl, ?_⟩
        exact q0 rfl _ (same_refl _)
      intro H8 s8 eD2
      have eD2 : H8 D2 = some (.lst []) := by rw [eD2, List.filter_eq_nil_iff.mpr (fun _ _ => by simp)]; rfl
      refine ⟨Nat.zero_le _, fun l8 nl8 => ?_⟩
      refine ⟨.list [], .list [], .lst (SqL.of (same_new nl8 _ _ _ eD2)) .nil, .lst (SqL.of upd_same) .nil, rfl, rfl, _, rfl, ?_⟩
      refine iteF ?_
      have s48 : Same H4 (upd H8 l8 (.lst [])) := sm7.trans (s8.trans (same_new nl8 _))
      have s78 : Same H7 (upd H8 l8 (.lst [])) := s8.trans (same_new nl8 _)
      generalize upd H8 l8 (.lst []) = H9 at s48 s78 ⊢
      refine ⟨_, rfl, tw, _, d1, _, _, rfl, XT, nT, s48 _ _ e14, s48 _ _ e24, rfl, _, rfl, rfl, _, rfl, ?_⟩
      refine ite2 (fun c => absurd c (by simp)) (fun _ => ?_)
      refine ⟨_, rfl, nm, _, d2, _, _, rfl, XN, nN, s48 _ _ e3, s48 _ _ e4, rfl, _, rfl, rfl, _, rfl, ?_⟩
      refine ite2 (fun c => absurd c (by simp)) (fun _ => ?_)
      -- the classes are all of them
      have eD9 := s78 _ _ eD7
      refine ⟨_, rfl, D, rfl, ⟨_, SqL.of eD9⟩, fun D3 nD3 => ?_⟩
      refine lc_sameM (walk_list (xs := erefs kk)) kk (fun z => .int z.2) (by rw [List.length_map]) (by rw [hkl]; decide) nD3 (fun H s => SqL.of (s _ _ eD9)) ?_ ?_
      · rintro i y x H8 H8' hy s8 ⟨rfl, hx⟩ Q1 q1
        rw [List.getElem?_map, hy] at hx
        injection hx with hx
        subst hx
        have hyk := List.mem_of_getElem? hy
        have ey := s8 _ _ (s78 _ _ (hkk y hyk))
        have h19 := hk19 y hyk
        refine ⟨rfl, ?_⟩
        refine ⟨_, rfl, .inl ⟨rfl, _, SqL.of ey⟩, y.1, .bl true, .bool true, kindD y.2, y.2, .bool true, rfl, rfl, .lst (SqL.of ey) (dp_kind _), .bl true, kind_lay _, rfl, kind_at _ h19, rfl, fun m z' hm hz' => ?_, q1 _ (same_refl _)⟩
        rw [kind_no _ h19 m hm] at hz'
        injection hz' with hz'
        subst hz'
        rfl
      intro H10 s10 eD3
      have eD3 : H10 D3 = some (.lst ((ids19.map Int.ofNat).map V.int)) := by
        rw [eD3, ← kid, List.map_map, List.map_map]
        rfl
      refine ⟨D3, _, rfl, SqL.of eD3, fun ns' p' pm so np' => ?_⟩
      obtain rfl := sort19 pm so
      refine ⟨19, rfl, RgOk.of_le (by decide) (by decide) (by decide) (by decide), fun l9 nl9 => ?_⟩
      refine ⟨.list (r19.map PyData.int), .list (r19.map PyData.int), .lst (SqL.of (same_new nl9 _ _ _ upd_same)) (dp_ints _), .lst (SqL.of (by rw [upd_same, rg19])) (dp_ints _), shaped_ints _, shaped_ints _, _, rfl, ?_⟩
      rw [eqv_ints]
      refine ite2 (fun c => absurd c (by simp)) (fun _ => ?_)
      have sA : Same H4 (upd (upd H10 p' (.lst (r19.map V.int))) l9 (.lst (rgV 0 19))) := s48.trans (s10.trans ((same_new np' _).trans (same_new nl9 _)))
      generalize upd (upd H10 p' (.lst (r19.map V.int))) l9 (.lst (rgV 0 19)) = HA at sA ⊢
      -- each is a refusal
      refine ⟨_, rfl, _, rfl, _, rfl, (by show 2 ≤ sizeLine; decide), fun l5 nl5 => ?_⟩
      refine ⟨r, l5, _, _, rfl, rfl, same_new nl5 _ _ _ (sA _ _ (sm4 _ _ eR)), upd_same, (by rw [List.length_map, hzl]; show 17 + 2 ≤ sizeLine; decide), fun l6 nl6 => ?_⟩
      have e6 : (upd (upd HA l5 (.lst [.ref tw, .ref nm])) l6 (.lst (erefs zs ++ [.ref tw, .ref nm]))) l6 = some (.lst (erefs (zs ++ [(tw, 18), (nm, 1)]))) := by
        rw [upd_same]
        show _ = some (HO.lst (List.map _ (_ ++ _)))
        rw [List.map_append]
        rfl
      have sB : Same H4 (upd (upd HA l5 (.lst [.ref tw, .ref nm])) l6 (.lst (erefs zs ++ [.ref tw, .ref nm]))) := sA.trans ((same_new nl5 _).trans (same_new nl6 _))
      generalize upd (upd HA l5 (.lst [.ref tw, .ref nm])) l6 (.lst (erefs zs ++ [.ref tw, .ref nm])) = HB at e6 sB ⊢
      refine ⟨l6, rfl, ⟨_, SqL.of e6⟩, ?_⟩
      refine for_list (xs := erefs (zs ++ [(tw, 18), (nm, 1)])) (fun i σ H' => ∃ y, σ = some (.ref a) :: some (.ref r) :: y ∧ y.length = 7 ∧ Same HB H') ⟨_, rfl, rfl, same_refl _⟩ (fun i σ H h hp => by obtain ⟨_, _, _, s⟩ := hp; exact SqL.of (s _ _ e6)) ?_ ?_
      · rintro i x σ H' hx ⟨y, rfl, hyl, sC⟩
        obtain ⟨y1, y2, y3, y4, y5, y6, y7, rfl⟩ : ∃ y1 y2 y3 y4 y5 y6 y7, y = [y1, y2, y3, y4, y5, y6, y7] := by
          match y, hyl with
          | [a, b, c, d, e, f, g], _ => exact ⟨a, b, c, d, e, f, g, rfl⟩
        rw [List.getElem?_map] at hx
        cases hz : (zs ++ [(tw, 18), (nm, 1)])[i]? with
        | none => rw [hz] at hx; cases hx
        | some z =>
        rw [hz] at hx
        injection hx with hx
        subst hx
        obtain ⟨z19, zx⟩ := hzz z (List.mem_of_getElem? hz)
        have zx := zx.same (sB.trans sC)
        refine ⟨_, rfl, z.1, _, _, _, _, rfl, zx, .own _, KD.s _ z19, _, rfl, ?_⟩
        refine ite2 (fun c => absurd c (by simp)) (fun _ => ?_)
        refine ⟨_, rfl, z.1, _, _, _, _, rfl, zx, .ty _, KD.v _ z19, _, rfl, ?_⟩
        refine ite2 (fun c => absurd c (by simp)) (fun _ => ?_)
        exact ⟨_, rfl, rfl, sC⟩
      · rintro σ H' ⟨y, rfl, hyl, sC⟩
        exact ⟨_, rfl, hyl, sm4.trans (sB.trans sC)⟩
    · rintro σ H' ⟨y, rfl, hyl, sm⟩
      refine ⟨(by show 2 ≤ sizeLine; decide), fun t1 nt1 => ?_⟩
      refine ⟨(by show 1 ≤ sizeLine; decide), fun t2 nt2 => ?_⟩
      refine ⟨Nat.zero_le _, fun t3 nt3 => ?_⟩
      refine ⟨(by show 3 ≤ sizeLine; decide), fun t4 nt4 => ?_⟩
      refine ⟨t4, t2, t3, 0, rfl, upd_same, same_new nt4 _ _ _ upd_same, (hT.ext v).ext (sm.trans ((same_new nt1 _).trans ((same_new nt2 _).trans ((same_new nt3 _).trans (same_new nt4 _))))), fun p H1 eN T1 fr ep => ?_⟩
      refine ⟨Nat.zero_le _, fun l nl => ?_⟩
      exact ⟨.list [], .list [], .lst (SqL.of (same_new nl _ _ _ ep)) .nil, .lst (SqL.of upd_same) .nil, rfl, rfl, q _⟩
end
end Deed

namespace Deed
open PySem PySem.Spec PyProof.Rows L2 LamX
/-! ### the end: the facts by names -/
def mkD (x : Str) (st : Stmt) : He.DefD := ⟨(x, none), x, x, defArgs st, defBody st, defScope st, [], []⟩
def mkDd (x : Str) (st : Stmt) (dfl : List He.Dv) : He.DefD := ⟨(x, none), x, x, defArgs st, defBody st, defScope st, dfl, []⟩
def fnAll : List He.DefD := [mkD "_law_cell_at" sCell, mkD "_law_pen" sPen, mkD "_law_draw" sDraw, mkD "entries_rising" sRising, mkD "deed_entries" sDeedE, mkD "deeds_of" sDeedsOf, mkD "_law_of_one" sLOne, mkD "law" sLaw]
def faAll : List He.Fa := [.glo "_law_cell_at", .glo "_law_pen", .glo "_law_draw", .glo "entries_rising", .glo "deed_entries", .glo "deeds_of", .glo "_law_of_one", .glo "law", .free "range", .free "min", .free "max", .free "list", .free "len", .free "sorted", .free "int", .free "isinstance", .free "ValueError", .free "super", .int "NUMBER" 0, .int "WORD" 4, .glo "Missing", .glo "Named", .glo "NoAct", .glo "NoAge", .glo "NoCopy", .glo "NoDay", .glo "NoDeed", .glo "NoDraft", .glo "NoEntry", .glo "NoFolk", .glo "NoForms", .glo "NoName", .glo "NoRow", .glo "NoSize", .glo "NoText", .glo "NoWords", .glo "NothingDone", .glo "TooMany", .glo "Twice", .glo "SheafError", .exc "Missing", .exc "NoAct", .exc "NoAge", .exc "NoCopy", .exc "NoDay", .exc "NoDeed", .exc "NoDraft", .exc "NoEntry", .exc "NoFolk", .exc "NoForms", .exc "NoName", .exc "NoRow", .exc "NoSize", .exc "NoText", .exc "NoWords", .exc "NothingDone", .exc "TooMany"]
def tfAll : List He.Defn := [("entries_rising", none)]
abbrev tsAll : List He.Tab := []
def exAll (K : PySem.W.Frag) : Bool := kindsB K && (xfB K (cA K 18) && (xfB K (cA K 1) && (SupX.supB PySem.Challenge.rw_deedsheaf_k30_refusals_stand_alone.prog K "Twice" "Twice.__init__" "at" && SupX.supB PySem.Challenge.rw_deedsheaf_k30_refusals_stand_alone.prog K "Named" "Named.__init__" "by")))
abbrev rowR : PySem.W.OpenRow := PySem.W.OpenLaw.row PySem.Challenge.rw_deedsheaf_k30_refusals_stand_alone
abbrev twV : SupX.FnS × SupX.FnS := (some ("__init__", "Twice.__init__", defArgs sTwI, FuncBody.stmts (defBody sTwI), defScope sTwI, mainGlobals, [("__class__" : Str)], builtinsNs), some ("__init__", "Named.__init__", defArgs sNmI, FuncBody.stmts (defBody sNmI), defScope sNmI, mainGlobals, [("__class__" : Str)], builtinsNs))
def two (K : PySem.W.Frag) : SupX.FnS × SupX.FnS := (SupX.fnS K (He.fAd K ("Twice", some "__init__")), SupX.fnS K (He.fAd K ("Named", some "__init__")))
def kOf (g : Addr → Option Obj) : PySem.W.Frag := He.frT g (PySem.cStatics :: He.asD g 5)
theorem says_as {fa : List He.Fa} {fn : List He.DefD} {ts : List He.Tab} {tf : List He.Defn} {ex : PySem.W.Frag → Bool} {w : World} {h : Heap} {K : PySem.W.Frag} (hn : ∀ a o, h.get? a = some o → He.emptyTab o = true → K.lookup a = none) (e1 : He.obsT fa fn ts K = He.valT fn ts w) (e2 : (ex K && He.tabsB h.get? tf K) = true) : He.SaysX fa fn ts tf ex w h K := by
  obtain ⟨h1, h2⟩ := He.ba e2
  have key := fun p hp => He.ba (List.all_eq_true.mp h2 p hp)
  refine ⟨e1, h1, fun p hp => (key p hp).1, fun p hp => ?_, fun p hp => ?_⟩
  · have h3 := (key p hp).2
    split at h3
    · rename_i o q
      exact hn _ _ q h3
    · cases h3
  · have h3 := (key p hp).2
    split at h3
    · rename_i o q
      rw [q, He.emptyTab_eq h3]
    · cases h3
def hk : PySem.W.Hook where
  α := (He.AlT × Bool) × (SupX.FnS × SupX.FnS)
  obs := fun s => ((He.obsT faAll fnAll tsAll (kOf s.heap.get?), exAll (kOf s.heap.get?) && He.tabsB s.heap.get? tfAll (kOf s.heap.get?)), two (kOf s.heap.get?))
  val := fun w => ((He.valT fnAll tsAll w, true), twV)
  says := fun w h => ∃ K : PySem.W.Frag, K.In h ∧ He.SaysX faAll fnAll tsAll tfAll exAll w h K ∧ two K = twV
  of := fun _ _ e => ⟨_, He.frT_in, says_as (fun _ _ q z => He.frT_none q z) (congrArg (fun z : (He.AlT × Bool) × (SupX.FnS × SupX.FnS) => z.1.1) e) (congrArg (fun z : (He.AlT × Bool) × (SupX.FnS × SupX.FnS) => z.1.2) e), congrArg (fun z : (He.AlT × Bool) × (SupX.FnS × SupX.FnS) => z.2) e⟩
  keeps := fun _ _ _ ⟨K, hK, c, e⟩ k => ⟨K, PySem.W.Frag.In.keeps hK k, ⟨c.t, c.more, c.hd, c.out, fun p hp => k _ _ (c.empty p hp)⟩, e⟩
def ob (s : PySem.W.SharedT) : (He.AlT × Bool) × (SupX.FnS × SupX.FnS) := ((He.obsT faAll fnAll tsAll (kOf (HandSHeadRun.getT s)), exAll (kOf (HandSHeadRun.getT s)) && He.tabsB (HandSHeadRun.getT s) tfAll (kOf (HandSHeadRun.getT s))), two (kOf (HandSHeadRun.getT s)))
theorem ob_eq (s : PySem.W.SharedT) : ob s = hk.obs s.abs := by
  have e : HandSHeadRun.getT s = s.abs.heap.get? := funext (HandSHeadRun.getT_eq s)
  unfold ob
  rw [e] <;> rfl
def looseAll : List Str := (["NUMBER", "WORD", "entries_rising", "deed_entries", "deeds_of", "SheafError", "NoDay", "NoDeed", "NoAct", "NoEntry", "NoName", "TooMany"] : List Str) ++ (["Missing", "NoForms", "NoDraft", "NoCopy", "NoSize", "NoWords", "NoFolk", "NoAge", "NothingDone", "NoText", "NoRow", "Twice"] : List Str) ++ (["Named", "_law_cell_at", "_law_pen", "_law_draw", "_law_of_one"] : List Str)
theorem run (w : World) : HandSHeadRun.RunEq rowR (PySem.W.view rowR.prog [32]) hk ob 12000 looseAll w := by
  intro os
  kernel_rfl
theorem funOf {K : PySem.W.Frag} {x : Str} {st : Stmt} {f : Addr} {fd : FuncData} (F : FunD K x x (defArgs st) (defBody st) (defScope st) [] [] f fd) : Fun K x x st f fd := by
  obtain ⟨oc, od, dV, kV, doc, pm, an, cdv, ct, osl, e, lk, hcd, hD, hK⟩ := F.ex
  rcases hD with ⟨_, hD⟩ | ⟨hD, _⟩
  · subst hD
    exact ⟨⟨oc, od, kV, doc, pm, an, cdv, ct, osl, e, lk, hcd⟩, F.kp⟩
  · exact absurd rfl hD
theorem codeAt {K : PySem.W.Frag} {x : Str} {st : Stmt} {p : He.Defn} {fd : FuncData} (F : Fun K x x st (He.fAd K p) fd) : fd.code = .ref (He.cT K p).1 := by
  obtain ⟨oc, od, kV, doc, pm, an, cdv, ct, osl, e, lk, hcd⟩ := F.ex
  obtain ⟨c, ec⟩ := He.codeIn_ref hcd
  have e2 : fd.code = .ref c := by rw [e, ← ec]
  rw [show (He.cT K p).1 = c from He.codeOf_eq lk e2]
  exact e2
abbrev l : PySem.W.OpenLaw := PySem.Challenge.rw_deedsheaf_k30_refusals_stand_alone
theorem facts {w : World} {K : PySem.W.Frag} {h : Heap} {mg : Str → Option Value} {f : Addr} (X : K.In h) (G : h.Ns mainGlobals mg) (hfa : mg ("law" : Str) = some (.ref f)) (c : He.SaysX faAll fnAll tsAll tfAll exAll w h K) (cs : two K = twV) : LawAtS l w K CX0 40 63 "_law_script" mg f h := by
  obtain ⟨d0, F0'⟩ := c.t.d.def_ 0 (d := mkD "_law_cell_at" sCell) rfl
  have g0 := He.glo_ok X G (c.t.d.fact 0 (f := .glo "_law_cell_at") rfl)
  have F0 : Fun K "_law_cell_at" "_law_cell_at" sCell (He.fAd K ("_law_cell_at", none)) d0 := funOf F0'
  have D0 : Df K mg "_law_cell_at" sCell ["_law_script", "_law_k"] _ d0 := ⟨F0, F0.binds (ps := ["_law_script", "_law_k"]) (fun _ _ _ _ _ _ us hl => match us, hl with | [_, _], _ => rfl), g0⟩
  obtain ⟨d1, F1'⟩ := c.t.d.def_ 1 (d := mkD "_law_pen" sPen) rfl
  have g1 := He.glo_ok X G (c.t.d.fact 1 (f := .glo "_law_pen") rfl)
  have F1 : Fun K "_law_pen" "_law_pen" sPen (He.fAd K ("_law_pen", none)) d1 := funOf F1'
  have D1 : Df K mg "_law_pen" sPen ["_law_cell"] _ d1 := ⟨F1, F1.binds (ps := ["_law_cell"]) (fun _ _ _ _ _ _ us hl => match us, hl with | [_], _ => rfl), g1⟩
  obtain ⟨d2, F2'⟩ := c.t.d.def_ 2 (d := mkD "_law_draw" sDraw) rfl
  have g2 := He.glo_ok X G (c.t.d.fact 2 (f := .glo "_law_draw") rfl)
  have F2 : Fun K "_law_draw" "_law_draw" sDraw (He.fAd K ("_law_draw", none)) d2 := funOf F2'
  have D2 : Df K mg "_law_draw" sDraw ["_law_pen_here", "_law_bound"] _ d2 := ⟨F2, F2.binds (ps := ["_law_pen_here", "_law_bound"]) (fun _ _ _ _ _ _ us hl => match us, hl with | [_, _], _ => rfl), g2⟩
  obtain ⟨d3, F3'⟩ := c.t.d.def_ 3 (d := mkD "entries_rising" sRising) rfl
  have g3 := He.glo_ok X G (c.t.d.fact 3 (f := .glo "entries_rising") rfl)
  have F3 : Fun K "entries_rising" "entries_rising" sRising (He.fAd K ("entries_rising", none)) d3 := funOf F3'
  have D3 : Df K mg "entries_rising" sRising ["book"] _ d3 := ⟨F3, F3.binds (ps := ["book"]) (fun _ _ _ _ _ _ us hl => match us, hl with | [_], _ => rfl), g3⟩
  obtain ⟨d4, F4'⟩ := c.t.d.def_ 4 (d := mkD "deed_entries" sDeedE) rfl
  have g4 := He.glo_ok X G (c.t.d.fact 4 (f := .glo "deed_entries") rfl)
  have F4 : Fun K "deed_entries" "deed_entries" sDeedE (He.fAd K ("deed_entries", none)) d4 := funOf F4'
  have D4 : Df K mg "deed_entries" sDeedE ["book"] _ d4 := ⟨F4, F4.binds (ps := ["book"]) (fun _ _ _ _ _ _ us hl => match us, hl with | [_], _ => rfl), g4⟩
  obtain ⟨d5, F5'⟩ := c.t.d.def_ 5 (d := mkD "deeds_of" sDeedsOf) rfl
  have g5 := He.glo_ok X G (c.t.d.fact 5 (f := .glo "deeds_of") rfl)
  have F5 : Fun K "deeds_of" "deeds_of" sDeedsOf (He.fAd K ("deeds_of", none)) d5 := funOf F5'
  have D5 : Df K mg "deeds_of" sDeedsOf ["book"] _ d5 := ⟨F5, F5.binds (ps := ["book"]) (fun _ _ _ _ _ _ us hl => match us, hl with | [_], _ => rfl), g5⟩
  obtain ⟨d6, F6'⟩ := c.t.d.def_ 6 (d := mkD "_law_of_one" sLOne) rfl
  have g6 := He.glo_ok X G (c.t.d.fact 6 (f := .glo "_law_of_one") rfl)
  have F6 : Fun K "_law_of_one" "_law_of_one" sLOne (He.fAd K ("_law_of_one", none)) d6 := funOf F6'
  have D6 : Df K mg "_law_of_one" sLOne ["_law_one"] _ d6 := ⟨F6, F6.binds (ps := ["_law_one"]) (fun _ _ _ _ _ _ us hl => match us, hl with | [_], _ => rfl), g6⟩
  obtain ⟨d7, F7'⟩ := c.t.d.def_ 7 (d := mkD "law" sLaw) rfl
  have g7 := He.glo_ok X G (c.t.d.fact 7 (f := .glo "law") rfl)
  have F7 : Fun K "law" "law" sLaw (He.fAd K ("law", none)) d7 := funOf F7'
  have m_range := He.free_ok X G (c.t.d.fact 8 (f := .free "range") rfl)
  have m_min := He.free_ok X G (c.t.d.fact 9 (f := .free "min") rfl)
  have m_max := He.free_ok X G (c.t.d.fact 10 (f := .free "max") rfl)
  have m_list := He.free_ok X G (c.t.d.fact 11 (f := .free "list") rfl)
  have m_len := He.free_ok X G (c.t.d.fact 12 (f := .free "len") rfl)
  have m_sorted := He.free_ok X G (c.t.d.fact 13 (f := .free "sorted") rfl)
  have m_int := He.free_ok X G (c.t.d.fact 14 (f := .free "int") rfl)
  have m_isinstance := He.free_ok X G (c.t.d.fact 15 (f := .free "isinstance") rfl)
  have m_ValueError := He.free_ok X G (c.t.d.fact 16 (f := .free "ValueError") rfl)
  have m_super := He.free_ok X G (c.t.d.fact 17 (f := .free "super") rfl)
  have i_NUMBER : MgInt mg "NUMBER" 0 := He.int_ok X G (c.t.d.fact 18 (f := .int "NUMBER" 0) rfl)
  have i_WORD : MgInt mg "WORD" 4 := He.int_ok X G (c.t.d.fact 19 (f := .int "WORD" 4) rfl)
  have e := hfa.symm.trans g7
  cases e
  have b := FunD.bindsA (ps := ["_law_script"]) F7' fun _ _ _ _ _ _ us hl => match us, hl with | [_], _ => rfl
  have t0 : (("entries_rising", none) : He.Defn) ∈ tfAll := List.mem_cons_self
  have hex := c.more
  unfold exAll at hex
  obtain ⟨hk, hex⟩ := He.ba hex
  obtain ⟨hx1, hex⟩ := He.ba hex
  obtain ⟨hx2, hex⟩ := He.ba hex
  obtain ⟨hs1, hs2⟩ := He.ba hex
  have g_Missing : mg "Missing" = some (.ref (cA K 0)) := He.glo_ok X G (c.t.d.fact 20 (f := .glo "Missing") rfl)
  have g_Named : mg "Named" = some (.ref (cA K 1)) := He.glo_ok X G (c.t.d.fact 21 (f := .glo "Named") rfl)
  have g_NoAct : mg "NoAct" = some (.ref (cA K 2)) := He.glo_ok X G (c.t.d.fact 22 (f := .glo "NoAct") rfl)
  have g_NoAge : mg "NoAge" = some (.ref (cA K 3)) := He.glo_ok X G (c.t.d.fact 23 (f := .glo "NoAge") rfl)
  have g_NoCopy : mg "NoCopy" = some (.ref (cA K 4)) := He.glo_ok X G (c.t.d.fact 24 (f := .glo "NoCopy") rfl)
  have g_NoDay : mg "NoDay" = some (.ref (cA K 5)) := He.glo_ok X G (c.t.d.fact 25 (f := .glo "NoDay") rfl)
  have g_NoDeed : mg "NoDeed" = some (.ref (cA K 6)) := He.glo_ok X G (c.t.d.fact 26 (f := .glo "NoDeed") rfl)
  have g_NoDraft : mg "NoDraft" = some (.ref (cA K 7)) := He.glo_ok X G (c.t.d.fact 27 (f := .glo "NoDraft") rfl)
  have g_NoEntry : mg "NoEntry" = some (.ref (cA K 8)) := He.glo_ok X G (c.t.d.fact 28 (f := .glo "NoEntry") rfl)
  have g_NoFolk : mg "NoFolk" = some (.ref (cA K 9)) := He.glo_ok X G (c.t.d.fact 29 (f := .glo "NoFolk") rfl)
  have g_NoForms : mg "NoForms" = some (.ref (cA K 10)) := He.glo_ok X G (c.t.d.fact 30 (f := .glo "NoForms") rfl)
  have g_NoName : mg "NoName" = some (.ref (cA K 11)) := He.glo_ok X G (c.t.d.fact 31 (f := .glo "NoName") rfl)
  have g_NoRow : mg "NoRow" = some (.ref (cA K 12)) := He.glo_ok X G (c.t.d.fact 32 (f := .glo "NoRow") rfl)
  have g_NoSize : mg "NoSize" = some (.ref (cA K 13)) := He.glo_ok X G (c.t.d.fact 33 (f := .glo "NoSize") rfl)
  have g_NoText : mg "NoText" = some (.ref (cA K 14)) := He.glo_ok X G (c.t.d.fact 34 (f := .glo "NoText") rfl)
  have g_NoWords : mg "NoWords" = some (.ref (cA K 15)) := He.glo_ok X G (c.t.d.fact 35 (f := .glo "NoWords") rfl)
  have g_NothingDone : mg "NothingDone" = some (.ref (cA K 16)) := He.glo_ok X G (c.t.d.fact 36 (f := .glo "NothingDone") rfl)
  have g_TooMany : mg "TooMany" = some (.ref (cA K 17)) := He.glo_ok X G (c.t.d.fact 37 (f := .glo "TooMany") rfl)
  have g_Twice : mg "Twice" = some (.ref (cA K 18)) := He.glo_ok X G (c.t.d.fact 38 (f := .glo "Twice") rfl)
  have gSE := He.glo_ok X G (c.t.d.fact 39 (f := .glo "SheafError") rfl)
  have KD : Kinds K mg := .of hk (fun i hi => by
    match i, hi with
    | 0, _ => exact g_Missing
    | 1, _ => exact g_Named
    | 2, _ => exact g_NoAct
    | 3, _ => exact g_NoAge
    | 4, _ => exact g_NoCopy
    | 5, _ => exact g_NoDay
    | 6, _ => exact g_NoDeed
    | 7, _ => exact g_NoDraft
    | 8, _ => exact g_NoEntry
    | 9, _ => exact g_NoFolk
    | 10, _ => exact g_NoForms
    | 11, _ => exact g_NoName
    | 12, _ => exact g_NoRow
    | 13, _ => exact g_NoSize
    | 14, _ => exact g_NoText
    | 15, _ => exact g_NoWords
    | 16, _ => exact g_NothingDone
    | 17, _ => exact g_TooMany
    | 18, _ => exact g_Twice
    | n + 19, h => exact absurd h (by omega)
    ) gSE
  have q_Missing := He.exc_ok (c.t.d.fact 40 (f := .exc "Missing") rfl)
  have q_NoAct := He.exc_ok (c.t.d.fact 41 (f := .exc "NoAct") rfl)
  have q_NoAge := He.exc_ok (c.t.d.fact 42 (f := .exc "NoAge") rfl)
  have q_NoCopy := He.exc_ok (c.t.d.fact 43 (f := .exc "NoCopy") rfl)
  have q_NoDay := He.exc_ok (c.t.d.fact 44 (f := .exc "NoDay") rfl)
  have q_NoDeed := He.exc_ok (c.t.d.fact 45 (f := .exc "NoDeed") rfl)
  have q_NoDraft := He.exc_ok (c.t.d.fact 46 (f := .exc "NoDraft") rfl)
  have q_NoEntry := He.exc_ok (c.t.d.fact 47 (f := .exc "NoEntry") rfl)
  have q_NoFolk := He.exc_ok (c.t.d.fact 48 (f := .exc "NoFolk") rfl)
  have q_NoForms := He.exc_ok (c.t.d.fact 49 (f := .exc "NoForms") rfl)
  have q_NoName := He.exc_ok (c.t.d.fact 50 (f := .exc "NoName") rfl)
  have q_NoRow := He.exc_ok (c.t.d.fact 51 (f := .exc "NoRow") rfl)
  have q_NoSize := He.exc_ok (c.t.d.fact 52 (f := .exc "NoSize") rfl)
  have q_NoText := He.exc_ok (c.t.d.fact 53 (f := .exc "NoText") rfl)
  have q_NoWords := He.exc_ok (c.t.d.fact 54 (f := .exc "NoWords") rfl)
  have q_NothingDone := He.exc_ok (c.t.d.fact 55 (f := .exc "NothingDone") rfl)
  have q_TooMany := He.exc_ok (c.t.d.fact 56 (f := .exc "TooMany") rfl)
  have EX : Exc30 K := by
    refine ⟨fun i hi => ?_, fun i hi => ?_⟩
    · have h2 : i = 0 ∨ i = 2 ∨ i = 3 ∨ i = 4 ∨ i = 5 ∨ i = 6 ∨ i = 7 ∨ i = 8 ∨ i = 9 ∨ i = 10 ∨ i = 11 ∨ i = 12 ∨ i = 13 ∨ i = 14 ∨ i = 15 ∨ i = 16 ∨ i = 17 := by simpa [ids17] using hi
      rcases h2 with rfl | rfl | rfl | rfl | rfl | rfl | rfl | rfl | rfl | rfl | rfl | rfl | rfl | rfl | rfl | rfl | rfl
      · exact q_Missing.1
      · exact q_NoAct.1
      · exact q_NoAge.1
      · exact q_NoCopy.1
      · exact q_NoDay.1
      · exact q_NoDeed.1
      · exact q_NoDraft.1
      · exact q_NoEntry.1
      · exact q_NoFolk.1
      · exact q_NoForms.1
      · exact q_NoName.1
      · exact q_NoRow.1
      · exact q_NoSize.1
      · exact q_NoText.1
      · exact q_NoWords.1
      · exact q_NothingDone.1
      · exact q_TooMany.1
    · have h2 : i = 0 ∨ i = 2 ∨ i = 3 ∨ i = 4 ∨ i = 5 ∨ i = 6 ∨ i = 7 ∨ i = 8 ∨ i = 9 ∨ i = 10 ∨ i = 11 ∨ i = 12 ∨ i = 13 ∨ i = 14 ∨ i = 15 ∨ i = 16 ∨ i = 17 := by simpa [ids17] using hi
      rcases h2 with rfl | rfl | rfl | rfl | rfl | rfl | rfl | rfl | rfl | rfl | rfl | rfl | rfl | rfl | rfl | rfl | rfl
      · exact q_Missing.2.1
      · exact q_NoAct.2.1
      · exact q_NoAge.2.1
      · exact q_NoCopy.2.1
      · exact q_NoDay.2.1
      · exact q_NoDeed.2.1
      · exact q_NoDraft.2.1
      · exact q_NoEntry.2.1
      · exact q_NoFolk.2.1
      · exact q_NoForms.2.1
      · exact q_NoName.2.1
      · exact q_NoRow.2.1
      · exact q_NoSize.2.1
      · exact q_NoText.2.1
      · exact q_NoWords.2.1
      · exact q_NothingDone.2.1
      · exact q_TooMany.2.1
  obtain ⟨ST, siT, stT, snT⟩ := SupX.supB_ok (st := sTwI) hs1 (congrArg Prod.fst cs) (by decide +kernel)
  obtain ⟨SN, siN, stN, snN⟩ := SupX.supB_ok (st := sNmI) hs2 (congrArg Prod.snd cs) (by decide +kernel)
  refine ⟨d7, tfAll.map (He.cT K), spLaw K [((He.cT K ("entries_rising", none)).2, qRis)], fun p hp => ?_, fun p hp => ?_, fun p hp => ?_, fun s v => b s [v] rfl, fun H a ns hl _ hH hS => ?_, fun base hK hG hTB => ?_⟩
  · obtain ⟨q, hq, rfl⟩ := List.mem_map.mp hp
    exact c.empty q hq
  · obtain ⟨q, hq, rfl⟩ := List.mem_map.mp hp
    exact c.out q hq
  · obtain ⟨q, hq, rfl⟩ := List.mem_map.mp hp
    exact PySem.W.codeHd_of_K X (c.hd q hq)
  · refine ⟨a, ns, rfl, hS, hl, fun p hp => ?_, fun _ => rfl⟩
    rw [List.mem_singleton.mp hp]
    exact TabS.nil (hH _ (List.mem_map.mpr ⟨_, t0, rfl⟩))
  · have tb0 := hTB _ (List.mem_map.mpr ⟨_, t0, rfl⟩)
    let cRi : CallOk l.prog w K mg base 2 "entries_rising" ["book"] (spEmp [((He.cT K ("entries_rising", none)).2, qRis)]) := D3.call (ok_risE (k := 0) D3.F (codeAt F3) tb0 m_sorted i_NUMBER List.mem_cons_self (fun p hp e => by rw [List.mem_singleton.mp hp]))
    let cDe : CallOk l.prog w K mg base 3 "deed_entries" ["book"] _ := D4.call (ok_deE (k := 0) D4.F cRi i_WORD)
    let cDo : CallOk l.prog w K mg base 4 "deeds_of" ["book"] _ := D5.call (ok_doE (k := 0) D5.F cDe i_NUMBER)
    obtain ⟨fT, bT, oT⟩ := twv_fn (P := l.prog) (w := w) (base := base) (k := 0) ST m_super snT
    obtain ⟨fN, bN, oN⟩ := nmv_fn (P := l.prog) (w := w) (base := base) (k := 0) SN m_super snN
    let MT : MkV l.prog w K mg base 1 "Twice" "at" 2 [] (cA K 18) := ⟨_, fT, ST.oex, KD.c 18 (by decide), ST.oex.kC, g_Twice, siT, stT, bT, oT⟩
    let MN : MkV l.prog w K mg base 1 "Named" "by" 1 ["by"] (cA K 1) := ⟨_, fN, SN.oex, KD.c 1 (by decide), SN.oex.kC, g_Named, siN, stN, bN, oN⟩
    exact ok_law (k := 39) F7 KD EX MT MN (by decide) (xfB_ok hx1) (xfB_ok hx2) snT snN (D0.call (ok_cell D0.F m_len)) (D1.call (ok_pen D1.F m_int)) (D2.call (ok_draw D2.F)) (D6.call (ok_LOne D6.F KD m_isinstance)) (cDo.mono (by decide)) m_range m_max m_min m_len m_isinstance m_sorted m_list m_ValueError
end Deed
open PySem PySem.W PySem.Calls PyProof.Rows
theorem PySem.Challenge.cw_deedsheaf_k30_refusals_stand_alone_holds : PySem.Challenge.rw_deedsheaf_k30_refusals_stand_alone.Holds := by
  w_on; o_law
  refine HandSHeadRun.head_any (r := OpenLaw.row PySem.Challenge.rw_deedsheaf_k30_refusals_stand_alone) (q := view (OpenLaw.row PySem.Challenge.rw_deedsheaf_k30_refusals_stand_alone).prog [32]) (H := Deed.hk) (ob := Deed.ob) (M := 12000) (loose := Deed.looseAll) (d := HandSHeadRun.topDef (OpenLaw.row PySem.Challenge.rw_deedsheaf_k30_refusals_stand_alone).prog 32) (kwd := []) Deed.ob_eq
    (by kernel_rfl) (fun s => by kernel_rfl) Deed.run (by kernel_rfl) (by kernel_rfl) (by kernel_rfl) (by rfl) (by first | assumption | decide +kernel) (by decide +kernel) ⟨rfl, rfl, rfl, rfl, rfl, by decide +kernel⟩ ?hw ?hc
  case hw => w_witness2
  case hc =>
    refine LamX.walk_ofTsE (l := PySem.Challenge.rw_deedsheaf_k30_refusals_stand_alone) (n := 63) (k := 40) (x := "_law_script") (CX := fun _ => L2.CX0) rfl (by decide) (by kernel_rfl) ⟨rfl, by decide, by decide⟩ ?F (fun _ _ _ _ _ z => z)
    intro w mg fa h Y G hmg0
    obtain ⟨K, KX, c, cs⟩ := Y
    have hmg : mg ("law" : PySem.Str) = some (.ref fa) := by
      have e : (HandSHeadRun.topDef (OpenLaw.row PySem.Challenge.rw_deedsheaf_k30_refusals_stand_alone).prog 32).name = ("law" : PySem.Str) := by kernel_rfl
      rw [← e]
      exact hmg0
    exact ⟨K, KX, Deed.facts KX G hmg c cs⟩
