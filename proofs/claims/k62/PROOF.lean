import PyProof.Rows.All
import Wide.All
import OpenK.AllK
import Wide.FinOn
import KE.SortKeyHeap
import KE.KLam
import HandS.ForMost
import HandS.ForExc
import HandS.Flow
import HandS.Style
import HandS.SortInts
import HandS.SortKw
import HandS.TupAny
import HandS.TupMul
import HandS.Lambda
import HandS.EndTab
import HandS.Head2
import HandS.HeadEnd
import HandS.HeadHook4
import HandS.HeadWalk
import HandS.Walk
import HandS.IsInst
import HandS.Defaults
import HandS.More
import HandS.DictComp
import HandS.ListItems
import HandS.SetFor
import HandS.Strs
import HandS.Zip
import HandS.TupSets
import KE.SortData
import KE.GoesMore
import HandS.Conv
import HandS.WordsDict
import HandS.MakeKw
import HandS.Codes
import KE.KIndexOf
import KE.DataCmp
import KE.DataMinMax
import KE.DatumOrd
import PyProof.WalksMore
import KE.Datum
import HandS.SetTxt0
import HandS.DictTup
import HandS.Text
import HandS.Exc
import HandS.TryMany
import HandS.WordsExc
import KE.KDictDisplayH
import KE.KExcSuper
import HandS.SetBool
import KE.KRevSl
import KE.BitLaws
import KE.OsArith
import HandS.WideBits
import HandS.Deep
import PySem.Challenge.RW_deedsheaf_k62_orders_looked_at
set_option Elab.async false
set_option linter.all false
set_option maxRecDepth 100000
set_option maxHeartbeats 0
set_option pp.maxSteps 1200

namespace Deed
open PySem PySem.Spec PyProof.Rows L2
def topS (i : Nat) : Stmt := PySem.Challenge.pw_deedsheaf_k62_orders_looked_at.main.body.getD i (.Pass ⟨0, 0, 0, 0⟩)
/-! ### heaps: all but the pen at p is as it was -/
def Kp (p : Addr) (H H' : Hp) : Prop := ∀ b o, b ≠ p → H b = some o → H' b = some o
theorem Kp.refl (p : Addr) (H : Hp) : Kp p H H := fun _ _ _ h => h
theorem Kp.trans {p : Addr} {H H1 H2 : Hp} (a : Kp p H H1) (b : Kp p H1 H2) : Kp p H H2 := fun c o n h => b c o n (a c o n h)
theorem Kp.new {p q : Addr} {H : Hp} (n : H q = none) (o : HO) : Kp p H (upd H q o) := fun b u _ e => by
  rw [upd_ne (ne_of_none e n)]
  exact e
theorem Kp.put {p : Addr} {H : Hp} (o : HO) : Kp p H (upd H p o) := fun b u n e => by
  rw [upd_ne n]
  exact e
theorem Kp.same {p : Addr} {H H' : Hp} (h : Same H H') : Kp p H H' := fun b o _ e => h b o e
/-- the pen: four whole numbers, the last one a rest -/
def PenAt (H : Hp) (p : Addr) : Prop := ∃ a f c e : Int, H p = some (.lst [.int a, .int f, .int c, .int e]) ∧ 0 ≤ e ∧ e < 1000000007
theorem PenAt.new {p q : Addr} {H : Hp} (h : PenAt H p) (n : H q = none) (o : HO) : PenAt (upd H q o) p := by
  obtain ⟨a, f, c, e, h1, h2⟩ := h
  refine ⟨a, f, c, e, ?_, h2⟩
  rw [upd_ne (ne_of_none h1 n)]
  exact h1
theorem PenAt.ne {p q : Addr} {H : Hp} {o : HO} (h : PenAt H p) (e : H q = some o) (no : ∀ xs, o ≠ .lst xs) : q ≠ p := fun z => by
  obtain ⟨a, f, c, e', h1, _⟩ := h
  rw [z, h1] at e
  exact no _ (Option.some.inj e).symm
theorem PenAt.free {p q : Addr} {H : Hp} (h : PenAt H p) (n : H q = none) : q ≠ p := fun z => by
  obtain ⟨a, f, c, e', h1, _⟩ := h
  rw [z, h1] at n
  cases n
section
variable {P : Program} {w : World} {K : PySem.W.Frag} {mg : Str → Option Value} {base : Heap}
/-! ### the script's cell -/
abbrev sCell : Stmt := topS 18
theorem scCell : FnScope ["_law_script", "_law_k"] ["_law_script", "_law_k"] (defScope sCell) := ⟨rfl, rfl, rfl, by decide +kernel, rfl, by decide +kernel, by decide +kernel⟩
def spCell (K : PySem.W.Frag) : Sp := fun vs H Q _ => ∃ (a : Addr) (ns : List Int) (k : Int), vs = [.ref a, .int k] ∧ SqL K H a (ns.map V.int) ∧ 0 ≤ k ∧ ∀ v : Int, Q (.int v) H
theorem ok_cell {f : Addr} {fd : FuncData} {k : Nat} (F : Fun K "_law_cell_at" "_law_cell_at" sCell f fd) (ml : mg "len" = none) : FnOk P w K mg base CX0 (k + 1) f fd ["_law_script", "_law_k"] (spCell K) := by
  refine F.ok scCell (fun vs H Q E h => ?_) (fun cdv A outer s H vs Q E hr h => ?_)
  · obtain ⟨a, ns, k, rfl, _⟩ := h
    rfl
  · obtain ⟨a, ns, k, rfl, hS, h0, q⟩ := h
    refine ⟨_, pss_cons (ps_if (pt_cmpR op_lt (pv 1) (pe_callB call_len_seq (by rfl) ml PySem.boot_len (pa_cons (pv 0) pa_nil)) (nomark _)) (pss_one (ps_ret (pe_ix ix_list (pv 0) (pv 1) (fun _ _ => rfl)))) pss_nil)
      (pss_one (ps_ret pe_int)), ?_⟩
    have hl : (ns.map V.int).length = ns.length := List.length_map _
    refine ⟨_, rfl, _, rfl, a, _, rfl, .inl hS, _, _, rfl, rfl, _, rfl, ?_⟩
    refine ite2 (fun c => ?_) (fun c => ?_)
    · have c' : k < (((ns.map V.int).length : Nat) : Int) := of_decide_eq_true c
      rw [hl] at c'
      have hk : k.toNat < ns.length := by omega
      have ek : k = ((k.toNat : Nat) : Int) := by omega
      refine ⟨_, rfl, _, rfl, a, _, _, .int ns[k.toNat], rfl, rfl, hS, ?_, q _⟩
      exact at_of ek (by rw [List.getElem?_map, List.getElem?_eq_getElem hk] <;> rfl)
    · exact q 0
/-! ### the pen -/
abbrev sPen : Stmt := topS 17
theorem scPen : FnScope ["_law_cell"] ["_law_cell"] (defScope sPen) := ⟨rfl, rfl, rfl, by decide +kernel, rfl, by decide +kernel, by decide +kernel⟩
def spPen : Sp := fun vs H Q _ => ∃ (c : Int), vs = [.int c] ∧ ∀ p H', Same H H' → H p = none → PenAt H' p → Q (.ref p) H'
theorem ok_pen {f : Addr} {fd : FuncData} {k : Nat} (F : Fun K "_law_pen" "_law_pen" sPen f fd) (mi : mg "int" = none) : FnOk P w K mg base CX0 (k + 1) f fd ["_law_cell"] spPen := by
  refine F.ok scPen (fun vs H Q E h => ?_) (fun cdv A outer s H vs Q E hr h => ?_)
  · obtain ⟨c, rfl, _⟩ := h
    rfl
  · obtain ⟨c, rfl, q⟩ := h
    refine ⟨_, pss_one (ps_ret (pe_lst (pa_cons (pv 0) (pa_cons (pe_callTy call_int1 (by rfl) mi (by decide +kernel) (pa_cons (pe_cmpR op_ge (pv 0) (pe_op op_pow pe_int pe_int) (nomark _)) pa_nil)) (pa_cons pe_int (pa_cons (pe_op op_mod (pv 0) pe_int) pa_nil)))))), ?_⟩
    refine ⟨_, rfl, _, rfl, _, _, rfl, rfl, ⟨by decide, by decide, by decide⟩, _, _, rfl, rfl, .inr ⟨_, rfl, ?_⟩⟩
    refine ⟨_, rfl, _, _, rfl, rfl, (by show (0 : Int) < 1000000007; decide), (by show 4 ≤ sizeLine; decide), fun p hp => ?_⟩
    refine q p _ (fun b o e => ?_) hp ⟨_, _, _, _, upd_same, Int.emod_nonneg _ (by decide), Int.emod_lt_of_pos _ (by decide)⟩
    rw [upd_ne (ne_of_none e hp)]
    exact e
/-! ### a draw -/
abbrev sDraw : Stmt := topS 19
theorem scDraw : FnScope ["_law_pen_here", "_law_bound", "_law_found", "_law_stir"] ["_law_pen_here", "_law_bound"] (defScope sDraw) := ⟨rfl, rfl, rfl, by decide +kernel, rfl, by decide +kernel, by decide +kernel⟩
def spDraw : Sp := fun vs H Q _ => ∃ (p : Addr) (b : Int), vs = [.ref p, .int b] ∧ PenAt H p ∧ 0 < b ∧ b < 1073741824 ∧ ∀ v H', Kp p H H' → PenAt H' p → 0 ≤ v → v < b → Q (.int v) H'
theorem ok_draw {f : Addr} {fd : FuncData} {k : Nat} (F : Fun K "_law_draw" "_law_draw" sDraw f fd) : FnOk P w K mg base CX0 (k + 1) f fd ["_law_pen_here", "_law_bound"] spDraw := by
  refine F.ok scDraw (fun vs H Q E h => ?_) (fun cdv A outer s H vs Q E hr h => ?_)
  · obtain ⟨p, b, rfl, _⟩ := h
    rfl
  · obtain ⟨p, b, rfl, ⟨x, y, c, e, hp, he0, he1⟩, hb0, hb1, q⟩ := h
    refine ⟨_, pss_cons (ps_if (PW.pt (pw_and (pt_cmpR op_eq (pe_ix ix_list (pv 0) pe_int (fun _ _ => rfl)) pe_int (nomark _)) (pw_and1 (pt_cmpR op_gt (pe_ix ix_list (pv 0) pe_int (fun _ _ => rfl)) pe_int (nomark _)))))
        (pss_cons (ps_set (i := 2) scDraw.nd rfl (.inl rfl) (pe_op op_mod (pe_ix ix_list (pv 0) pe_int (fun _ _ => rfl)) (pv 1)))
        (pss_cons (ps_asg (pe_op op_fdiv (pe_ix ix_list (pv 0) pe_int (fun _ _ => rfl)) (pv 1)) (pg_sub (pv 0) pe_int set_list))
        (pss_one (ps_ret (pv 2))))) pss_nil)
      (pss_cons (ps_asg (pe_op op_add (pe_ix ix_list (pv 0) pe_int (fun _ _ => rfl)) pe_int) (pg_sub (pv 0) pe_int set_list))
      (pss_cons (ps_set (i := 3) scDraw.nd rfl (.inl rfl) (pe_op op_mod (pe_op op_mul (pe_op op_add (pe_ix ix_list (pv 0) pe_int (fun _ _ => rfl)) pe_int) (pe_op op_add pe_int (pe_op op_mul pe_int (pe_ix ix_list (pv 0) pe_int (fun _ _ => rfl))))) pe_int))
      (pss_cons (ps_set (i := 3) scDraw.nd rfl (.inl rfl) (pe_op op_mod (pe_op op_add (pe_op op_add (pe_op op_mul (pv 3) (pv 3)) (pe_op op_mul pe_int (pe_ix ix_list (pv 0) pe_int (fun _ _ => rfl)))) pe_int) pe_int))
      (pss_one (ps_ret (pe_op op_mod (pe_op op_fdiv (pe_op op_mod (pe_op op_mul (pv 3) pe_int) pe_int) pe_int) (pv 1))))))), ?_⟩
    have i0 : ∀ u : V, ∀ r : List V, atI (u :: r) 0 = some u := fun u r => atI_nat (j := 0) rfl
    have i1 : ∀ u v : V, ∀ r : List V, atI (u :: v :: r) 1 = some v := fun u v r => atI_nat (j := 1) rfl
    have i2 : ∀ u v w : V, ∀ r : List V, atI (u :: v :: w :: r) 2 = some w := fun u v w r => atI_nat (j := 2) rfl
    have i3 : ∀ u v w z : V, ∀ r : List V, atI (u :: v :: w :: z :: r) 3 = some z := fun u v w z r => atI_nat (j := 3) rfl
    have hS : SqL K H p [.int x, .int y, .int c, .int e] := SqL.of hp
    refine ⟨_, rfl, p, _, _, _, rfl, rfl, hS, i1 _ _ _, rfl, _, rfl, ?_⟩
    refine ite2 (fun c1 => ?_) (fun c1 => ?slow1)
    refine ⟨_, rfl, p, _, _, _, rfl, rfl, hS, i0 _ _, _, _, rfl, rfl, _, rfl, ?_⟩
    refine ite2 (fun c2 => ?_) (fun c2 => ?slow2)
    · refine ⟨_, rfl, p, _, _, _, rfl, rfl, hS, i0 _ _, _, rfl, _, _, rfl, rfl, hb0, ?_⟩
      refine ⟨_, rfl, p, _, _, _, rfl, rfl, hS, i0 _ _, _, rfl, _, _, rfl, rfl, ⟨hb0, hb1⟩, _, rfl, p, _, 0, 0, rfl, rfl, hp, rfl, ?_⟩
      exact ⟨_, rfl, q _ _ (Kp.put _) ⟨_, _, _, _, upd_same, he0, he1⟩ (Int.emod_nonneg _ (by omega)) (Int.emod_lt_of_pos _ hb0)⟩
    all_goals
      refine ⟨_, rfl, p, _, _, _, rfl, rfl, hS, i2 _ _ _ _, _, _, rfl, rfl, _, rfl, p, _, 2, 2, rfl, rfl, hp, rfl, ?_⟩
      have hp1 : (upd H p (.lst [.int x, .int y, .int (c + 1), .int e])) p = some (.lst [.int x, .int y, .int (c + 1), .int e]) := upd_same
      have hS1 : SqL K (upd H p (.lst [.int x, .int y, .int (c + 1), .int e])) p [.int x, .int y, .int (c + 1), .int e] := SqL.of hp1
      refine ⟨_, rfl, p, _, _, _, rfl, rfl, hS1, i3 _ _ _ _ _, _, _, rfl, rfl, _, rfl, p, _, _, _, rfl, rfl, hS1, i2 _ _ _ _, _, _, rfl, rfl, .inl ⟨by decide, by decide⟩, _, _, rfl, rfl, _, _, rfl, rfl, .inl ⟨by omega, by omega⟩, _, _, rfl, rfl, (by show (0 : Int) < 2147483647; decide), ?_⟩
      have r1 := Int.emod_nonneg ((e + 17) * (69621 + 2 * (c + 1))) (b := 2147483647) (by decide)
      have r2 := Int.emod_lt_of_pos ((e + 17) * (69621 + 2 * (c + 1))) (b := 2147483647) (by decide)
      generalize (e + 17) * (69621 + 2 * (c + 1)) % 2147483647 = st at r1 r2
      refine ⟨_, rfl, _, rfl, _, _, rfl, rfl, .inl ⟨by omega, by omega⟩, _, rfl, p, _, _, _, rfl, rfl, hS1, i2 _ _ _ _, _, _, rfl, rfl, .inl ⟨by decide, by decide⟩, _, _, rfl, rfl, _, _, rfl, rfl, _, _, rfl, rfl, (by show (0 : Int) < 2147483629; decide), ?_⟩
      refine ⟨_, rfl, _, _, rfl, rfl, .inr ⟨by decide, by decide⟩, _, _, rfl, rfl, (by show (0 : Int) < 2147483647; decide), _, _, rfl, rfl, ⟨by decide, by decide⟩, _, rfl, _, _, rfl, rfl, hb0, ?_⟩
      exact q _ _ (Kp.put _) ⟨_, _, _, _, upd_same, he0, he1⟩ (Int.emod_nonneg _ (by omega)) (Int.emod_lt_of_pos _ hb0)
end
end Deed

namespace Deed
open PySem PySem.Spec PyProof.Rows L2
/-- a def of the top: where it stands, how its arguments come, its name -/
structure Df (K : PySem.W.Frag) (mg : Str → Option Value) (x : Str) (st : Stmt) (ps : List Str) (f : Addr) (fd : FuncData) : Prop where
  F : Fun K x x st f fd
  b : Binds K fd ps []
  g : mg x = some (.ref f)
theorem am0 {φ : V → Prop} : ∀ y ∈ ([] : List V), φ y := fun _ h => nomatch h
theorem am1 {φ : V → Prop} {x : V} {xs : List V} (h : φ x) (r : ∀ y ∈ xs, φ y) : ∀ y ∈ x :: xs, φ y := fun y hy => (List.mem_cons.mp hy).elim (fun e => e ▸ h) (r y)
/-- an item of a written list at an open place -/
theorem pick {xs : List V} {i : Int} (φ : V → Prop) (h0 : 0 ≤ i) (h1 : i < (xs.length : Int)) (hx : ∀ x ∈ xs, φ x) : ∃ v, atI xs i = some v ∧ φ v := by
  have hk : i.toNat < xs.length := by omega
  exact ⟨xs[i.toNat], at_of (j := i.toNat) (by omega) (List.getElem?_eq_getElem hk), hx _ (List.getElem_mem hk)⟩
/-- an int within bounds -/
def Within (lo hi : Int) (x : V) : Prop := ∃ n : Int, x = .int n ∧ lo ≤ n ∧ n ≤ hi
section
variable {P : Program} {w : World} {K : PySem.W.Frag} {mg : Str → Option Value} {base : Heap} {fDr : Addr} {dDr : FuncData}
abbrev DrawD (K : PySem.W.Frag) (mg : Str → Option Value) := Df K mg "_law_draw" sDraw ["_law_pen_here", "_law_bound"]
end
end Deed
namespace Deed
open PySem PySem.Spec PyProof.Rows L2
/-! ### lists of ints compared -/
theorem dp_ints {K : PySem.W.Frag} {H : Hp} : ∀ ns : List Int, DpAll K H (ns.map V.int) (ns.map PyData.int)
  | [] => .nil
  | n :: r => .cons (.int n) (dp_ints r)
theorem lay_ints : ∀ ns : List Int, PyData.canLayAll0 (ns.map PyData.int) = true
  | [] => by simp [PyData.canLayAll0]
  | n :: r => by simp [PyData.canLayAll0, PyData.canLay0, lay_ints r]
theorem depth_ints : ∀ ns : List Int, PyData.depthAll (ns.map PyData.int) ≤ 1
  | [] => by simp [PyData.depthAll]
  | n :: r => by
    have h := depth_ints r
    simp only [List.map_cons, PyData.depthAll, PyData.depth]
    omega
theorem shaped_ints (ns : List Int) : SeqAt.shaped (.list (ns.map PyData.int)) = true := by
  have h1 := depth_ints ns
  have h2 : PyData.depth (.list (ns.map PyData.int)) ≤ 64 := by
    simp only [PyData.depth]
    omega
  show (PyData.canLay0 (.list (ns.map PyData.int)) && decide (PyData.depth (.list (ns.map PyData.int)) ≤ 64)) = true
  rw [Bool.and_eq_true]
  exact ⟨by simp only [PyData.canLay0]; exact lay_ints ns, decide_eq_true h2⟩
theorem eqvAll_ints : ∀ ns ms : List Int, PyData.eqvAll (ns.map PyData.int) (ms.map PyData.int) = decide (ns = ms)
  | [], [] => by simp [PyData.eqvAll]
  | [], _ :: _ => by simp [PyData.eqvAll]
  | _ :: _, [] => by simp [PyData.eqvAll]
  | n :: r, m :: q => by
    simp only [List.map_cons, PyData.eqvAll, PyData.eqv, eqvAll_ints r q]
    by_cases h : n = m
    · subst h
      simp
    · simp [h]
theorem eqv_ints (ns ms : List Int) : PyData.eqv (.list (ns.map PyData.int)) (.list (ms.map PyData.int)) = decide (ns = ms) := by
  simp only [PyData.eqv]
  exact eqvAll_ints ns ms
theorem mem_inV {n : Int} {ns : List Int} : inV (.int n) (ns.map V.int) = decide (n ∈ ns) := by
  induction ns with
  | nil => simp [inV]
  | cons m r ih =>
    have e : inV (.int n) ((m :: r).map V.int) = (eqV (.int m) (.int n) || inV (.int n) (r.map V.int)) := by simp [inV]
    have e2 : eqV (.int m) (.int n) = decide (m = n) := by
      first | rfl | simp [eqV] | (unfold eqV; simp)
    rw [e, ih, e2]
    by_cases h : m = n
    · subst h
      simp
    · have h' : ¬ n = m := fun z => h z.symm
      simp [h, h']
theorem flat_ints (ns : List Int) : (ns.map V.int).all flatV = true := by
  induction ns with
  | nil => rfl
  | cons n r ih =>
    rw [List.map_cons, List.all_cons, ih]
    rfl
/-- all that isn't a list is kept -/
def KpT (H H' : Hp) : Prop := ∀ b xs, H b = some (.tup xs) → H' b = some (.tup xs)
theorem Kp.tup {p : Addr} {H H' : Hp} (k : Kp p H H') (P : PenAt H p) : KpT H H' := fun b xs e => k _ _ (P.ne e fun _ z => by cases z) e
theorem Same.tup {H H' : Hp} (k : Same H H') : KpT H H' := fun b xs e => k _ _ e
theorem KpT.trans {H H1 H2 : Hp} (a : KpT H H1) (b : KpT H1 H2) : KpT H H2 := fun c o h => b c o (a c o h)
def rLenS (K : PySem.W.Frag) : List V → Hp → VK → Prop := fun xs H Q => ∃ p ys, xs = [.ref p] ∧ (SqL K H p ys ∨ SqT K H p ys) ∧ Q (.int ys.length) H
theorem take_more {α : Type} {l : List α} {i : Nat} {x : α} (h : l[i]? = some x) : l.take (i + 1) = l.take i ++ [x] := by
  rw [List.take_add_one, h]
  rfl
structure Bi (mg : Str → Option Value) : Prop where
  range : mg "range" = none
  min : mg "min" = none
  max : mg "max" = none
  tuple : mg "tuple" = none
  list : mg "list" = none
  len : mg "len" = none
  sorted : mg "sorted" = none
  int : mg "int" = none
end Deed

namespace Deed
open PySem PySem.Spec PyProof.Rows L2 LamX
/-! ### rules whose reading names K; a def that may be called; comprehensions at large -/
theorem ix_tupK {X : Cx} {K : PySem.W.Frag} (h : X.K = K) : IxR X (rIxT K) := h ▸ ix_tup
theorem ix_listK {X : Cx} {K : PySem.W.Frag} (h : X.K = K) : IxR X (rIxL K) := h ▸ ix_list
theorem in_seqK {X : Cx} {K : PySem.W.Frag} (h : X.K = K) : OpR X (compareOp .In) (rIn K false) := h ▸ op_in_seq
theorem notIn_seqK {X : Cx} {K : PySem.W.Frag} (h : X.K = K) : OpR X (compareOp .NotIn) (rIn K true) := h ▸ op_notIn_seq
theorem len_seqK {X : Cx} {K : PySem.W.Frag} (h : X.K = K) : CallR X (.builtin "len") (rLenS K) := h ▸ call_len_seq
structure CallOk (P : Program) (w : World) (K : PySem.W.Frag) (mg : Str → Option Value) (base : Heap) (L : Nat) (x : Str) (ps : List Str) (sp : Sp) where
  f : Addr
  fd : FuncData
  g : mg x = some (.ref f)
  kp : PySem.W.keepIn K (.ref f) = true
  b : Binds K fd ps []
  ok : FnOk P w K mg base CX0 L f fd ps sp
def CallOk.mono {P : Program} {w : World} {K : PySem.W.Frag} {mg : Str → Option Value} {base : Heap} {L L' : Nat} {x : Str} {ps : List Str} {sp : Sp} (c : CallOk P w K mg base L x ps sp) (h : L ≤ L') : CallOk P w K mg base L' x ps sp := ⟨c.f, c.fd, c.g, c.kp, c.b, c.ok.mono h⟩
def Df.call {P : Program} {w : World} {K : PySem.W.Frag} {mg : Str → Option Value} {base : Heap} {L : Nat} {x : Str} {st : Stmt} {ps : List Str} {f : Addr} {fd : FuncData} {sp : Sp} (D : Df K mg x st ps f fd) (G : FnOk P w K mg base CX0 L f fd ps sp) : CallOk P w K mg base L x ps sp := ⟨f, fd, D.g, D.F.kp, D.b, G⟩
theorem nodup_len : ∀ {l m : List Int}, l.Nodup → (∀ x ∈ l, x ∈ m) → l.length ≤ m.length
  | [], m, _, _ => Nat.zero_le _
  | a :: r, m, h, hs => by
    rw [List.nodup_cons] at h
    have ha := hs a List.mem_cons_self
    have h1 := nodup_len (l := r) (m := m.erase a) h.2 fun x hx => by
      have hne : x ≠ a := fun z => h.1 (z ▸ hx)
      exact (List.mem_erase_of_ne hne).mpr (hs x (List.mem_cons_of_mem _ hx))
    rw [List.length_erase_of_mem ha] at h1
    have := List.length_pos_of_mem ha
    rw [List.length_cons]
    omega
theorem none_back {H H' : Hp} {p : Addr} (s : Same H H') (n : H' p = none) : H p = none := by
  cases h : H p with
  | none => rfl
  | some o => rw [s _ _ h] at n; cases n
theorem same_refl (H : Hp) : Same H H := fun _ _ e => e
theorem take_filter {α : Type} {p : α → Bool} {ys : List α} {i : Nat} {y : α} (h : ys[i]? = some y) : (ys.take (i + 1)).filter p = (ys.take i).filter p ++ (if p y then [y] else []) := by
  rw [take_more h, List.filter_append]
  congr 1
  cases hp : p y <;> simp [hp]
section
variable {J : It} {n : Nat} {G : Hp → Prop} {Y : Nat → Hp → V → Hp → Prop} {g : TG} {tt : TT} {te : TE} {vs : List Nat} {σ : L2.St} {H1 : Hp} {D : Addr} {Qd : Hp → Prop} {α : Type}
abbrev LcGoal (J : It) (g : TG) (tt : TT) (te : TE) (vs : List Nat) (σ : L2.St) (H1 : Hp) (D : Addr) (Qd : Hp → Prop) : Prop :=
  ∃ W : Nat → Nat → Hp → Prop, (∃ m, W 0 m (upd H1 D (.lst []))) ∧ ∀ i m H, W i m H →
      (J.stop i H ∧ Qd H) ∨ (J.go i H ∧ ∃ Nx : Hp → Prop, (∀ H', Nx H' → ∃ m', m' < m ∧ W (i + 1) m' H') ∧ ∀ x H', J.yld i H x H' → g x (wipe σ vs) H' fun σ2 H2 => wipe σ2 vs = wipe σ vs ∧ tt σ2 H2 fun b H3 =>
        if b = true then te σ2 H3 fun y H4 => ∃ acc, H4 D = some (.lst acc) ∧ acc.length < sizeLine ∧ Nx (upd H4 D (.lst (acc ++ [y]))) else Nx H3)
/-- at large: St a step of the heap, In what holds of it, E what holds of an item -/
theorem lc_gen (w : Walk J n G Y) (ys : List α) (p : α → Bool) (In : Hp → Prop) (Sp1 : Hp → Hp → Prop) (E : Hp → α → V → Prop) (hn : ys.length = n) (hlen : ys.length ≤ 1000) (h0 : In (upd H1 D (.lst []))) (hG : ∀ H, In H → G H)
    (hSt : ∀ H H', In H → Sp1 H H' → In H' ∧ ∀ xs, H D = some (.lst xs) → H' D = some (.lst xs)) (hPut : ∀ H xs l, In H → H D = some (.lst xs) → In (upd H D (.lst l)))
    (hE : ∀ H H' y u, In H → Sp1 H H' → E H y u → E H' y u) (hEp : ∀ H xs l y u, In H → H D = some (.lst xs) → E H y u → E (upd H D (.lst l)) y u)
    (hs : ∀ i y x H H', ys[i]? = some y → In H → Y i H x H' → ∀ (Q1 : V → Hp → Prop) (Q0 : Hp → Prop), (p y = true → ∀ u H4, Sp1 H H4 → E H4 y u → Q1 u H4) → (p y = false → ∀ H3, Sp1 H H3 → Q0 H3) →
      g x (wipe σ vs) H' fun σ2 H2 => wipe σ2 vs = wipe σ vs ∧ tt σ2 H2 fun b H3 => if b = true then te σ2 H3 Q1 else Q0 H3)
    (hd : ∀ H (zs : List (V × α)), In H → H D = some (.lst (zs.map (·.1))) → zs.map (·.2) = ys.filter p → (∀ z ∈ zs, E H z.2 z.1) → Qd H) : LcGoal J g tt te vs σ H1 D Qd := by
  refine lc_it w (fun i H => In H ∧ ∃ zs : List (V × α), H D = some (.lst (zs.map (·.1))) ∧ zs.map (·.2) = (ys.take i).filter p ∧ ∀ z ∈ zs, E H z.2 z.1) ⟨h0, [], upd_same, rfl, fun _ h => nomatch h⟩ (fun i H _ h => hG H h.1) ?_ ?_
  · rintro i x H H' hi ⟨hI, zs, eD, ez, hz⟩ hY
    rw [← hn] at hi
    have hy : ys[i]? = some ys[i] := List.getElem?_eq_getElem hi
    have hzl : zs.length ≤ 1000 := by
      have h1 := congrArg List.length ez
      rw [List.length_map] at h1
      have h2 := List.length_filter_le p (ys.take i)
      rw [List.length_take] at h2
      omega
    refine hs i ys[i] x H H' hy hI hY _ _ (fun hp u H4 s4 e4 => ?_) (fun hp H3 s3 => ?_)
    · obtain ⟨I4, k4⟩ := hSt _ _ hI s4
      have eD4 := k4 _ eD
      refine ⟨_, eD4, small1000 (by rw [List.length_map]; omega), hPut _ _ _ I4 eD4, zs ++ [(u, ys[i])], ?_, ?_, fun z hzz => ?_⟩
      · rw [upd_same, List.map_append]
        rfl
      · rw [List.map_append, ez, take_filter hy, hp]
        rfl
      · rcases List.mem_append.mp hzz with h | h
        · exact hEp _ _ _ _ _ I4 eD4 (hE _ _ _ _ hI s4 (hz z h))
        · rw [List.mem_singleton.mp h]
          exact hEp _ _ _ _ _ I4 eD4 e4
    · obtain ⟨I3, k3⟩ := hSt _ _ hI s3
      refine ⟨I3, zs, k3 _ eD, ?_, fun z hzz => hE _ _ _ _ hI s3 (hz z hzz)⟩
      rw [ez, take_filter hy, hp]
      simp
  · rintro H ⟨hI, zs, eD, ez, hz⟩
    rw [← hn, List.take_length] at ez
    exact hd H zs hI eD ez hz
theorem same_put {H H1 : Hp} {D : Addr} (nD : H1 D = none) (s : Same H1 H) (o : HO) : Same H1 (upd H D o) := fun b u e => by
  rw [upd_ne (ne_of_none e nD)]
  exact s _ _ e
theorem same_new {H : Hp} {p : Addr} (n : H p = none) (o : HO) : Same H (upd H p o) := fun b u e => by rw [upd_ne (ne_of_none e n)]; exact e
/-- values; nothing but the new list is otherwise -/
theorem lc_sameV (w : Walk J n G Y) (ys : List α) (p : α → Bool) (v : α → V) (hn : ys.length = n) (hlen : ys.length ≤ 1000) (nD : H1 D = none) (hG : ∀ H, Same H1 H → G H)
    (hs : ∀ i y x H H', ys[i]? = some y → Same H1 H → Y i H x H' → ∀ (Q1 : V → Hp → Prop) (Q0 : Hp → Prop), (p y = true → ∀ H4, Same H H4 → Q1 (v y) H4) → (p y = false → ∀ H3, Same H H3 → Q0 H3) →
      g x (wipe σ vs) H' fun σ2 H2 => wipe σ2 vs = wipe σ vs ∧ tt σ2 H2 fun b H3 => if b = true then te σ2 H3 Q1 else Q0 H3)
    (hd : ∀ H, Same H1 H → H D = some (.lst ((ys.filter p).map v)) → Qd H) : LcGoal J g tt te vs σ H1 D Qd := by
  refine lc_gen w ys p (fun H => Same H1 H) Same (fun _ y u => u = v y) hn hlen (same_new nD _) hG (fun H H' h1 h2 => ⟨h1.trans h2, fun xs e => h2 _ _ e⟩) (fun H xs l h1 _ => same_put nD h1 _) (fun _ _ _ _ _ _ e => e) (fun _ _ _ _ _ _ _ e => e) (fun i y x H H' hy h1 hY Q1 Q0 q1 q0 => ?_) (fun H zs h1 e ez hz => ?_)
  · exact hs i y x H H' hy h1 hY Q1 Q0 (fun hp H4 s4 => q1 hp _ H4 s4 rfl) q0
  · refine hd H h1 ?_
    rw [e, ← ez, List.map_map]
    congr 2
    exact List.map_congr_left fun z hzz => hz z hzz
theorem lc_sameM (w : Walk J n G Y) (ys : List α) (v : α → V) (hn : ys.length = n) (hlen : ys.length ≤ 1000) (nD : H1 D = none) (hG : ∀ H, Same H1 H → G H)
    (hs : ∀ i y x H H', ys[i]? = some y → Same H1 H → Y i H x H' → ∀ (Q1 : V → Hp → Prop), (∀ H4, Same H H4 → Q1 (v y) H4) → g x (wipe σ vs) H' fun σ2 H2 => wipe σ2 vs = wipe σ vs ∧ te σ2 H2 Q1)
    (hd : ∀ H, Same H1 H → H D = some (.lst (ys.map v)) → Qd H) : LcGoal J g tYes te vs σ H1 D Qd := by
  refine lc_sameV w ys (fun _ => true) v hn hlen nD hG (fun i y x H H' hy h1 hY Q1 Q0 q1 q0 => ?_) (fun H h1 e => hd H h1 (by rw [e, List.filter_eq_self.mpr fun _ _ => rfl]))
  exact hs i y x H H' hy h1 hY Q1 (fun H4 s4 => q1 rfl H4 s4)
/-- new tuples -/
theorem lc_sameT (w : Walk J n G Y) (ys : List α) (p : α → Bool) (v : α → List V) (hn : ys.length = n) (hlen : ys.length ≤ 1000) (nD : H1 D = none) (hG : ∀ H, Same H1 H → G H)
    (hs : ∀ i y x H H', ys[i]? = some y → Same H1 H → Y i H x H' → ∀ (Q1 : V → Hp → Prop) (Q0 : Hp → Prop), (p y = true → ∀ t H4, Same H H4 → H4 t = some (.tup (v y)) → Q1 (.ref t) H4) → (p y = false → ∀ H3, Same H H3 → Q0 H3) →
      g x (wipe σ vs) H' fun σ2 H2 => wipe σ2 vs = wipe σ vs ∧ tt σ2 H2 fun b H3 => if b = true then te σ2 H3 Q1 else Q0 H3)
    (hd : ∀ H (zs : List (Addr × α)), Same H1 H → H D = some (.lst (zs.map fun z => .ref z.1)) → zs.map (·.2) = ys.filter p → (∀ z ∈ zs, H z.1 = some (.tup (v z.2))) → Qd H) : LcGoal J g tt te vs σ H1 D Qd := by
  refine lc_gen w ys p (fun H => Same H1 H) Same (fun H y u => ∃ t, u = .ref t ∧ H t = some (.tup (v y))) hn hlen (same_new nD _) hG (fun H H' h1 h2 => ⟨h1.trans h2, fun xs e => h2 _ _ e⟩) (fun H xs l h1 _ => same_put nD h1 _) (fun H H' y u _ h2 e => ?_) (fun H xs l y u h1 h2 e => ?_) (fun i y x H H' hy h1 hY Q1 Q0 q1 q0 => ?_) (fun H zs h1 e ez hz => ?_)
  · obtain ⟨t, e1, e2⟩ := e
    exact ⟨t, e1, h2 _ _ e2⟩
  · obtain ⟨t, e1, e2⟩ := e
    refine ⟨t, e1, ?_⟩
    rw [upd_ne fun z => by rw [z, h2] at e2; cases e2]
    exact e2
  · exact hs i y x H H' hy h1 hY Q1 Q0 (fun hp t H4 s4 e4 => q1 hp _ H4 s4 ⟨t, rfl, e4⟩) q0
  · have key : ∀ zs : List (V × α), (∀ z ∈ zs, ∃ t, z.1 = .ref t ∧ H t = some (.tup (v z.2))) → ∃ ws : List (Addr × α), zs.map (·.1) = ws.map (fun z => V.ref z.1) ∧ ws.map (·.2) = zs.map (·.2) ∧ ∀ z ∈ ws, H z.1 = some (.tup (v z.2)) := by
      intro zs
      induction zs with
      | nil => exact fun _ => ⟨[], rfl, rfl, fun _ h => nomatch h⟩
      | cons z r ih =>
        intro h
        obtain ⟨ws, a1, a2, a3⟩ := ih fun x hx => h x (List.mem_cons_of_mem _ hx)
        obtain ⟨t, e1, e2⟩ := h z List.mem_cons_self
        refine ⟨(t, z.2) :: ws, ?_, ?_, fun x hx => ?_⟩
        · rw [List.map_cons, List.map_cons, a1, e1]
        · rw [List.map_cons, List.map_cons, a2]
        · rcases List.mem_cons.mp hx with h | h
          · rw [h]
            exact e2
          · exact a3 x h
    obtain ⟨ws, a1, a2, a3⟩ := key zs hz
    exact hd H ws h1 (by rw [e, a1]) (by rw [a2, ez]) a3
end
end Deed

namespace PySem.SeqAt
open AutoSeq1 (wpAny_loadPart')
open MeetsSeq
/-! ### a dict and a text are never equal -/
theorem dict_eq_declines_str (l : Addr) (es : Array DictEntry) (ep : Nat) (dd : Option Addr) (sl : Array (Option Value)) (b : Str) (u : Tok) :
    Meets (Builtin.«dict.__eq__» ⟨[.ref l, .str b u], []⟩) (fun _ R s => s.heap.get? l = some { cls := .type "dict", dict := dd, data := .dict es ep, slots := sl } ∧ R (.ok (.ret .notImplemented)) s) :=
  .of_wp fun prog w A R s h => by obtain ⟨hp, g, d, tk, os⟩ := s; obtain ⟨hl, h⟩ := h; have f1 := F.sub_str_dict; wp_walk using wpAny_loadPart' hl; exact ⟨_, rfl, h⟩
theorem str_eq_declines_dict (b : Str) (u : Tok) (l : Addr) (c : Value) (es : Array DictEntry) (ep : Nat) (dd : Option Addr) (sl : Array (Option Value)) :
    Meets (Builtin.«str.__eq__» ⟨[.str b u, .ref l], []⟩) (fun _ R s => s.heap.get? l = some { cls := c, dict := dd, data := .dict es ep, slots := sl } ∧ R (.ok (.ret .notImplemented)) s) :=
  .of_wp fun prog w A R s h => by obtain ⟨hp, g, d, tk, os⟩ := s; obtain ⟨hl, h⟩ := h; wp_walk using wpAny_loadPart' hl, wpAny_load hl; exact ⟨_, rfl, h⟩
section
variable {M : Model} {A : Around} {E : Value → Shared → Prop} {s : Shared}
theorem RcAt.dict_str {l : Addr} {o : Obj} {es : Array DictEntry} {ep : Nat} (b : Str) (u : Tok) (ho : s.heap.get? l = some o) (hc : o.cls = .type "dict") (hd : o.data = .dict es ep) (hu : A.units < cLine) : RcAt A s (.ref l) (.str b u) false := fun prog w E Q h => by
  obtain ⟨cls, dd, data, sl⟩ := o
  simp only at hc hd
  subst hc hd
  exact rc_eq_decline_or (k := false) ⟨_, ho, rfl⟩ (typeIs_str s b u) (by decide) F.sub_str_dict F.slot_dict_eq F.slot_str_eq_refl
    (fun _ hq => call_meets F.slot_dict_eq ⟨_, ho, rfl⟩ F.entry_dict_eq (F.args_dict_eq_2 _ _) (dict_eq_declines_str l es ep dd sl b u) ⟨ho, hq⟩)
    (fun _ hq => call_meets F.slot_str_eq_refl (typeIs_str s b u) F.entry_str_eq (F.args_str_eq_2 _ _) (str_eq_declines_dict b u l (.type "dict") es ep dd sl) ⟨ho, hq⟩)
    (fun _ hq => wpAny_of_eq (rfl : isSame (.ref l) (.str b u) = pure false) hq) (.inr hu) h
theorem RcAt.str_dict {l : Addr} {o : Obj} {es : Array DictEntry} {ep : Nat} (b : Str) (u : Tok) (ho : s.heap.get? l = some o) (hc : o.cls = .type "dict") (hd : o.data = .dict es ep) (hu : A.units < cLine) : RcAt A s (.str b u) (.ref l) false := fun prog w E Q h => by
  obtain ⟨cls, dd, data, sl⟩ := o
  simp only at hc hd
  subst hc hd
  exact rc_eq_decline_or (k := false) (typeIs_str s b u) ⟨_, ho, rfl⟩ (by decide) F.sub_dict_str F.slot_str_eq F.slot_dict_eq_refl
    (fun _ hq => call_meets F.slot_str_eq (typeIs_str s b u) F.entry_str_eq (F.args_str_eq_2 _ _) (str_eq_declines_dict b u l (.type "dict") es ep dd sl) ⟨ho, hq⟩)
    (fun _ hq => call_meets F.slot_dict_eq_refl ⟨_, ho, rfl⟩ F.entry_dict_eq (F.args_dict_eq_2 _ _) (dict_eq_declines_str l es ep dd sl b u) ⟨ho, hq⟩)
    (fun _ hq => wpAny_of_eq (rfl : isSame (.str b u) (.ref l) = pure false) hq) (.inr hu) h
theorem EqAt.str_dict {l : Addr} {o : Obj} {es : Array DictEntry} {ep : Nat} (b : Str) (u : Tok) (ho : s.heap.get? l = some o) (hc : o.cls = .type "dict") (hd : o.data = .dict es ep) (hu : A.units < cLine) : EqAt A s (.str b u) (.ref l) false := fun prog w E Q h => by
  unfold eqBool
  refine wpAny_holding ?_
  refine wpAny_ite_split (fun hab => absurd (eq_of_beq hab) nofun) (fun _ => ?_)
  exact wpAny_bind (RcAt.str_dict b u ho hc hd hu prog w E _ (wpAny_truthy_bool h))
theorem int___gt___bool_int_0 (a : Bool) (b : Int) (u : Tok) : Gives (Builtin.«int.__gt__» ⟨[.bool a, .int b u], []⟩) (.val (Value.bool (decide ((if a = true then (1 : Int) else 0) > b)))) :=
  .of_wp fun M A E s Q h => by obtain ⟨hp, g, d, tk, os⟩ := s; wp_walk; exact ⟨_, rfl, h⟩
theorem gt_bool_int {prog : Program} {w : World} {a : Bool} {b : Int} {u : Tok} {Q : Value → Shared → Prop} (h : Q (.bool (decide ((if a = true then (1 : Int) else 0) > b))) s) : wpAny (model prog w) A (compareOp .Gt (.bool a) (.int b u)) Q E s :=
  rc_left_or (op := .Gt) rfl (typeIs_int s b u) (by decide) F.sub_int_bool F.slot_bool_gt
    (call_gives F.slot_bool_gt rfl F.entry_int_gt (F.args_int_gt_2 _ _) (int___gt___bool_int_0 a b u) ⟨nofun, h⟩) (.inl rfl)
end
end PySem.SeqAt
namespace Deed
open PySem PySem.Spec PyProof.Rows L2
/-! ### things of whatever kind -/
inductive Knd (H : Hp) : V → Prop
  | non : Knd H .non
  | bl (b : Bool) : Knd H (.bl b)
  | int (i : Int) : Knd H (.int i)
  | str (x : Str) : Knd H (.str x)
  | lst {a : Addr} {xs : List V} : H a = some (.lst xs) → Knd H (.ref a)
  | tup {a : Addr} {xs : List V} : H a = some (.tup xs) → Knd H (.ref a)
  | dct {a : Addr} {kvs : List (Key × V)} : H a = some (.dK kvs) → Knd H (.ref a)
section
variable {X : Cx}
/-- thing == text -/
def rEqTS : R2 := fun x y H Q => ∃ z, y = .str z ∧ Knd H x ∧ Q (.bl (decide (x = .str z))) H
theorem dct_at {pins : List (Addr × Obj)} {σ : L2.St} {H : Hp} {s : Shared} (I : Inv X pins σ H s) {a : Addr} {kvs : List (Key × V)} (e : H a = some (.dK kvs)) : ∃ (o : Obj) (es : Array DictEntry) (ep : Nat), s.heap.get? a = some o ∧ o.cls = .type "dict" ∧ o.data = .dict es ep := by
  obtain ⟨_, _, vs, _, o, es, ep, ho, hx, hd, _⟩ := I.hok a _ e
  exact ⟨o, es, ep, ho, hx.1, hd⟩
theorem op_eqTS (hu : X.A.units + 64 < cLine) : OpR X (compareOp .Eq) rEqTS := by
  intro pins s σ H x y v u Q I rx ry h
  obtain ⟨z, rfl, hk, q⟩ := h
  have hu' : X.A.units < cLine := by omega
  obtain ⟨t', rfl⟩ := ry
  cases hk with
  | non => cases rx; exact SeqAt.RcAt.none_str z t' X.prog X.w _ _ ⟨.bl false, H, I, rfl, q⟩
  | bl b => cases rx; exact SeqAt.RcAt.bool_str b z t' X.prog X.w _ _ ⟨.bl false, H, I, rfl, q⟩
  | int i => obtain ⟨t, rfl⟩ := rx; exact SeqAt.RcAt.int_str i t z t' X.prog X.w _ _ ⟨.bl false, H, I, rfl, q⟩
  | str i =>
    exact op_eq pins s σ H _ (.str z) _ _ Q I rx ⟨t', rfl⟩ ⟨rfl, q⟩
  | lst e =>
    cases rx
    obtain ⟨its, r, pl, hz⟩ := I.list (SqL.of (K := X.K) e)
    exact SeqAt.RcAt.list_str z t' pl.isList hu' X.prog X.w _ _ ⟨.bl false, H, I, rfl, q⟩
  | tup e =>
    cases rx
    obtain ⟨its, r, pl, hz⟩ := I.tuple (SqT.of (K := X.K) e)
    exact SeqAt.RcAt.tuple_str z t' pl hu' X.prog X.w _ _ ⟨.bl false, H, I, rfl, q⟩
  | dct e =>
    cases rx
    obtain ⟨o, es, ep, ho, hc, hd⟩ := dct_at I e
    exact SeqAt.RcAt.dict_str z t' ho hc hd hu' X.prog X.w _ _ ⟨.bl false, H, I, rfl, q⟩
/-- thing in, or not in, a list or tuple of texts -/
def rInTS (K : PySem.W.Frag) (neg : Bool) : R2 := fun x y H Q => ∃ (p : Addr) (ws : List Str), y = .ref p ∧ (SqL K H p (ws.map V.str) ∨ SqT K H p (ws.map V.str)) ∧ Knd H x ∧ Q (.bl (if neg then !decide (x ∈ ws.map V.str) else decide (x ∈ ws.map V.str))) H
def eqTS (x : V) : Value → Bool
  | .str z _ => decide (x = .str z)
  | _ => false
theorem eqTS_at {pins : List (Addr × Obj)} {σ : L2.St} {H : Hp} {s : Shared} {A : Around} (I : Inv X pins σ H s) (hu : A.units < cLine) {x : V} {v : Value} (rx : RelV x v) (hk : Knd H x) {ws : List Str} {its : List Value} (r : Vals (ws.map V.str) its) : ∀ y ∈ its, SeqAt.EqAt A s y v (eqTS x y) := by
  intro y hy
  have hs : ∃ z t, y = .str z t := by
    clear hk rx
    induction its generalizing ws with
    | nil => cases hy
    | cons a r' ih =>
      cases ws with
      | nil => cases r
      | cons z zs =>
        cases r with
        | cons h1 h2 =>
          rcases List.mem_cons.mp hy with rfl | hy
          · obtain ⟨t, rfl⟩ := h1
            exact ⟨z, t, rfl⟩
          · exact ih h2 hy
  obtain ⟨z, t, rfl⟩ := hs
  cases hk with
  | non => cases rx; exact SeqAt.EqAt.str_none z t
  | bl b => cases rx; exact SeqAt.EqAt.str_bool z t b
  | int i => obtain ⟨t', rfl⟩ := rx; exact SeqAt.EqAt.str_int z t i t'
  | str i =>
    obtain ⟨t', rfl⟩ := rx
    have := SeqAt.EqAt.str_str (A := A) (s := s) z t i t'
    rw [show eqTS (.str i) (.str z t) = (z == i) from ?_]
    · exact this
    · show decide (V.str i = V.str z) = (z == i)
      by_cases e : i = z
      · subst e
        simp
      · rw [decide_eq_false (fun q => e (by injection q))]
        exact (beq_eq_false_iff_ne.mpr fun q => e q.symm).symm
  | lst e =>
    cases rx
    obtain ⟨its, r, pl, hz⟩ := I.list (SqL.of (K := X.K) e)
    exact SeqAt.EqAt.str_list z t pl.isList hu
  | tup e =>
    cases rx
    obtain ⟨its, r, pl, hz⟩ := I.tuple (SqT.of (K := X.K) e)
    exact SeqAt.EqAt.str_tuple z t pl hu
  | dct e =>
    cases rx
    obtain ⟨o, es, ep, ho, hc, hd⟩ := dct_at I e
    exact SeqAt.EqAt.str_dict z t ho hc hd hu
theorem any_eqTS {x : V} : ∀ {ws : List Str} {its : List Value}, Vals (ws.map V.str) its → its.any (eqTS x) = decide (x ∈ ws.map V.str)
  | [], _, r => by
    cases r
    simp
  | z :: zs, _, r => by
    cases r with
    | cons h1 h2 =>
      obtain ⟨t, rfl⟩ := h1
      rw [List.any_cons, any_eqTS h2, List.map_cons]
      show (decide (x = .str z) || _) = _
      rw [← Bool.decide_or]
      simp only [List.mem_cons]
theorem op_inTS (hu : X.A.units + 64 < cLine) : OpR X (compareOp .In) (rInTS X.K false) := by
  intro pins s σ H x y v u Q I rx ry h
  obtain ⟨p, ws, rfl, hq, hk, q⟩ := h
  cases ry
  have hu' : X.A.in1.units < cLine := by show X.A.units + 1 < cLine; omega
  rcases hq with hq | hq
  · obtain ⟨its, r, pl, hz⟩ := I.list hq
    refine SeqAt.in_listAt (eqTS x) pl.isList (fun w hw => eqTS_at I hu' rx hk r w (by simpa using hw)) ⟨.bl _, H, I, rfl, ?_⟩
    rw [show its.toArray.any (eqTS x) = its.any (eqTS x) by simp, any_eqTS r]
    exact q
  · obtain ⟨its, r, pl, hz⟩ := I.tuple hq
    refine SeqAt.in_tupleAt (eqTS x) pl (fun w hw => eqTS_at I hu' rx hk r w (by simpa using hw)) ⟨.bl _, H, I, rfl, ?_⟩
    rw [show its.toArray.any (eqTS x) = its.any (eqTS x) by simp, any_eqTS r]
    exact q
theorem op_notInTS (hu : X.A.units + 64 < cLine) : OpR X (compareOp .NotIn) (rInTS X.K true) := by
  intro pins s σ H x y v u Q I rx ry h
  obtain ⟨p, ws, rfl, hq, hk, q⟩ := h
  cases ry
  have hu' : X.A.in1.units < cLine := by show X.A.units + 1 < cLine; omega
  rcases hq with hq | hq
  · obtain ⟨its, r, pl, hz⟩ := I.list hq
    refine SeqAt.notIn_listAt (eqTS x) pl.isList (fun w hw => eqTS_at I hu' rx hk r w (by simpa using hw)) ⟨.bl _, H, I, rfl, ?_⟩
    rw [show its.toArray.any (eqTS x) = its.any (eqTS x) by simp, any_eqTS r]
    exact q
  · obtain ⟨its, r, pl, hz⟩ := I.tuple hq
    refine SeqAt.notIn_tupleAt (eqTS x) pl (fun w hw => eqTS_at I hu' rx hk r w (by simpa using hw)) ⟨.bl _, H, I, rfl, ?_⟩
    rw [show its.toArray.any (eqTS x) = its.any (eqTS x) by simp, any_eqTS r]
    exact q
/-- tuple != () -/
def rNeTE (K : PySem.W.Frag) : R2 := fun x y H Q => ∃ a b xs, x = .ref a ∧ y = .ref b ∧ SqT K H a xs ∧ SqT K H b [] ∧ Q (.bl (!xs.isEmpty)) H
theorem op_neTE (hu : X.A.units + 64 < cLine) : OpR X (compareOp .NotEq) (rNeTE X.K) := by
  intro pins s σ H x y v u Q I rx ry h
  obtain ⟨a, b, xs, rfl, rfl, ha, hb, q⟩ := h
  cases rx
  cases ry
  obtain ⟨its, r, pl, hz⟩ := I.tuple ha
  obtain ⟨its2, r2, pl2, hz2⟩ := I.tuple hb
  cases r2
  have hl := r.length
  refine SeqAt.RcNeAt.tuples (e := fun _ => true) pl pl2 (by omega) (fun j h1 h2 => absurd h2 (by simp)) X.prog X.w _ _ ⟨.bl _, H, I, rfl, ?_⟩
  have e : (!((List.range (min its.toArray.size ([] : List Value).toArray.size)).all (fun _ => true) && its.toArray.size == ([] : List Value).toArray.size)) = !xs.isEmpty := by
    cases xs with
    | nil =>
      have : its = [] := List.eq_nil_of_length_eq_zero (by rw [← hl]; rfl)
      subst this
      rfl
    | cons x xs =>
      cases its with
      | nil => simp at hl
      | cons i is => simp
  rw [e]
  exact q
/-- thing + number, thing - number, thing > number, of numbers and truths -/
def b2n (b : Bool) : Int := if b = true then 1 else 0
def numOf : V → Option Int
  | .int i => some i
  | .bl b => some (b2n b)
  | _ => none
theorem op_addTI : OpR X (binaryOp .Add) (fun x y H Q => ∃ i j, numOf x = some i ∧ y = .int j ∧ Q (.int (i + j)) H) := by
  intro pins s σ H x y v u Q I rx ry h
  obtain ⟨i, j, hx, rfl, q⟩ := h
  obtain ⟨t', rfl⟩ := ry
  cases x with
  | int k =>
    obtain ⟨t, rfl⟩ := rx
    injection hx with hx
    subst hx
    exact add_int ⟨.int _, H, I.tok _, ⟨_, rfl⟩, q⟩
  | bl k =>
    cases rx
    injection hx with hx
    subst hx
    exact PySem.IntBool.add_bool_int ⟨.int _, H, I.tok _, ⟨_, rfl⟩, q⟩
  | _ => cases hx
theorem op_subTI : OpR X (binaryOp .Sub) (fun x y H Q => ∃ i j, numOf x = some i ∧ y = .int j ∧ Q (.int (i - j)) H) := by
  intro pins s σ H x y v u Q I rx ry h
  obtain ⟨i, j, hx, rfl, q⟩ := h
  obtain ⟨t', rfl⟩ := ry
  cases x with
  | int k =>
    obtain ⟨t, rfl⟩ := rx
    injection hx with hx
    subst hx
    exact sub_int ⟨.int _, H, I.tok _, ⟨_, rfl⟩, q⟩
  | bl k =>
    cases rx
    injection hx with hx
    subst hx
    exact PySem.IntBool.sub_bool_int ⟨.int _, H, I.tok _, ⟨_, rfl⟩, q⟩
  | _ => cases hx
theorem op_gtTI : OpR X (compareOp .Gt) (fun x y H Q => ∃ i j, numOf x = some i ∧ y = .int j ∧ Q (.bl (decide (i > j))) H) := by
  intro pins s σ H x y v u Q I rx ry h
  obtain ⟨i, j, hx, rfl, q⟩ := h
  cases x with
  | int k =>
    injection hx with hx
    subst hx
    exact op_gt pins s σ H _ _ _ _ Q I rx ry ⟨_, _, rfl, rfl, q⟩
  | bl k =>
    obtain ⟨t', rfl⟩ := ry
    cases rx
    injection hx with hx
    subst hx
    exact SeqAt.gt_bool_int ⟨.bl _, H, I, rfl, q⟩
  | _ => cases hx
theorem str_of_bool {prog : Program} {w : World} {A : Around} {E : Value → Shared → Prop} {s : Shared} {b : Bool} {Q : Value → Shared → Prop} (h : Q (.str (if b then "True" else "False") s.toks) { s with toks := s.toks + 1 }) : wpAny (model prog w) A (call (.type "str") [.bool b]) Q E s :=
  callType_new F.called_str (by decide) (F.typeCall_str_1 _) (F.newCall_str_1 _) (fun obj => F.args_object_init_2 obj _) F.entry_str_new
    (meets_str_new (S := fun _ R s => R (.ok (.ret (.str (if b then "True" else "False") s.toks))) { s with toks := s.toks + 1 }) fun _ _ _ _ s hq =>
      wpAny_strOf_gives rfl (PySem.typeIs_bool s b) F.slot_bool_str F.slot_bool_repr F.entry_bool_repr (F.args_bool_repr_1 _) (gives_bool_repr b) hq (hsz := by cases b <;> decide)) ⟨typeIs_str _ _ _, h⟩
def strTI : V → Int → Str
  | .bl b, _ => if b then "True" else "False"
  | _, i => toString i
/-- str(thing) of a number or a truth: some text -/
theorem call_strTI : CallR X (.type "str") (fun xs H Q => ∃ x i, xs = [x] ∧ numOf x = some i ∧ i.natAbs.log2 < 1920 ∧ Q (.str (strTI x i)) H) := by
  intro pins s σ H xs us Q I r h
  obtain ⟨x, i, rfl, hx, hz, q⟩ := h
  obtain ⟨u, rfl, rx⟩ := vals1 r
  cases x with
  | int k =>
    obtain ⟨t, rfl⟩ := rx
    injection hx with hx
    subst hx
    exact PySem.P.str_of_int hz ⟨.str _, H, I.tok _, ⟨_, rfl⟩, q⟩
  | bl k =>
    cases rx
    exact str_of_bool ⟨.str _, H, I.tok _, ⟨_, rfl⟩, q⟩
  | _ => cases hx
end
end Deed

namespace Deed
open PySem PySem.Spec PyProof.Rows L2
/-! ### t[::-1] of a tuple -/
theorem fm_congr {α β : Type} {f g : α → Option β} : ∀ {l : List α}, (∀ x ∈ l, f x = g x) → l.filterMap f = l.filterMap g
  | [], _ => rfl
  | a :: l, h => by rw [List.filterMap_cons, List.filterMap_cons, h a List.mem_cons_self, fm_congr fun x hx => h x (List.mem_cons_of_mem _ hx)]
section
variable {prog : Program} {w : World} {A : Around} {E : Value → Shared → Prop} {s : Shared}
theorem revPick (xs : Array Value) : ((List.range xs.size).filterMap fun (m : Nat) => xs[(((xs.size : Int) - 1) + (m : Int) * (-1)).toNat]?).toArray = xs.toList.reverse.toArray := by
  rw [← PySem.W.krv_pick]
  unfold slicePick
  rw [PySem.W.krv_bounds]
  show _ = ((sliceRange ((xs.size : Int) - 1) (-1) (-1)).filterMap (xs[·]?)).toArray
  rw [PySem.W.krv_sliceRange, List.filterMap_map]
  congr 1
  refine fm_congr fun m hm => ?_
  have := List.mem_range.mp hm
  show xs[(((xs.size : Int) - 1) + (m : Int) * (-1)).toNat]? = xs[xs.size - 1 - m]?
  congr 1
  omega
theorem sliceApplied_rev {sl : Addr} {vs : Value} {n : Nat} {Q : Int × Int × Nat → Shared → Prop} (hs : s.heap.IsSliceOf sl .none .none vs) (ps : IsPart vs (some (-1)))
    (h : Q ((n : Int) - 1, -1, n) s) : wpAny (model prog w) A (Builtin.Slice.sliceApplied (.ref sl) (pure (n : Int))) Q E s := by
  obtain ⟨os, hos, hcs, hds⟩ := id hs
  unfold Builtin.Slice.sliceApplied Builtin.Slice.sliceFields
  refine wpAny_bind (wpAny_bind (wpAny_field hos hds (x := .none) rfl (wpAny_bind (wpAny_field hos hds (x := .none) rfl (wpAny_bind (wpAny_field hos hds (x := vs) rfl (wpAny_pure ?_)))))))
  refine wpAny_bind (HT.slicePart_ ps ?_)
  show wpAny _ _ (if ((-1 : Int) == 0) = true then _ else _) _ _ s
  rw [if_neg (by decide)]
  refine wpAny_bind (HT.slicePart_ .none (wpAny_bind (HT.slicePart_ .none (wpAny_bind (wpAny_pure ?_)))))
  show wpAny _ _ (match Builtin.Slice.sliceAdjust none none (-1) (n : Int) with | (lo, hi) => pure (lo, (-1 : Int), Builtin.Slice.slicePlaces lo hi (-1))) _ _ s
  have e : Builtin.Slice.sliceAdjust none none (-1) (n : Int) = ((n : Int) - 1, -1) := by
    unfold Builtin.Slice.sliceAdjust
    simp
  rw [e]
  show wpAny _ _ (pure ((n : Int) - 1, (-1 : Int), Builtin.Slice.slicePlaces ((n : Int) - 1) (-1) (-1))) _ _ s
  have e2 : Builtin.Slice.slicePlaces ((n : Int) - 1) (-1) (-1) = n := by
    unfold Builtin.Slice.slicePlaces
    simp
    omega
  rw [e2]
  exact wpAny_pure h
theorem getItem_tuple_rev {t sl : Addr} {items : Array Value} {vs : Value} {Q : Value → Shared → Prop} (ht : IsTup s.heap t items) (hs : s.heap.IsSliceOf sl .none .none vs) (ps : IsPart vs (some (-1)))
    (h : Q (.ref s.heap.objs.size) { s with heap := s.heap.push { cls := .type "tuple", data := .seq items.toList.reverse.toArray } })
    (hsz : items.size ≤ sizeLine) : wpAny (model prog w) A (getItem (.ref t) (.ref sl)) Q E s := by
  have htake : sizeOk (.seq items.toList.reverse.toArray) := by
    show items.toList.reverse.toArray.size ≤ sizeLine
    rw [List.size_toArray, List.length_reverse, Array.length_toList]
    omega
  obtain ⟨os, hos, hcs, hds⟩ := id hs
  have hTs : s.TypeIs (.ref sl) "slice" := ⟨os, hos, hcs⟩
  unfold getItem
  try with_reducible refine wpAny_holding ?_
  first | refine wpAny_bind (wpAny_pure ?_) | skip
  refine wpAny_bind (wpAny_sequenceKey ht.typeIs (by decide) ?_)
  refine wpAny_bind (wpAny_callSpecial?_slot (name := Str.ofString "__getitem__") ht.typeIs PyProof.Rows.slot_tuple_getitem
    (wpAny_call_entry PyProof.Rows.slot_tuple_getitem ht.typeIs entry_tuple_getitem ?_ (args_tuple_getitem _ _)))
  show wpAny _ _ (Builtin.Tuple.tupleItemsOf (.ref t) >>= _) _ _ s
  refine wpAny_bind (tupleItemsOf_ ht ?_)
  refine wpAny_bind (wpAny_typeOf hTs ?_)
  rw [if_pos (by decide)]
  refine wpAny_bind (sliceApplied_rev hs ps ?_)
  have hno : ¬ ((((items.size : Int) - 1) == 0 && (-1 : Int) == 1 && items.size == items.size) = true) := by
    intro q
    rw [Bool.and_eq_true, Bool.and_eq_true] at q
    exact absurd q.1.2 (by decide)
  show wpAny _ _ (if (((items.size : Int) - 1) == 0 && (-1 : Int) == 1 && items.size == items.size) = true then _ else _) _ _ s
  rw [if_neg hno, revPick]
  first
    | exact wpAny_bind (m := Builtin.Tuple.tupleExact _) (wpAny_newObj_type (wpAny_pure ⟨_, rfl, wpAny_pure h⟩) htake)
    | exact wpAny_bind (m := Builtin.Tuple.tupleExact _) (wpAny_newObj_type (wpAny_bind (wpAny_pure (wpAny_pure ⟨_, rfl, wpAny_pure h⟩))) htake)
    | exact wpAny_bind (wpAny_bind (m := Builtin.Tuple.tupleExact _) (wpAny_newObj_type (wpAny_pure (wpAny_pure ⟨_, rfl, wpAny_pure h⟩)) htake))
    | exact wpAny_bind (wpAny_bind (m := Builtin.Tuple.tupleExact _) (wpAny_newObj_type (wpAny_pure ⟨_, rfl, wpAny_pure h⟩) htake))
end
section
variable {X : Cx}
def tRevT (K : PySem.W.Frag) (te : TE) : TE := fun σ H Q => te σ H fun x H1 => ∃ a xs, x = .ref a ∧ SqT K H1 a xs ∧ ∀ p, H1 p = none → Q (.ref p) (upd H1 p (.tup xs.reverse))
theorem pe_revT {e : Expr} {te : TE} {k : Nat} {p1 p2 p3 pos : Pos} (he : PE X e te) : PE X (.Subscript e (.Slice none none (some (.UnaryOp .USub (.Constant (.int 1) k p1) p2)) p3) pos) (tRevT X.K te) := by
  refine ⟨fun pins s σ H Q I h => ?_⟩
  refine Subscript_ (thn (he.run pins s σ H _ I h) fun v s1 ⟨x, H1, I1, r1, q1⟩ => ?_)
  obtain ⟨a, xs, ex, hx, q⟩ := q1
  subst ex
  cases r1
  have hst : PO X (some (.UnaryOp .USub (.Constant (.int 1) k p1) p2)) (tPart (tUn (rU fun i => .int (-i)) (tC (.int 1)))) := po_some (pe_un un_neg pe_int)
  refine wpAny_Slice (thn (po_none.run pins s1 σ H1 (fun o H2 => o = none ∧ H2 = H1) I1 ⟨rfl, rfl⟩) fun vl s2 ⟨l, H2, I2, pl, el, e2⟩ => ?_)
  subst el e2
  refine thn (po_none.run pins s2 σ H2 (fun o H3 => o = none ∧ H3 = H2) I2 ⟨rfl, rfl⟩) fun vu s3 ⟨u, H3, I3, pu, eu, e3⟩ => ?_
  subst eu e3
  refine thn (hst.run pins s3 σ H3 (fun o H4 => o = some (-1) ∧ H4 = H3) I3 ⟨1, rfl, -1, rfl, rfl, rfl⟩) fun vs s4 ⟨o, H4, I4, ps, eo, e4⟩ => ?_
  subst eo e4
  have I5 : Inv X pins σ H4 { s4 with heap := s4.heap.push { cls := .type "slice", data := .fields #[vl, vu, vs] } } := I4.kept (t' := s4.toks) fun b ob q => Heap.get?_push_of_some _ q
  obtain ⟨its, r, ht, hz⟩ := I5.tuple hx
  have hlen := r.length
  cases pl
  cases pu
  show wpAny (model X.prog X.w) X.A (subscriptTail e (.Slice none none (some (.UnaryOp .USub (.Constant (.int 1) k p1) p2)) p3) (.ref a) (.ref s4.heap.objs.size)) (EP X pins σ Q) X.xe { s4 with heap := s4.heap.push { cls := .type "slice", data := .fields #[.none, .none, vs] } }
  refine tail_any (ops := [.ref a, .ref s4.heap.objs.size]) ht.typeIs (PyProof.Rows.slot_tuple_getitem.lookup) ?_ (by with_unfolding_all rfl)
  refine getItem_tuple_rev ht (Heap.IsSliceOf.new _ .none .none vs) ps ?_ (by rw [List.size_toArray]; omega)
  refine ⟨.ref _, _, I5.laid (t' := s4.toks) (o := .tup xs.reverse) (fun b ob q => Heap.get?_push_of_some _ q) (Nat.le_refl _) ?_, rfl, q _ (I5.hok.fresh (Nat.le_refl _))⟩
  exact ⟨by rw [List.length_reverse]; exact hz, its.reverse, r.reverse, IsTup.new _ _⟩
end
end Deed

namespace Deed
open PySem PySem.Spec PyProof.Rows L2 LamX
/-! ### a thing of whatever kind, as data -/
theorem Kp.noneG {p q : Addr} {H H' : Hp} (k : Kp p H H') (n : q ≠ p) (h : H' q = none) : H q = none := by
  cases e : H q with
  | none => rfl
  | some o => rw [k _ _ n e] at h; cases h
inductive Tg where
  | non | bl (b : Bool) | int (i : Int) | str (x : Str) | lst | tup (ts : List Tg) | dct
mutual
inductive TgAt (p : Addr) (H : Hp) : V → Tg → Prop
  | non : TgAt p H .non .non
  | bl (b : Bool) : TgAt p H (.bl b) (.bl b)
  | int (i : Int) : TgAt p H (.int i) (.int i)
  | str (x : Str) : TgAt p H (.str x) (.str x)
  | lst {a : Addr} {xs : List V} : a ≠ p → H a = some (.lst xs) → TgAt p H (.ref a) .lst
  | tup {a : Addr} {xs : List V} {ts : List Tg} : H a = some (.tup xs) → TgAll p H xs ts → TgAt p H (.ref a) (.tup ts)
  | dct {a : Addr} {kvs : List (Key × V)} : a ≠ p → H a = some (.dK kvs) → TgAt p H (.ref a) .dct
inductive TgAll (p : Addr) (H : Hp) : List V → List Tg → Prop
  | nil : TgAll p H [] []
  | cons {v : V} {vs : List V} {t : Tg} {ts : List Tg} : TgAt p H v t → TgAll p H vs ts → TgAll p H (v :: vs) (t :: ts)
end
section
variable {p : Addr} {H H' : Hp} {K : PySem.W.Frag}
mutual
theorem TgAt.kp (k : Kp p H H') (P : PenAt H p) : ∀ (t : Tg) (v : V), TgAt p H v t → TgAt p H' v t
  | .non, _, h => by cases h; exact .non
  | .bl _, _, h => by cases h; exact .bl _
  | .int _, _, h => by cases h; exact .int _
  | .str _, _, h => by cases h; exact .str _
  | .lst, _, h => by
    cases h with
    | lst n e => exact .lst n (k _ _ n e)
  | .tup ts, _, h => by
    cases h with
    | tup e ha => exact .tup (k.tup P _ _ e) (TgAll.kp k P ts _ ha)
  | .dct, _, h => by
    cases h with
    | dct n e => exact .dct n (k _ _ n e)
theorem TgAll.kp (k : Kp p H H') (P : PenAt H p) : ∀ (ts : List Tg) (vs : List V), TgAll p H vs ts → TgAll p H' vs ts
  | [], _, h => by cases h; exact .nil
  | t :: ts, _, h => by
    cases h with
    | cons h1 h2 => exact .cons (TgAt.kp k P t _ h1) (TgAll.kp k P ts _ h2)
end
mutual
theorem TgAt.same (k : Same H H') : ∀ (t : Tg) (v : V), TgAt p H v t → TgAt p H' v t
  | .non, _, h => by cases h; exact .non
  | .bl _, _, h => by cases h; exact .bl _
  | .int _, _, h => by cases h; exact .int _
  | .str _, _, h => by cases h; exact .str _
  | .lst, _, h => by
    cases h with
    | lst n e => exact .lst n (k _ _ e)
  | .tup ts, _, h => by
    cases h with
    | tup e ha => exact .tup (k _ _ e) (TgAll.same k ts _ ha)
  | .dct, _, h => by
    cases h with
    | dct n e => exact .dct n (k _ _ e)
theorem TgAll.same (k : Same H H') : ∀ (ts : List Tg) (vs : List V), TgAll p H vs ts → TgAll p H' vs ts
  | [], _, h => by cases h; exact .nil
  | t :: ts, _, h => by
    cases h with
    | cons h1 h2 => exact .cons (TgAt.same k t _ h1) (TgAll.same k ts _ h2)
end
mutual
/-- a list that changes stays a list -/
theorem TgAt.relist {M : Addr} {xs ys : List V} (e : H M = some (.lst xs)) : ∀ (t : Tg) (v : V), TgAt p H v t → TgAt p (upd H M (.lst ys)) v t
  | .non, _, h => by cases h; exact .non
  | .bl _, _, h => by cases h; exact .bl _
  | .int _, _, h => by cases h; exact .int _
  | .str _, _, h => by cases h; exact .str _
  | .lst, _, h => by
    cases h with
    | @lst a zs n e' =>
      by_cases ha : a = M
      · subst ha
        exact .lst n upd_same
      · exact .lst n (by rw [upd_ne ha]; exact e')
  | .tup ts, _, h => by
    cases h with
    | tup e' ha => exact .tup (by rw [upd_ne fun z => by rw [z, e] at e'; cases e']; exact e') (TgAll.relist e ts _ ha)
  | .dct, _, h => by
    cases h with
    | dct n e' => exact .dct n (by rw [upd_ne fun z => by rw [z, e] at e'; cases e']; exact e')
theorem TgAll.relist {M : Addr} {xs ys : List V} (e : H M = some (.lst xs)) : ∀ (ts : List Tg) (vs : List V), TgAll p H vs ts → TgAll p (upd H M (.lst ys)) vs ts
  | [], _, h => by cases h; exact .nil
  | t :: ts, _, h => by
    cases h with
    | cons h1 h2 => exact .cons (TgAt.relist e t _ h1) (TgAll.relist e ts _ h2)
end
theorem TgAll.length : ∀ {vs : List V} {ts : List Tg}, TgAll p H vs ts → vs.length = ts.length
  | _, [], h => by cases h; rfl
  | _, t :: ts, h => by
    cases h with
    | cons h1 h2 => rw [List.length_cons, List.length_cons, TgAll.length h2]
theorem TgAll.get : ∀ {vs : List V} {ts : List Tg} {i : Nat} {v : V}, TgAll p H vs ts → vs[i]? = some v → ∃ t, ts[i]? = some t ∧ TgAt p H v t
  | _, [], i, v, h, e => by
    cases h
    cases e
  | _, t :: ts, i, v, h, e => by
    cases h with
    | cons h1 h2 =>
      cases i with
      | zero =>
        injection e with e
        subst e
        exact ⟨t, rfl, h1⟩
      | succ i => exact TgAll.get (i := i) h2 (by simpa using e)
theorem TgAll.append : ∀ {vs : List V} {ts : List Tg} {vs' : List V} {ts' : List Tg}, TgAll p H vs ts → TgAll p H vs' ts' → TgAll p H (vs ++ vs') (ts ++ ts')
  | _, [], _, _, h, h' => by
    cases h
    exact h'
  | _, t :: ts, _, _, h, h' => by
    cases h with
    | cons h1 h2 => exact .cons h1 (TgAll.append h2 h')
theorem TgAll.take : ∀ {vs : List V} {ts : List Tg} (n : Nat), TgAll p H vs ts → TgAll p H (vs.take n) (ts.take n)
  | _, _, 0, _ => .nil
  | _, [], n + 1, h => by
    cases h
    exact .nil
  | _, t :: ts, n + 1, h => by
    cases h with
    | cons h1 h2 => exact .cons h1 (TgAll.take n h2)
theorem TgAll.drop : ∀ {vs : List V} {ts : List Tg} (n : Nat), TgAll p H vs ts → TgAll p H (vs.drop n) (ts.drop n)
  | _, _, 0, h => h
  | _, [], n + 1, h => by
    cases h
    exact .nil
  | _, t :: ts, n + 1, h => by
    cases h with
    | cons h1 h2 => exact TgAll.drop n h2
theorem TgAll.reverse : ∀ {vs : List V} {ts : List Tg}, TgAll p H vs ts → TgAll p H vs.reverse ts.reverse
  | _, [], h => by
    cases h
    exact .nil
  | _, t :: ts, h => by
    cases h with
    | cons h1 h2 =>
      rw [List.reverse_cons, List.reverse_cons]
      exact (TgAll.reverse h2).append (.cons h1 .nil)
theorem TgAll.cut {vs : List V} {ts : List Tg} (h : TgAll p H vs ts) (lo hi : Option Int) : ∃ ts', TgAll p H (cutV vs lo hi) ts' := ⟨_, (h.drop _).take _⟩
theorem TgAll.rep {vs : List V} {ts : List Tg} (h : TgAll p H vs ts) : ∀ k : Nat, TgAll p H (List.replicate k vs).flatten (List.replicate k ts).flatten
  | 0 => .nil
  | k + 1 => by
    rw [List.replicate_succ, List.replicate_succ, List.flatten_cons, List.flatten_cons]
    exact h.append (h.rep k)
theorem TgAll.ints : ∀ ns : List Int, TgAll p H (ns.map V.int) (ns.map Tg.int)
  | [] => .nil
  | n :: r => .cons (.int n) (TgAll.ints r)
theorem TgAll.mk {vs : List V} (h : ∀ v ∈ vs, ∃ t, TgAt p H v t) : ∃ ts, TgAll p H vs ts := by
  induction vs with
  | nil => exact ⟨[], .nil⟩
  | cons v r ih =>
    obtain ⟨t, ht⟩ := h v List.mem_cons_self
    obtain ⟨ts, hts⟩ := ih fun x hx => h x (List.mem_cons_of_mem _ hx)
    exact ⟨t :: ts, .cons ht hts⟩
theorem TgAll.mem {vs : List V} {ts : List Tg} (h : TgAll p H vs ts) {v : V} (hv : v ∈ vs) : ∃ t, t ∈ ts ∧ TgAt p H v t := by
  obtain ⟨i, hi, e⟩ := List.mem_iff_getElem.mp hv
  obtain ⟨t, ht, hat⟩ := h.get (i := i) (by rw [List.getElem?_eq_getElem hi, e])
  exact ⟨t, List.mem_of_getElem? ht, hat⟩
theorem TgAt.knd {v : V} {t : Tg} (h : TgAt p H v t) : Knd H v := by
  cases h with
  | non => exact .non
  | bl b => exact .bl b
  | int i => exact .int i
  | str x => exact .str x
  | lst _ e => exact .lst e
  | tup e _ => exact .tup e
  | dct _ e => exact .dct e
def Tg.ty : Tg → String
  | .non => "NoneType" | .bl _ => "bool" | .int _ => "int" | .str _ => "str" | .lst => "list" | .tup _ => "tuple" | .dct => "dict"
theorem TgAt.ty {v : V} {t : Tg} (h : TgAt p H v t) : TyX K H v (.type t.ty) := by
  cases h with
  | non => exact .base .non
  | bl b => exact .base (.bl b)
  | int i => exact .base (.int i)
  | str x => exact .base (.str x)
  | lst _ e => exact .base (.lst e)
  | tup e _ => exact .base (.tup e)
  | dct _ e => exact .base (.dK e)
def Tg.isI : Tg → Bool | .int _ => true | .bl _ => true | _ => false
def Tg.isB : Tg → Bool | .bl _ => true | _ => false
def Tg.isT : Tg → Bool | .tup _ => true | _ => false
def Tg.isS : Tg → Bool | .str _ => true | _ => false
def Tg.isL : Tg → Bool | .lst => true | _ => false
theorem Tg.kI (t : Tg) : kitB t.ty "int" = some t.isI := by cases t <;> (simp only [Tg.ty, Tg.isI]; decide +kernel)
theorem Tg.kB (t : Tg) : kitB t.ty "bool" = some t.isB := by cases t <;> (simp only [Tg.ty, Tg.isB]; decide +kernel)
theorem Tg.kT (t : Tg) : kitB t.ty "tuple" = some t.isT := by cases t <;> (simp only [Tg.ty, Tg.isT]; decide +kernel)
theorem Tg.kS (t : Tg) : kitB t.ty "str" = some t.isS := by cases t <;> (simp only [Tg.ty, Tg.isS]; decide +kernel)
theorem Tg.kL (t : Tg) : kitB t.ty "list" = some t.isL := by cases t <;> (simp only [Tg.ty, Tg.isL]; decide +kernel)
theorem TgAt.tupOf {v : V} {t : Tg} (h : TgAt p H v t) (ht : t.isT = true) : ∃ a xs ts, v = .ref a ∧ t = .tup ts ∧ H a = some (.tup xs) ∧ TgAll p H xs ts := by
  cases h with
  | tup e ha => exact ⟨_, _, _, rfl, rfl, e, ha⟩
  | _ => cases ht
end
end Deed

namespace Deed
open PySem PySem.Spec PyProof.Rows L2 LamX
/-! tuples put together and cut, whatever they are: what follows is shown once -/
theorem catA_same {K : PySem.W.Frag} {H : Hp} {a b : Addr} {xs ys : List V} {Q : VK} (ha : H a = some (.tup xs)) (hb : H b = some (.tup ys)) (hl : xs.length + ys.length ≤ 1000) (q : ∀ t H', Same H H' → H' t = some (.tup (xs ++ ys)) → Q (.ref t) H') : rCatA K (.ref a) (.ref b) H Q := by
  refine ⟨a, b, xs, ys, rfl, rfl, SqT.of ha, SqT.of hb, Nat.le_of_lt (small1000 hl), fun e => ?_, fun _ e => ?_, fun _ _ p np => q p _ (same_new np _) upd_same⟩
  · subst e
    exact q b H (same_refl _) hb
  · subst e
    exact q a H (same_refl _) (by rw [List.append_nil]; exact ha)
theorem slA_same {K : PySem.W.Frag} {H : Hp} {a : Addr} {xs : List V} {lo hi : Option Int} {Q : VK} (ha : H a = some (.tup xs)) (q : ∀ t H', Same H H' → H' t = some (.tup (cutV xs lo hi)) → Q (.ref t) H') : rSlA K (.ref a) lo hi H Q := by
  refine ⟨a, xs, rfl, SqT.of ha, fun e => ?_, fun _ p np => q p _ (same_new np _) upd_same⟩
  refine q a H (same_refl _) ?_
  rw [ha]
  unfold cutV
  rw [e.1, e.2, List.drop_zero, Nat.sub_zero, List.take_length]
end Deed

namespace Deed
open PySem PySem.Spec PyProof.Rows L2
/-! ### zip of lists and tuples in whatever mix: true is a list -/
def Sq2 (K : PySem.W.Frag) : Bool → Hp → Addr → List V → Prop
  | true, H, a, xs => SqL K H a xs
  | false, H, a, xs => SqT K H a xs
def IsB : Bool → Heap → Addr → Array Value → Prop
  | true, h, a, its => h.IsList a its
  | false, h, a, its => h.IsTuple a its
def IterB : Bool → Heap → Addr → Addr → Nat → Prop
  | true, h, it, a, i => h.IsListIter it a i
  | false, h, it, a, i => h.IsTupleIter it a i
theorem IterB.at {c : Bool} {h h' : Heap} {it a : Addr} {i : Nat} (x : IterB c h it a i) (k : ∀ o, h.get? it = some o → h'.get? it = some o) : IterB c h' it a i := by
  cases c with
  | true => exact Heap.IsListIter.at x k
  | false => exact Heap.IsTupleIter.at x k
theorem IterB.obj {c : Bool} {h : Heap} {it a : Addr} {i : Nat} (x : IterB c h it a i) : ∃ o, h.get? it = some o ∧ ∀ v, o.data ≠ .cell v := by
  cases c with
  | true =>
    obtain ⟨o, e, _, dt⟩ := x
    exact ⟨o, e, fun v q => by rw [dt] at q; cases q⟩
  | false =>
    obtain ⟨o, e, _, dt⟩ := x
    exact ⟨o, e, fun v q => by rw [dt] at q; cases q⟩
theorem drawsB {prog : Program} {w : World} {A : Around} (hh : A.handled = none) (c : Bool) (it l : Addr) (hne : l ≠ it) (items : Array Value) : Draws prog w A it [it, l] items.size (fun i v => items[i]? = some v) (fun i h => IterB c h it l i ∧ IsB c h l items) := by
  cases c with
  | true => exact Draws.list hh it l hne items
  | false => exact Draws.tuple hh it l hne items
section
variable {X : Cx} {pins : List (Addr × Obj)} {σ : L2.St} {H : Hp} {s : Shared}
theorem sq2_is {c : Bool} {a : Addr} {xs : List V} (I : Inv X pins σ H s) (q : Sq2 X.K c H a xs) : ∃ its, Vals xs its ∧ IsB c s.heap a its.toArray ∧ a < s.heap.objs.size := by
  cases c with
  | true =>
    obtain ⟨its, rv, pp, _⟩ := I.list q
    exact ⟨its, rv, pp.isList, pp.lt⟩
  | false =>
    obtain ⟨its, rv, pp, _⟩ := I.tuple q
    obtain ⟨oo, ho, _⟩ := id pp
    exact ⟨its, rv, pp, Heap.lt_size ho⟩
theorem sq2_inj {c : Bool} {a : Addr} {xs ys : List V} (I : Inv X pins σ H s) (q : Sq2 X.K c H a xs) (q' : Sq2 X.K c H a ys) : xs = ys := by
  cases c with
  | true => exact I.list_inj q q'
  | false => exact I.tuple_inj q q'
end
def ItzB (K : PySem.W.Frag) (c1 c2 : Bool) (a b : Addr) : It :=
  ⟨fun i H => ∃ (xs ys : List V) (x y : V), Sq2 K c1 H a xs ∧ Sq2 K c2 H b ys ∧ xs[i]? = some x ∧ ys[i]? = some y,
    fun i H v H' => ∃ T x y, v = .ref T ∧ H T = none ∧ H' = upd H T (.tup [x, y]) ∧ (∀ xs, Sq2 K c1 H a xs → xs[i]? = some x) ∧ ∀ ys, Sq2 K c2 H b ys → ys[i]? = some y,
    fun i H => ∃ xs ys : List V, Sq2 K c1 H a xs ∧ Sq2 K c2 H b ys ∧ i ≤ xs.length ∧ i ≤ ys.length ∧ (xs.length = i ∨ ys.length = i)⟩
theorem turn_zipB {P : Program} {w : World} {K : PySem.W.Frag} {elts : List Expr} {kk : Nat} {tpos : Pos} {c1 c2 : Bool} {a b z TI TO i1 i2 : Addr} (S : ZipSep2 z TI TO i1 i2 [i1, a] [i2, b]) (na : a ≠ i1) (nb : b ≠ i2) :
    Turn P w K (.Tuple elts kk tpos) (ItzB K c1 c2 a b) [z, TI, TO, i1, i2] z (fun i h => IsZip h z TI TO .none ∧ IsTupOf2 h TI (.ref i1) (.ref i2) ∧ (∃ x y, IsTupOf2 h TO x y) ∧ IterB c1 h i1 a i ∧ IterB c2 h i2 b i) where
  mem := List.mem_cons_self
  obj := fun i h st c hc => by
    obtain ⟨hz, hTI, ⟨x, y, hTO⟩, k1, k2⟩ := st
    rcases (show c = z ∨ c = TI ∨ c = TO ∨ c = i1 ∨ c = i2 by simpa using hc) with rfl | rfl | rfl | rfl | rfl
    · exact ⟨_, hz, fun v q => by cases q⟩
    · exact ⟨_, hTI, fun v q => by cases q⟩
    · exact ⟨_, hTO, fun v q => by cases q⟩
    · exact k1.obj
    · exact k2.obj
  keep := fun i h h' st k => by
    obtain ⟨hz, hTI, ⟨x, y, hTO⟩, k1, k2⟩ := st
    refine ⟨k z (by simp) _ hz, k TI (by simp) _ hTI, ⟨x, y, k TO (by simp) _ hTO⟩, ?_, ?_⟩
    · exact k1.at (k i1 (by simp))
    · exact k2.at (k i2 (by simp))
  item := by
    intro X eP ew eK cal i pins s σ H E I hf st hg
    subst eP ew eK
    obtain ⟨hz, hTI, ⟨x0, y0, hTO⟩, k1, k2⟩ := st
    obtain ⟨xs, ys, x, y, qa, qb, gx, gy⟩ := hg
    obtain ⟨va, ra, pa, _⟩ := sq2_is I qa
    obtain ⟨vb, rb, pb, _⟩ := sq2_is I qb
    obtain ⟨u, hu, ru⟩ := ra.get gx
    obtain ⟨t, ht, rt⟩ := rb.get gy
    have hh : X.A.in1.handled = none := I.ok.hd cal
    have zl : z < s.heap.objs.size := Heap.lt_size hz
    have li : i < va.toArray.size := by simpa using (List.getElem?_eq_some_iff.mp hu).1
    have lj : i < vb.toArray.size := by simpa using (List.getElem?_eq_some_iff.mp ht).1
    refine wpAny_pyNext_zipD2_item S (drawsB hh c1 i1 a na va.toArray) (drawsB hh c2 i2 b nb vb.toArray) hz hTI hTO ⟨k1, pa⟩ ⟨k2, pb⟩ li lj fun x1 x2 h1 tk p1 p2 z1 TO1 st1 st2 hT hsz hk => ?_
    obtain rfl : u = x1 := by simpa [hu] using p1
    obtain rfl : t = x2 := by simpa [ht] using p2
    refine ⟨_, rfl, wpAny_letOwnedTupleGo_zip (s := { s with heap := h1, toks := tk }) z1 fun h2 z2 sb => ?_⟩
    have hT2 : h2.get? s.heap.objs.size = some { cls := .type "tuple", data := .seq #[u, t] } := (sb.2 _ (Nat.ne_of_gt zl)).trans hT
    have ok : ObjOk X.prog X.w (upd H s.heap.objs.size (.tup [x, y])) h2 s.heap.objs.size (.tup [x, y]) := ⟨by show 2 ≤ sizeLine; decide, [u, t], .cons ru (.cons rt .nil), ⟨_, hT2, rfl, _, rfl⟩⟩
    have I2 : Inv X pins σ (upd H s.heap.objs.size (.tup [x, y])) { s with heap := h2, toks := tk } := by
      refine I.turnedNew (ch := [z, TI, TO, i1, i2]) (fun c o hc q => ?_) hf (Nat.le_refl _) ok
      simp only [List.mem_cons, List.not_mem_nil, or_false, not_or] at hc
      exact (sb.2 c hc.1).trans (hk c o hc.1 hc.2.2.1 hc.2.2.2.1 hc.2.2.2.2 q)
    refine ⟨.ref s.heap.objs.size, _, I2, rfl, ⟨_, x, y, rfl, I.hok.fresh (Nat.le_refl _), rfl, fun l hl => ?_, fun l hl => ?_⟩, ⟨z2, ?_, ⟨u, t, ?_⟩, ?_, ?_⟩, fun c hc => ?_⟩
    · rw [sq2_inj I hl qa]
      exact gx
    · rw [sq2_inj I hl qb]
      exact gy
    · exact (sb.2 _ S.TIz).trans (hk _ _ S.TIz S.TITO S.TIi1 S.TIi2 hTI)
    · exact (sb.2 _ S.TOz).trans TO1
    · exact st1.1.at fun o q => (sb.2 _ S.zi1.symm).trans q
    · exact st2.1.at fun o q => (sb.2 _ S.zi2.symm).trans q
    · have hlt : c < s.heap.objs.size := by
        obtain ⟨o1, e1, _⟩ := k1.obj
        obtain ⟨o2, e2, _⟩ := k2.obj
        rcases (show c = z ∨ c = TI ∨ c = TO ∨ c = i1 ∨ c = i2 by simpa using hc) with rfl | rfl | rfl | rfl | rfl
        · exact zl
        · exact Heap.lt_size hTI
        · exact Heap.lt_size hTO
        · exact Heap.lt_size e1
        · exact Heap.lt_size e2
      rw [upd_ne (Nat.ne_of_lt hlt)]
      exact (hf c hc).1
  done := by
    intro X eP ew eK cal i pins s σ H E I hf st hg
    subst eP ew eK
    obtain ⟨hz, hTI, ⟨x0, y0, hTO⟩, k1, k2⟩ := st
    obtain ⟨xs, ys, qa, qb, l1, l2, hend⟩ := hg
    obtain ⟨va, ra, pa, _⟩ := sq2_is I qa
    obtain ⟨vb, rb, pb, _⟩ := sq2_is I qb
    have hh : X.A.in1.handled = none := I.ok.hd cal
    have la := ra.length
    have lb := rb.length
    refine wpAny_pyNext_zipD2_end S (drawsB hh c1 i1 a na va.toArray) (drawsB hh c2 i2 b nb vb.toArray) hz hTI hTO ⟨k1, pa⟩ ⟨k2, pb⟩ (by simp; omega) (by simp; omega) (by simp; omega) fun h1 tk hk => ⟨rfl, ?_⟩
    refine I.turnedL (ch := [z, TI, TO, i1, i2]) (fun c o hc q => ?_) hf
    simp only [List.mem_cons, List.not_mem_nil, or_false, not_or] at hc
    exact hk c o hc.1 hc.2.2.1 hc.2.2.2.1 hc.2.2.2.2 q
  self := fun A i s Q E st q => wpAny_pyIter_zip st.1 q
theorem begB (c : Bool) (l : Addr) (its : Array Value) : ∃ o, Begins (.ref l) o (fun h => IsB c h l its) ∧ ∀ h it, h.get? it = some o → IterB c h it l 0 := by
  cases c with
  | true => exact ⟨_, begins_list l its, fun h it e => ⟨_, e, rfl, rfl⟩⟩
  | false => exact ⟨_, begins_tuple l its, fun h it e => ⟨_, e, rfl, rfl⟩⟩
theorem sep_new {m a b : Nat} (la : a < m) (lb : b < m) : ZipSep2 (m + 4) (m + 2) (m + 3) m (m + 1) [m, a] [m + 1, b] := by
  constructor <;> simp <;> (try constructor) <;> (try (first | (refine Nat.ne_of_gt ?_; omega) | (refine Nat.ne_of_lt ?_; omega)))
def iZipB (K : PySem.W.Frag) (c1 c2 : Bool) (ta : TA) : TI := fun σ H R => ta σ H fun vs H1 => ∃ a b xs ys, vs = [.ref a, .ref b] ∧ Sq2 K c1 H1 a xs ∧ Sq2 K c2 H1 b ys ∧ R (ItzB K c1 c2 a b) H1
theorem pi_zipB (c1 c2 : Bool) {X : Cx} {e e2 : Expr} {ta : TA} {p pos tpos : Pos} {elts : List Expr} {kk : Nat} (hg : Gl X "zip") (hm : X.mg "zip" = none) (ha : PA X [e, e2] ta)
    (hs : starEach [e, e2] X.env = (false, eval e X.env) :: starEach [e2] X.env := by rfl) (hp : (backTo pos (starEach [e2] X.env)).any (·.1) = false := by rfl) : PI X (.Tuple elts kk tpos) (.Call (.Name "zip" p) [e, e2] [] pos) (iZipB X.K c1 c2 ta) := by
  refine ⟨fun pins s σ H R I h => Call_ (ld_blt I hg hm PyProof.Rows.boot_zip (PyProof.Rows.callWith_type1 (thn (ha.run pos pins s σ H _ I h) fun us s1 ⟨vs, H1, I1, r1, q1⟩ => ?_) hs hp))⟩
  obtain ⟨a, b, xs, ys, ex, qa, qb, q⟩ := q1
  subst ex
  obtain ⟨va, ra, pa, la⟩ := sq2_is I1 qa
  obtain ⟨vb, rb, pb, lb⟩ := sq2_is I1 qb
  obtain ⟨o1, B1, it1⟩ := begB c1 a va.toArray
  obtain ⟨o2, B2, it2⟩ := begB c2 b vb.toArray
  cases r1 with
  | cons r rr =>
    cases rr with
    | cons r' rr =>
      cases rr
      cases r
      cases r'
      refine zip_begins2 B1 B2 pa pb fun h1 hz hTI hTO g1 g2 hsz hk => wpAny_pyIter_zip hz ?_
      have I2 : Inv X pins σ H1 { s1 with heap := h1 } := I1.kept (t' := s1.toks) hk
      have S := sep_new la lb
      refine ⟨s1.heap.objs.size + 4, [s1.heap.objs.size + 4, s1.heap.objs.size + 2, s1.heap.objs.size + 3, s1.heap.objs.size, s1.heap.objs.size + 1], _, _, H1, rfl, I2, turn_zipB S (Nat.ne_of_lt la) (Nat.ne_of_lt (Nat.lt_succ_of_lt lb)), ⟨hz, hTI, ⟨_, _, hTO⟩, it1 _ _ g1, it2 _ _ g2⟩, fun c hc => ?_, q⟩
      have hle : s1.heap.objs.size ≤ c := by
        simp only [List.mem_cons, List.not_mem_nil, or_false] at hc
        rcases hc with rfl | rfl | rfl | rfl | rfl
        · exact Nat.le_add_right _ 4
        · exact Nat.le_add_right _ 2
        · exact Nat.le_add_right _ 3
        · exact Nat.le_refl _
        · exact Nat.le_add_right _ 1
      exact I1.fpOk hle (I1.hok.fresh hle)
theorem walk_zipB {K : PySem.W.Frag} {c1 c2 : Bool} {a b : Addr} {xs ys : List V} {n : Nat} (hx : xs.length = n) (hy : ys.length = n) : Walk (ItzB K c1 c2 a b) n (fun H => Sq2 K c1 H a xs ∧ Sq2 K c2 H b ys) (YPair (fun i => xs[i]?) (fun i => ys[i]?)) := by
  refine ⟨fun i H hi q => ⟨xs, ys, xs[i], ys[i], q.1, q.2, ?_, ?_⟩, fun H q => ⟨xs, ys, q.1, q.2, by omega, by omega, .inl hx⟩, fun i H v H' _ q y => ?_⟩
  · exact List.getElem?_eq_getElem (by omega)
  · exact List.getElem?_eq_getElem (by omega)
  · obtain ⟨T, x, z, t1, t2, t3, t4, t5⟩ := y
    exact ⟨T, x, z, t1, t2, t3, t4 xs q.1, t5 ys q.2⟩
end Deed

namespace Deed
open PySem PySem.Spec PyProof.Rows L2
section
variable {X : Cx}
/-- x = {k: v for ..}, x an own name -/
theorem ps_setDc {i : Nat} {y : Str} {py : Pos} {kx vx tg iter : Expr} {ifs : List Expr} {scope : Scope} {own : List (Str × Nat)} {pos spos : Pos} {wi : TI} {g : TG} {tt : TT} {tk tv : TE} (cal : X.calm = true) (nd : X.N.Nodup) (yi : X.N[i]? = some y) (yl : X.env.scope.names.lookup y = some .local)
    (sw : swapsWith (.DictComp kx vx [⟨tg, iter, ifs, 0⟩] scope pos) (some (.Name y py)) spos.line X.env = pure true) (pi : PI X tg iter wi) (blk : BlkOk X.N X.env.scope scope own)
    (pg : ∀ (s : Shared) (H : Hp) (C : Addr) (cl : List (Str × Addr)) (fp : List Addr), PG (X.blk s H scope (compEnvC scope cl C X.env) fp) tg g) (pt : ∀ (s : Shared) (H : Hp) (C : Addr) (cl : List (Str × Addr)) (fp : List Addr), PTs (X.blk s H scope (compEnvC scope cl C X.env) fp) ifs tt)
    (pk : ∀ (s : Shared) (H : Hp) (C : Addr) (cl : List (Str × Addr)) (fp : List Addr), PE (X.blk s H scope (compEnvC scope cl C X.env) fp) kx tk) (pw : ∀ (s : Shared) (H : Hp) (C : Addr) (cl : List (Str × Addr)) (fp : List Addr), PE (X.blk s H scope (compEnvC scope cl C X.env) fp) vx tv)
    (fo : ∀ x, foldedSetIterable iter X.env x = pure x := by intro _; rfl) : PS X (.Assign [.Name y py] (.DictComp kx vx [⟨tg, iter, ifs, 0⟩] scope pos) spos) (tAsg (tDc wi g tt tk tv (own.map (·.2))) (gName i)) := by
  refine ⟨fun pins s σ H D I hh => ?_⟩
  rw [exec_Assign_Name_used _ _ _ _ sw]
  refine wpAny_bind (wpAny_standAt (wpAny_bind ?_))
  show wpAny _ X.A (do let _ ← comprehension (.DictComp kx vx [⟨tg, iter, ifs, 0⟩] scope pos) scope X.env (firstIterPos [⟨tg, iter, ifs, 0⟩] pos) newDict false (eval iter X.env) (some (assign (.Name y py) X.env))) _ _ s
  have ht : tDc wi g tt tk tv (own.map (·.2)) σ H (fun x H1 => gName i x σ H1 D.nx) := hh
  refine wpAny_bind (thn (dc_core (Qf := fun _ s' => SP X pins D .next s') cal nd I pi blk pg pt pk pw fo ht fun L C s1 m H1 I1 q nC fp => ?_) fun _ s2 hq => wpAny_pure (wpAny_pure hq))
  show wpAny _ _ (assign (.Name y py) X.env (.ref L)) _ _ _
  refine wpAny_assign_Name (store_ok2 (v := V.ref L) I1 nd yi (.inl yl) rfl (fun s2 I2 ⟨c, sb, hc⟩ => ?_) (.inr yl))
  obtain ⟨f0, f1, f2, f3, f4, f5⟩ := fp
  have nc : C ≠ c := by
    rcases hc with e | e
    · rw [e]
      exact f1
    · exact fun z => f4 y c e z.symm
  refine ⟨m, nC.sameBut sb nc, fun h3 sb3 => ⟨_, H1, ?_, q⟩⟩
  exact I2.turned (t' := s2.toks) (fun b o hb e => (sb3.2 b hb).trans e) f0 f1 f3 f4 f5
theorem swD_true {kx vx : Expr} {gs : List Comprehension} {scope : Scope} {pos py : Pos} {y : Str} {l : Nat} {env : Env} (fk : env.scope.kind = .function) (yl : env.scope.names.lookup y = some .local) (hl : (py.line == pos.line) = true)
    (no : (scope.names.any fun (n, k) => n == y && (k == .local || k == .cell)) = false) : swapsWith (.DictComp kx vx gs scope pos) (some (.Name y py)) l env = pure true := by
  have k1 : env.kindOf y = some .local := yl
  have k2 : env.blockKind = .function := by
    unfold Env.blockKind
    rw [fk]
    rfl
  unfold swapsWith
  simp only [k2, k1, no, Expr.pos, hl]
  rfl
end
end Deed

namespace Deed
open PySem PySem.Spec PyProof.Rows L2
/-! ### enumerate of a list or a tuple: true is a list -/
set_option maxHeartbeats 1000000 in
theorem enumNew1 {v : Value} {o : Obj} {G : Heap → Prop} (B : Begins v o G) :
    Meets (Builtin.«enumerate.__new__» ⟨[.type "enumerate", v], []⟩) (fun _ R t => G t.heap ∧ R (.ok (.ret (.ref (t.heap.push o).objs.size))) { t with heap := (t.heap.push o).push { cls := .type "enumerate", data := .fields #[.none, .bool false, .ref t.heap.objs.size, rawInt 0, .none, .none] } }) := by
  refine .of_wp fun prog w A R t h => ?_
  obtain ⟨hp, gs, dd, tk, os⟩ := t
  obtain ⟨hG, hR⟩ := h
  have sb := sub_enumerate
  have it1 : ∀ {A' : Around} {E : Value → Shared → Prop} {Q : Value → Shared → Prop}, Q (.ref hp.objs.size) ⟨hp.push o, gs, dd, tk, os⟩ → wpAny (model prog w) A' (pyIter v) Q E ⟨hp, gs, dd, tk, os⟩ := fun q => B.iter prog w _ _ ⟨hp, gs, dd, tk, os⟩ _ hG q
  wp_walk using it1
  refine wpAny_stack_any fun k => wpAny_pure ?_
  split
  · next c _ _ _ _ _ =>
    cases (c == Value.type "enumerate") <;> (wp_walk using it1; exact ⟨_, rfl, hR⟩)
  · wp_walk using it1
    exact ⟨_, rfl, hR⟩
section
variable {prog : Program} {w : World} {A : Around} {E : Value → Shared → Prop} {s : Shared}
theorem callEnum1 {v : Value} {o : Obj} {G : Heap → Prop} {Q : Value → Shared → Prop} (B : Begins v o G) (hG : G s.heap)
    (q : ∀ h1, IsEnum h1 (s.heap.objs.size + 1) s.heap.objs.size 0 .none → h1.get? s.heap.objs.size = some o → (∀ c x, s.heap.get? c = some x → h1.get? c = some x) → Q (.ref (s.heap.objs.size + 1)) { s with heap := h1 }) : wpAny (model prog w) A (call (.type "enumerate") [v]) Q E s := by
  refine callType_new F.called_enumerate (by decide) (F.typeCall_enumerate_1 v) (F.newCall_enumerate_1 v) (fun ob => F.args_object_init_2 ob v) F.entry_enumerate_new (enumNew1 B) ⟨hG, ?_⟩
  have sz : (s.heap.push o).objs.size = s.heap.objs.size + 1 := Heap.size_push ..
  show _ ∧ _
  rw [sz]
  have en := Heap.get?_push_size (s.heap.push o) (o := { cls := .type "enumerate", data := .fields #[.none, .bool false, .ref s.heap.objs.size, rawInt 0, .none, .none] }) rfl
  rw [sz] at en
  exact ⟨⟨_, en, rfl⟩, q _ en (Heap.get?_push_of_some _ (Heap.get?_push_size _ B.free)) fun c x z => Heap.get?_push_of_some _ (Heap.get?_push_of_some _ z)⟩
end
def ItEB (K : PySem.W.Frag) (c : Bool) (a : Addr) : It :=
  ⟨fun i H => ∃ (xs : List V) (x : V), Sq2 K c H a xs ∧ xs[i]? = some x,
    fun i H v H' => ∃ T x, v = .ref T ∧ H T = none ∧ H' = upd H T (.tup [.int (i : Nat), x]) ∧ ∀ xs, Sq2 K c H a xs → xs[i]? = some x,
    fun i H => ∃ xs : List V, Sq2 K c H a xs ∧ xs.length = i⟩
theorem turn_enumB {P : Program} {w : World} {K : PySem.W.Frag} {elts : List Expr} {kk : Nat} {tpos : Pos} {c : Bool} {a e it : Addr} (ne : e ≠ it) (na : a ≠ it) (nae : a ≠ e) :
    Turn P w K (.Tuple elts kk tpos) (ItEB K c a) [e, it] e (fun i h => (∃ old, IsEnum h e it ((i : Nat) : Int) old) ∧ IterB c h it a i) where
  mem := List.mem_cons_self
  obj := fun i h st b hb => by
    obtain ⟨⟨old, he⟩, k1⟩ := st
    rcases (show b = e ∨ b = it by simpa using hb) with rfl | rfl
    · exact ⟨_, he, fun v q => by cases q⟩
    · exact k1.obj
  keep := fun i h h' st k => by
    obtain ⟨⟨old, he⟩, k1⟩ := st
    exact ⟨⟨old, k e (by simp) _ he⟩, k1.at (k it (by simp))⟩
  item := by
    intro X eP ew eK cal i pins s σ H E I hf st hg
    subst eP ew eK
    obtain ⟨⟨old, he⟩, k1⟩ := st
    obtain ⟨xs, x, qa, gx⟩ := hg
    obtain ⟨va, ra, pa, _⟩ := sq2_is I qa
    obtain ⟨u, hu, ru⟩ := ra.get gx
    have hh : X.A.in1.handled = none := I.ok.hd cal
    have el : e < s.heap.objs.size := Heap.lt_size he
    have li : i < va.toArray.size := by simpa using (List.getElem?_eq_some_iff.mp hu).1
    refine wpAny_pyNext_enum_itemD (drawsB hh c it a na va.toArray) he ⟨k1, pa⟩ li ne (by simp [ne, nae.symm]) fun x1 h1 tk p1 ho st1 hT hsz hk => ?_
    obtain rfl : u = x1 := by simpa [hu] using p1
    refine ⟨_, rfl, wpAny_letOwnedTupleGo_enum (s := { s with heap := h1, toks := tk + 1 }) ho fun h2 e2 sb => ?_⟩
    have hT2 : h2.get? s.heap.objs.size = some { cls := .type "tuple", data := .seq #[.int i tk, u] } := (sb.2 _ (Nat.ne_of_gt el)).trans hT
    have ok : ObjOk X.prog X.w (upd H s.heap.objs.size (.tup [.int (i : Nat), x])) h2 s.heap.objs.size (.tup [.int (i : Nat), x]) := ⟨by show 2 ≤ sizeLine; decide, [.int i tk, u], .cons ⟨_, rfl⟩ (.cons ru .nil), ⟨_, hT2, rfl, _, rfl⟩⟩
    have I2 : Inv X pins σ (upd H s.heap.objs.size (.tup [.int (i : Nat), x])) { s with heap := h2, toks := tk + 1 } := by
      refine I.turnedNew (ch := [e, it]) (fun b o hb q => ?_) hf (Nat.le_refl _) ok
      simp only [List.mem_cons, List.not_mem_nil, or_false, not_or] at hb
      exact (sb.2 b hb.1).trans (hk b o hb.1 hb.2 q)
    refine ⟨.ref s.heap.objs.size, _, I2, rfl, ⟨_, x, rfl, I.hok.fresh (Nat.le_refl _), rfl, fun l hl => ?_⟩, ⟨⟨u, ?_⟩, ?_⟩, fun b hb => ?_⟩
    · rw [sq2_inj I hl qa]
      exact gx
    · rw [show ((i + 1 : Nat) : Int) = (i : Int) + 1 from rfl]
      exact e2
    · exact st1.1.at fun o q => (sb.2 _ ne.symm).trans q
    · have hlt : b < s.heap.objs.size := by
        obtain ⟨o1, e1, _⟩ := k1.obj
        rcases (show b = e ∨ b = it by simpa using hb) with rfl | rfl
        · exact el
        · exact Heap.lt_size e1
      rw [upd_ne (Nat.ne_of_lt hlt)]
      exact (hf b hb).1
  done := by
    intro X eP ew eK cal i pins s σ H E I hf st hg
    subst eP ew eK
    obtain ⟨⟨old, he⟩, k1⟩ := st
    obtain ⟨xs, qa, rfl⟩ := hg
    obtain ⟨va, ra, pa, _⟩ := sq2_is I qa
    have hh : X.A.in1.handled = none := I.ok.hd cal
    have la : va.toArray.size = xs.length := by simpa using ra.length.symm
    refine wpAny_pyNext_enum_endD (drawsB hh c it a na va.toArray) he ⟨by rw [la]; exact k1, pa⟩ fun h1 ex => ⟨rfl, ?_⟩
    refine I.turnedL (t' := s.toks) (ch := [e, it]) (fun b o hb q => ?_) hf
    simp only [List.mem_cons, List.not_mem_nil, or_false, not_or] at hb
    exact ex b o hb.2 q
  self := fun A i s Q E st q => by
    obtain ⟨⟨old, he⟩, _⟩ := st
    exact wpAny_pyIter_enum he q
def iEnumB (K : PySem.W.Frag) (c : Bool) (ta : TA) : TI := fun σ H R => ta σ H fun vs H1 => ∃ a xs, vs = [.ref a] ∧ Sq2 K c H1 a xs ∧ R (ItEB K c a) H1
theorem pi_enumB (c : Bool) {X : Cx} {x : Expr} {ta : TA} {p pos tpos : Pos} {elts : List Expr} {kk : Nat} (hg : Gl X "enumerate") (hm : X.mg "enumerate" = none) (ha : PA X [x] ta) (hs : starEach [x] X.env = [(false, eval x X.env)] := by rfl) : PI X (.Tuple elts kk tpos) (.Call (.Name "enumerate" p) [x] [] pos) (iEnumB X.K c ta) := by
  refine ⟨fun pins s σ H R I h => Call_ (ld_blt I hg hm boot_enumerate (PyProof.Rows.callWith_type1 (thn (ha.run pos pins s σ H _ I h) fun us s1 ⟨vs, H1, I1, r1, q1⟩ => ?_) hs rfl))⟩
  obtain ⟨a, xs, ex, qa, q⟩ := q1
  subst ex
  obtain ⟨va, ra, pa, la⟩ := sq2_is I1 qa
  obtain ⟨o1, B1, it1⟩ := begB c a va.toArray
  cases r1 with
  | cons r rr =>
    cases rr
    cases r
    refine callEnum1 B1 pa fun h1 he g1 hk => wpAny_pyIter_enum he ?_
    have I2 : Inv X pins σ H1 { s1 with heap := h1 } := I1.kept (t' := s1.toks) hk
    refine ⟨s1.heap.objs.size + 1, [s1.heap.objs.size + 1, s1.heap.objs.size], _, _, H1, rfl, I2, turn_enumB (Nat.succ_ne_self _) (Nat.ne_of_lt la) (Nat.ne_of_lt (Nat.lt_succ_of_lt la)), ⟨⟨.none, he⟩, it1 _ _ g1⟩, fun b hb => ?_, q⟩
    have hle : s1.heap.objs.size ≤ b := by
      rcases (show b = s1.heap.objs.size + 1 ∨ b = s1.heap.objs.size by simpa using hb) with rfl | rfl
      · exact Nat.le_add_right _ 1
      · exact Nat.le_refl _
    exact I1.fpOk hle (I1.hok.fresh hle)
theorem walk_enumB {K : PySem.W.Frag} {c : Bool} {a : Addr} {xs : List V} : Walk (ItEB K c a) xs.length (fun H => Sq2 K c H a xs) (YPair (fun i => some (.int (i : Nat))) (fun i => xs[i]?)) := by
  refine ⟨fun i H hi q => ⟨xs, xs[i], q, List.getElem?_eq_getElem hi⟩, fun H q => ⟨xs, q, rfl⟩, fun i H v H' _ q y => ?_⟩
  obtain ⟨T, x, t1, t2, t3, t4⟩ := y
  exact ⟨T, .int (i : Nat), x, t1, t2, t3, rfl, t4 xs q⟩
end Deed

namespace Deed
open PySem PySem.Spec PyProof.Rows L2 LamX
def MgInt (mg : Str → Option Value) (x : Str) (i : Int) : Prop := ∃ t, mg x = some (.int i t)
theorem pe_num {X : Cx} {x : Str} {i : Int} {pos : Pos} (hg : Gl X x) (h : MgInt X.mg x i) (hd : (x == ("__debug__" : Str)) = false := by decide) : PE X (.Name x pos) (tC (.int i)) := by
  obtain ⟨t, h⟩ := h
  exact pe_glob hg h ⟨t, rfl⟩ hd
end Deed

namespace Deed
open PySem PySem.Spec PyProof.Rows L2 LamX
/-! ### what a thing is: yes or no -/
def Tg.toI : Tg → Int | .int i => i | _ => 0
def Tg.isW : Tg → Bool | .int _ => true | _ => false
def Tg.within (lo hi : Int) : Tg → Bool | .int i => decide (lo ≤ i) && decide (i ≤ hi) | _ => false
theorem Tg.within_int {lo hi : Int} {t : Tg} (h : t.within lo hi = true) : ∃ i, t = .int i ∧ lo ≤ i ∧ i ≤ hi := by
  cases t with
  | int i =>
    unfold Tg.within at h
    rw [Bool.and_eq_true] at h
    exact ⟨i, rfl, of_decide_eq_true h.1, of_decide_eq_true h.2⟩
  | _ => cases h
theorem len1 {α : Type} : ∀ {l : List α}, l.length = 1 → ∃ a, l = [a]
  | [a], _ => ⟨a, rfl⟩
  | [], h => nomatch h
  | _ :: _ :: _, h => by simp at h
theorem len2 {α : Type} : ∀ {l : List α}, l.length = 2 → ∃ a b, l = [a, b]
  | [a, b], _ => ⟨a, b, rfl⟩
  | [], h => nomatch h
  | [_], h => nomatch h
  | _ :: _ :: _ :: _, h => by simp at h
theorem len4 {α : Type} : ∀ {l : List α}, l.length = 4 → ∃ a b c d, l = [a, b, c, d]
  | [a, b, c, d], _ => ⟨a, b, c, d, rfl⟩
  | [], h => nomatch h
  | [_], h => nomatch h
  | [_, _], h => nomatch h
  | [_, _, _], h => nomatch h
  | _ :: _ :: _ :: _ :: _ :: _, h => by simp at h
theorem len6 {α : Type} : ∀ {l : List α}, 6 ≤ l.length → ∃ a b c d e f r, l = a :: b :: c :: d :: e :: f :: r
  | a :: b :: c :: d :: e :: f :: r, _ => ⟨a, b, c, d, e, f, r, rfl⟩
  | [], h => by simp at h
  | [_], h => by simp at h
  | [_, _], h => by simp at h
  | [_, _, _], h => by simp at h
  | [_, _, _, _], h => by simp at h
  | [_, _, _, _, _], h => by simp at h
def spB1 (φ : Tg → Bool) : Sp := fun vs H Q _ => ∃ (p : Addr) (v : V) (t : Tg), vs = [v] ∧ TgAt p H v t ∧ ∀ H', Same H H' → Q (.bl (φ t)) H'
theorem all_map_id {α : Type} (φ : α → Bool) (l : List α) : (l.map φ).all id = l.all φ := by
  induction l with
  | nil => rfl
  | cons a r ih => simp [ih]
theorem TgAll.at {p : Addr} {H : Hp} {xs : List V} {ts : List Tg} {i : Nat} {x : V} {y : Tg} (h : TgAll p H xs ts) (hx : xs[i]? = some x) (hy : ts[i]? = some y) : TgAt p H x y := by
  obtain ⟨t, e, ht⟩ := h.get hx
  rw [hy] at e
  injection e with e
  rw [e]
  exact ht
section
variable {P : Program} {w : World} {K : PySem.W.Frag} {mg : Str → Option Value} {base : Heap}
abbrev sIsWhole : Stmt := topS 1
abbrev nIsWhole : List Str := ["thing"]
abbrev pIsWhole : List Str := ["thing"]
theorem scIsWhole : FnScope nIsWhole pIsWhole (defScope sIsWhole) := ⟨rfl, rfl, rfl, by decide +kernel, rfl, by decide +kernel, by decide +kernel⟩
theorem ok_IsWhole {f : Addr} {fd : FuncData} {k : Nat} (F : Fun K "is_whole" "is_whole" sIsWhole f fd) (m_isinstance : mg "isinstance" = none) (m_int : mg "int" = none) (m_bool : mg "bool" = none) : FnOk P w K mg base CX0 (k + 1) f fd pIsWhole (spB1 Tg.isW) := by
  refine F.ok scIsWhole (fun vs H Q E h => ?_) (fun cdv A outer s H vs Q E hr h => ?_)
  · obtain ⟨p, v, t, rfl, _⟩ := h
    rfl
  · obtain ⟨p, v, t, rfl, hT, q⟩ := h
    refine ⟨_, pss_one (ps_ret (pe_and (pe_callB call_isi (by rfl) m_isinstance (by decide +kernel) (pa_cons (pv 0) (pa_cons (pe_bltn (v := .ty "int") (by rfl) m_int (by decide +kernel) rfl) pa_nil))) (pe_one (pe_not (pe_callB call_isi (by rfl) m_isinstance (by decide +kernel) (pa_cons (pv 0) (pa_cons (pe_bltn (v := .ty "bool") (by rfl) m_bool (by decide +kernel) rfl) pa_nil))))))), ?_⟩
    refine ⟨_, rfl, _, _, _, _, t.isI, rfl, .ty "int", hT.ty, kit_ty t.kI, _, rfl, ?_⟩
    refine ite2 (fun c => ?_) (fun c => ?_)
    · refine ⟨_, rfl, _, _, _, _, t.isB, rfl, .ty "bool", hT.ty, kit_ty t.kB, _, rfl, ?_⟩
      rw [show (!t.isB) = t.isW by cases t <;> first | rfl | cases c]
      exact q _ (same_refl _)
    · have h := q _ (same_refl _)
      have e : t.isW = false := by cases t <;> first | rfl | exact absurd rfl c
      rw [e] at h
      exact h
def spWi : Sp := fun vs H Q _ => ∃ (p : Addr) (v : V) (t : Tg) (lo hi : Int), vs = [v, .int lo, .int hi] ∧ TgAt p H v t ∧ ∀ H', Same H H' → Q (.bl (t.within lo hi)) H'
abbrev sIsWithin : Stmt := topS 2
abbrev nIsWithin : List Str := ["thing", "low", "high"]
abbrev pIsWithin : List Str := ["thing", "low", "high"]
theorem scIsWithin : FnScope nIsWithin pIsWithin (defScope sIsWithin) := ⟨rfl, rfl, rfl, by decide +kernel, rfl, by decide +kernel, by decide +kernel⟩
theorem ok_IsWithin {f : Addr} {fd : FuncData} {k : Nat} (F : Fun K "is_within" "is_within" sIsWithin f fd) (C_is_whole : CallOk P w K mg base k "is_whole" pIsWhole (spB1 Tg.isW)) : FnOk P w K mg base CX0 (k + 1) f fd pIsWithin spWi := by
  refine F.ok scIsWithin (fun vs H Q E h => ?_) (fun cdv A outer s H vs Q E hr h => ?_)
  · obtain ⟨p, v, t, lo, hi, rfl, _⟩ := h
    rfl
  · obtain ⟨p, v, t, lo, hi, rfl, hT, q⟩ := h
    refine ⟨_, pss_one (ps_ret (pe_and (pe_call C_is_whole.ok hr (by rfl) C_is_whole.g C_is_whole.kp C_is_whole.b .nil pass0 (pa_cons (pv 0) pa_nil)) (pe_one (pe_chain op_le op_le (pv 1) (pv 0) (pv 2))))), ?_⟩
    refine ⟨_, rfl, p, v, t, rfl, hT, fun H1 s1 => ⟨_, rfl, ?_⟩⟩
    have q1 := q _ s1
    cases hT with
    | int i =>
      refine iteT ?_
      refine ⟨_, rfl, _, rfl, _, _, rfl, rfl, _, rfl, ?_⟩
      have q2 : Q (.bl (decide (lo ≤ i) && decide (i ≤ hi))) H1 := q1
      refine ite2 (fun c => ?_) (fun c => ?_)
      · have c' : decide (lo ≤ i) = true := c
        rw [c', Bool.true_and] at q2
        exact ⟨_, rfl, _, _, rfl, rfl, q2⟩
      · have c' : decide (lo ≤ i) = false := Bool.eq_false_iff.mpr c
        rw [c', Bool.false_and] at q2
        exact q2
    | _ => exact iteF q1
end
end Deed

namespace Deed
open PySem PySem.Spec PyProof.Rows L2 LamX
theorem TgAll.ofInts {p : Addr} {H : Hp} : ∀ {xs : List V} {ts : List Tg} {lo hi : Int}, TgAll p H xs ts → ts.all (Tg.within lo hi) = true → xs = (ts.map Tg.toI).map V.int ∧ ts = (ts.map Tg.toI).map Tg.int
  | _, [], _, _, h, _ => by
    cases h
    exact ⟨rfl, rfl⟩
  | _, t :: ts, lo, hi, h, ha => by
    rw [List.all_cons, Bool.and_eq_true] at ha
    cases h with
    | cons h1 h2 =>
      obtain ⟨e1, e2⟩ := TgAll.ofInts h2 ha.2
      obtain ⟨i, rfl, _⟩ := Tg.within_int ha.1
      cases h1
      exact ⟨by rw [List.map_cons, List.map_cons, ← e1]; rfl, by rw [List.map_cons, List.map_cons, ← e2]; rfl⟩
theorem TgAll.int_only {p : Addr} {H : Hp} : ∀ {rs : List Int} {xs : List V}, TgAll p H xs (rs.map Tg.int) → xs = rs.map V.int
  | [], _, h => by
    cases h
    rfl
  | i :: r, _, h => by
    cases h with
    | cons h1 h2 =>
      cases h1
      rw [TgAll.int_only h2]
      rfl
theorem log_small {i : Int} (h : i.natAbs < 2 ^ 64) : i.natAbs.log2 < 1920 := by
  by_cases h0 : i.natAbs = 0
  · rw [h0]
    decide
  · have := (Nat.log2_lt h0).mpr h
    omega
theorem rising_oneG : ∀ {l m : List Int}, l.Pairwise (· < ·) → m.Pairwise (· < ·) → (∀ x, x ∈ l ↔ x ∈ m) → l = m
  | [], [], _, _, _ => rfl
  | [], y :: m, _, _, h => absurd ((h y).mpr List.mem_cons_self) (by simp)
  | x :: l, [], _, _, h => absurd ((h x).mp List.mem_cons_self) (by simp)
  | x :: l, y :: m, h1, h2, h => by
    have a1 := List.pairwise_cons.mp h1
    have a2 := List.pairwise_cons.mp h2
    have exy : x = y := by
      have m1 := (h x).mp List.mem_cons_self
      have m2 := (h y).mpr List.mem_cons_self
      rcases List.mem_cons.mp m1 with e | e
      · exact e
      · rcases List.mem_cons.mp m2 with e' | e'
        · exact e'.symm
        · have := a1.1 y e'
          have := a2.1 x e
          omega
    subst exy
    congr 1
    refine rising_oneG a1.2 a2.2 fun z => ?_
    constructor
    · intro hz
      rcases List.mem_cons.mp ((h z).mp (List.mem_cons_of_mem _ hz)) with e | e
      · have := a1.1 z hz
        omega
      · exact e
    · intro hz
      rcases List.mem_cons.mp ((h z).mpr (List.mem_cons_of_mem _ hz)) with e | e
      · have := a2.1 z hz
        omega
      · exact e
section
variable {X : Cx}
def rSetTu (K : PySem.W.Frag) (w : World) : List V → Hp → VK → Prop := fun xs H Q => ∃ (a : Addr) (ns : List Int), xs = [V.ref a] ∧ SqT K H a (ns.map V.int) ∧ ns.length + 1 < scanBound ∧ ∀ (p : Addr) (c : Nat), H p = none → c ≤ ns.length → Q (.ref p) (upd H p (SetO w p (fun j => decide (j ∈ ns)) c))
theorem cr_setTu (hc : X.calm = true) : CallR X (.type "set") (rSetTu X.K X.w) := by
  intro pins s σ H vs us Q I r h
  obtain ⟨a, ns, rfl, hs, hb, q⟩ := h
  obtain ⟨its, rv, hl, hz⟩ := I.tuple hs
  rw [Vals.ref1 r]
  refine call_set_tupI ns (I.ok.hd hc) hl (by simpa using rv.ints) hb fun h' tk c R lc kp => ?_
  exact ⟨.ref _, _, I.laid (t' := tk) kp (Nat.le_refl _) (setO_new R), rfl, q _ c (I.hok.fresh (Nat.le_refl _)) lc⟩
end
end Deed

namespace Deed
open PySem PySem.Spec PyProof.Rows L2 LamX
/-! ### a lost book: words of copies, of whatever kind -/
def wordOkT : Tg → Int → Int → Bool
  | .str z, d, o => decide (z ∈ [("at" : Str), "not"]) || (decide (z = "ahead") && !decide (d = o))
  | _, _, _ => false
def isCwT (n : Int) : Tg → Bool
  | .tup [w, d, o] => d.within 0 (n - 1) && (o.within 0 (n - 1) && wordOkT w d.toI o.toI)
  | _ => false
def areCwT (n : Int) : Tg → Bool
  | .tup ts => decide (ts.length ≤ 8) && ts.all (isCwT n)
  | _ => false
theorem str_in_map {z : Str} {ws : List Str} : (V.str z ∈ ws.map V.str) ↔ z ∈ ws := by
  constructor
  · intro h
    obtain ⟨y, hy, e⟩ := List.mem_map.mp h
    injection e with e
    rw [← e]
    exact hy
  · exact fun h => List.mem_map.mpr ⟨z, h, rfl⟩
theorem word_at {p : Addr} {H : Hp} {v : V} {t : Tg} (h : TgAt p H v t) (d o : Int) : wordOkT t d o = (decide (v ∈ ([("at" : Str), "not"] : List Str).map V.str) || (decide (v = .str "ahead") && !decide (d = o))) := by
  cases h with
  | str x =>
    show (decide (x ∈ [("at" : Str), "not"]) || (decide (x = "ahead") && !decide (d = o))) = _
    congr 1
    · exact decide_eq_decide.mpr str_in_map.symm
    · congr 1
      exact decide_eq_decide.mpr ⟨fun e => by rw [e], fun e => by injection e⟩
  | _ =>
    refine Eq.symm (show _ = false from ?_)
    rw [Bool.or_eq_false_iff]
    exact ⟨decide_eq_false (by simp), by rw [decide_eq_false (by simp)]; rfl⟩
section
variable {P : Program} {w : World} {K : PySem.W.Frag} {mg : Str → Option Value} {base : Heap}
abbrev sIsCw : Stmt := topS 10
abbrev nIsCw : List Str := ["size", "thing", "word", "deed", "other"]
abbrev pIsCw : List Str := ["size", "thing"]
theorem scIsCw : FnScope nIsCw pIsCw (defScope sIsCw) := ⟨rfl, rfl, rfl, by decide +kernel, rfl, by decide +kernel, by decide +kernel⟩
def spIsCw : Sp := fun vs H Q _ => ∃ (p : Addr) (n : Int) (v : V) (t : Tg), vs = [.int n, v] ∧ TgAt p H v t ∧ ∀ H', Same H H' → Q (.bl (isCwT n t)) H'
theorem ok_IsCw {f : Addr} {fd : FuncData} {k : Nat} (F : Fun K "is_copy_word" "is_copy_word" sIsCw f fd) (C_is_within : CallOk P w K mg base k "is_within" pIsWithin spWi) (m_isinstance : mg "isinstance" = none) (m_tuple : mg "tuple" = none) (m_len : mg "len" = none) : FnOk P w K mg base CX0 (k + 1) f fd pIsCw spIsCw := by
  refine F.ok scIsCw (fun vs H Q E h => ?_) (fun cdv A outer s H vs Q E hr h => ?_)
  · obtain ⟨p, n, v, t, rfl, _⟩ := h
    rfl
  · obtain ⟨p, n, v, t, rfl, hT, q⟩ := h
    have nd := scIsCw.nd
    refine ⟨_, pss_cons (ps_if (PW.pt (pw_or (pt_not (pt_val (pe_callB call_isi (by rfl) m_isinstance (by decide +kernel) (pa_cons (pv 1) (pa_cons (pe_bltn (v := .ty "tuple") (by rfl) m_tuple (by decide +kernel) rfl) pa_nil))))) (pw_or1 (pt_cmpR op_ne (pe_callB call_len_seq (by rfl) m_len (by decide +kernel) (pa_cons (pv 1) pa_nil)) pe_int (nomark _))))) (pss_one (ps_ret pe_bl)) pss_nil)
      (pss_cons (ps_asg (pv 1) (pg_tup (by rfl) (pgs_cons (pg_name (i := 2) nd rfl (.inl rfl)) (pgs_cons (pg_name (i := 3) nd rfl (.inl rfl)) (pgs_cons (pg_name (i := 4) nd rfl (.inl rfl)) pgs_nil)))))
      (pss_cons (ps_if (PW.pt (pw_or (pt_not (pt_val (pe_call C_is_within.ok hr (by rfl) C_is_within.g C_is_within.kp C_is_within.b .nil pass0 (pa_cons (pv 3) (pa_cons pe_int (pa_cons (pe_op op_sub (pv 0) pe_int) pa_nil)))))) (pw_or1 (pt_not (pt_val (pe_call C_is_within.ok hr (by rfl) C_is_within.g C_is_within.kp C_is_within.b .nil pass0 (pa_cons (pv 4) (pa_cons pe_int (pa_cons (pe_op op_sub (pv 0) pe_int) pa_nil))))))))) (pss_one (ps_ret pe_bl)) pss_nil)
      (pss_one (ps_ret (pe_or (pe_cmpR (op_inTS hr.units) (pv 2) (pe_tup (pa_cons pe_str (pa_cons pe_str pa_nil))) (by rfl)) (pe_one (pe_and (pe_cmpR (op_eqTS hr.units) (pv 2) pe_str (nomark _)) (pe_one (pe_cmpR op_ne (pv 3) (pv 4) (nomark _)))))))))), ?_⟩
    refine ⟨_, rfl, _, _, _, _, t.isT, rfl, .ty "tuple", hT.ty, kit_ty t.kT, _, rfl, ?_⟩
    cases hc : t.isT with
    | false =>
      refine iteT ?_
      have h := q _ (same_refl _)
      have e : isCwT n t = false := by cases t <;> first | rfl | cases hc
      rw [e] at h
      exact h
    | true =>
    refine iteF ?_
    obtain ⟨a, xs, ts, rfl, rfl, ea, hts⟩ := hT.tupOf hc
    have hlen := hts.length
    refine ⟨_, rfl, a, _, rfl, .inr (SqT.of ea), rfl, _, rfl, ?_⟩
    by_cases h3 : ts.length = 3
    rotate_left
    · rw [show decide (V.int (xs.length : Nat) = V.int 3) = false from decide_eq_false fun z => h3 (by injection z with z; omega)]
      refine iteT ?_
      have h := q _ (same_refl _)
      have e : isCwT n (.tup ts) = false := by
        match ts, h3 with
        | [], _ => rfl
        | [_], _ => rfl
        | [_, _], _ => rfl
        | [_, _, _], h3 => exact absurd rfl h3
        | _ :: _ :: _ :: _ :: _, _ => rfl
      rw [e] at h
      exact h
    rw [show decide (V.int (xs.length : Nat) = V.int 3) = true from decide_eq_true (by rw [hlen, h3]; rfl)]
    refine iteF ?_
    obtain ⟨tw, td, to, rfl⟩ : ∃ x y u, ts = [x, y, u] := by
      match ts, h3 with
      | [x, y, u], _ => exact ⟨x, y, u, rfl⟩
    match xs, hts with
    | [xw, xd, xo], .cons hw (.cons hd (.cons ho .nil)) =>
    refine ⟨_, rfl, a, _, rfl, SqT.of ea, rfl, _, _, rfl, _, _, rfl, _, _, rfl, rfl, ?_⟩
    have q1 : ∀ H', Same H H' → Q (.bl (td.within 0 (n - 1) && (to.within 0 (n - 1) && wordOkT tw td.toI to.toI))) H' := q
    refine ⟨_, rfl, _, rfl, _, _, rfl, rfl, p, xd, td, 0, n - 1, rfl, hd, fun H1 s1 => ⟨_, rfl, ?_⟩⟩
    cases c1 : td.within 0 (n - 1) with
    | false =>
      refine iteT ?_
      have h := q1 _ s1
      rw [c1] at h
      exact h
    | true =>
    refine iteF ?_
    rw [c1, Bool.true_and] at q1
    refine ⟨_, rfl, _, rfl, _, _, rfl, rfl, p, xo, to, 0, n - 1, rfl, TgAt.same s1 _ _ ho, fun H2 s2 => ⟨_, rfl, ?_⟩⟩
    have s02 := s1.trans s2
    cases c2 : to.within 0 (n - 1) with
    | false =>
      refine iteT ?_
      have h := q1 _ s02
      rw [c2] at h
      exact h
    | true =>
    refine iteF ?_
    rw [c2, Bool.true_and] at q1
    obtain ⟨d, rfl, _, _⟩ := Tg.within_int c1
    obtain ⟨o, rfl, _, _⟩ := Tg.within_int c2
    cases hd
    cases ho
    rw [word_at hw] at q1
    have hw2 := TgAt.same s02 _ _ hw
    refine ⟨_, rfl, (by show 2 ≤ sizeLine; decide), fun t3 nt3 => ?_⟩
    have s3 := same_new nt3 (.tup [.str "at", .str "not"])
    have e3 : (upd H2 t3 (.tup [.str "at", .str "not"])) t3 = some (.tup (([("at" : Str), "not"] : List Str).map V.str)) := upd_same
    generalize (upd H2 t3 (.tup [.str "at", .str "not"])) = H3 at s3 e3
    have h := q1 _ (s02.trans s3)
    refine ⟨t3, _, rfl, .inr (SqT.of e3), (TgAt.same s3 _ _ hw2).knd, _, rfl, ?_⟩
    refine ite2 (fun c => ?_) (fun c => ?_)
    · have c' : decide (xw ∈ ([("at" : Str), "not"] : List Str).map V.str) = true := c
      rw [c'] at h
      exact h
    · have c' : decide (xw ∈ ([("at" : Str), "not"] : List Str).map V.str) = false := Bool.eq_false_iff.mpr c
      rw [c', Bool.false_or] at h
      refine ⟨_, rfl, _, rfl, (TgAt.same s3 _ _ hw2).knd, _, rfl, ?_⟩
      refine ite2 (fun c2 => ?_) (fun c2 => ?_)
      · have c2' : decide (xw = V.str "ahead") = true := c2
        rw [c2', Bool.true_and] at h
        refine ⟨_, rfl, _, rfl, rfl, ?_⟩
        rw [show decide (V.int d = V.int o) = decide (d = o) from decide_eq_decide.mpr ⟨fun e => by injection e, fun e => by rw [e]⟩]
        exact h
      · have c2' : decide (xw = V.str "ahead") = false := Bool.eq_false_iff.mpr c2
        rw [c2', Bool.false_and] at h
        exact h
abbrev sAreCw : Stmt := topS 11
abbrev nAreCw : List Str := ["size", "thing", "word"]
abbrev pAreCw : List Str := ["size", "thing"]
theorem scAreCw : FnScope nAreCw pAreCw (defScope sAreCw) := ⟨rfl, rfl, rfl, by decide +kernel, rfl, by decide +kernel, by decide +kernel⟩
def spAreCw : Sp := fun vs H Q _ => ∃ (p : Addr) (n : Int) (v : V) (t : Tg), vs = [.int n, v] ∧ TgAt p H v t ∧ ∀ H', Same H H' → Q (.bl (areCwT n t)) H'
theorem ok_AreCw {f : Addr} {fd : FuncData} {k : Nat} (F : Fun K "are_copy_words" "are_copy_words" sAreCw f fd) (C_is_copy_word : CallOk P w K mg base k "is_copy_word" pIsCw spIsCw) (m_isinstance : mg "isinstance" = none) (m_tuple : mg "tuple" = none) (m_len : mg "len" = none) (m_all : mg "all" = none) (iMOST_WORDS : MgInt mg "MOST_WORDS" 8) : FnOk P w K mg base CX0 (k + 1) f fd pAreCw spAreCw := by
  refine F.ok scAreCw (fun vs H Q E h => ?_) (fun cdv A outer s H vs Q E hr h => ?_)
  · obtain ⟨p, n, v, t, rfl, _⟩ := h
    rfl
  · obtain ⟨p, n, v, t, rfl, hT, q⟩ := h
    have nd := scAreCw.nd
    refine ⟨_, pss_cons (ps_if (PW.pt (pw_or (pt_not (pt_val (pe_callB call_isi (by rfl) m_isinstance (by decide +kernel) (pa_cons (pv 1) (pa_cons (pe_bltn (v := .ty "tuple") (by rfl) m_tuple (by decide +kernel) rfl) pa_nil))))) (pw_or1 (pt_cmpR op_gt (pe_callB call_len_seq (by rfl) m_len (by decide +kernel) (pa_cons (pv 1) pa_nil)) (pe_num (by rfl) iMOST_WORDS) (nomark _))))) (pss_one (ps_ret pe_bl)) pss_nil)
      (pss_one (ps_ret (pe_callB (cr_all rfl) (by rfl) m_all (by decide +kernel) (pa_cons (pe_lc (own := [("word", 2)]) (g := gName 2) (by rfl) nd (pi_tup (pv 1)) (blkOk_by (own := [("word", 2)]) (N := nAreCw) (sc := defScope sAreCw) (by decide +kernel)) (fun _ _ _ _ _ => (pg_name (i := 2) nd rfl (.inl rfl))) (fun _ _ _ _ _ => pts_nil)
          (fun _ _ _ _ _ => (pe_call C_is_copy_word.ok hr (by rfl) C_is_copy_word.g C_is_copy_word.kp C_is_copy_word.b .nil pass0 (pa_cons (pv 0) (pa_cons (pv 2) pa_nil))))) pa_nil)))), ?_⟩
    refine ⟨_, rfl, _, _, _, _, t.isT, rfl, .ty "tuple", hT.ty, kit_ty t.kT, _, rfl, ?_⟩
    cases hc : t.isT with
    | false =>
      refine iteT ?_
      have h := q _ (same_refl _)
      have e : areCwT n t = false := by cases t <;> first | rfl | cases hc
      rw [e] at h
      exact h
    | true =>
    refine iteF ?_
    obtain ⟨a, xs, ts, rfl, rfl, ea, hts⟩ := hT.tupOf hc
    have hlen := hts.length
    refine ⟨_, rfl, a, _, rfl, .inr (SqT.of ea), _, _, rfl, rfl, _, rfl, ?_⟩
    have q1 : ∀ H', Same H H' → Q (.bl (decide (ts.length ≤ 8) && ts.all (isCwT n))) H' := q
    by_cases h8 : ts.length ≤ 8
    rotate_left
    · rw [decide_eq_true (show ((xs.length : Nat) : Int) > 8 by omega)]
      refine iteT ?_
      rw [decide_eq_false h8] at q1
      exact q1 _ (same_refl _)
    rw [decide_eq_false (show ¬ ((xs.length : Nat) : Int) > 8 by omega)]
    refine iteF ?_
    rw [decide_eq_true h8, Bool.true_and] at q1
    refine ⟨_, rfl, a, rfl, ⟨_, SqT.of ea⟩, fun M nM => ?_⟩
    refine lc_sameM (walk_tup (xs := xs)) ts (fun y => .bl (isCwT n y)) hlen.symm (by omega) nM (fun H s => SqT.of (s _ _ ea)) ?_ ?_
    · rintro i y x H2' H2 hy s2 ⟨rfl, hx⟩ Q1 q1'
      exact ⟨rfl, _, rfl, _, rfl, p, n, x, y, rfl, TgAt.same s2 _ _ (hts.at hx hy), fun H3 s3 => q1' _ s3⟩
    intro H2 s2 eM
    refine ⟨M, ts.map (isCwT n), rfl, SqL.of (by rw [eM, List.map_map]; rfl), ?_⟩
    rw [all_map_id]
    exact q1 _ s2
end
end Deed

namespace Deed
open PySem PySem.Spec PyProof.Rows L2 LamX
/-! ### refusals: promises of defs that may raise; a def that calls what it got and tells what was raised -/
section
variable {P : Program} {w : World} {K : PySem.W.Frag} {mg : Str → Option Value} {base : Heap} {k : Nat} {f : Addr} {fd : FuncData} {ps : List Str} {sp sp' : Sp}
theorem FnOk.toX (F : FnOk P w K mg base L2.CX0 k f fd ps sp) : FnOk P w K mg base (L2.CX P w) k f fd ps sp :=
  ⟨F.len, fun A outer s H args us vs Q E hr he hb hv hs => codeAny_mono (F.run A outer s H args us vs Q E hr he hb hv hs) fun r s' hq => by
    cases r with
    | error e => exact (show False from hq).elim
    | ok fl => cases fl <;> exact hq⟩
def orSp (a b : Sp) : Sp := fun vs H Q E => a vs H Q E ∨ b vs H Q E
theorem FnOk.or {CX : CXT} (F : FnOk P w K mg base CX k f fd ps sp) (G : FnOk P w K mg base CX k f fd ps sp') : FnOk P w K mg base CX k f fd ps (orSp sp sp') :=
  ⟨fun vs H Q E h => h.elim (F.len vs H Q E) (G.len vs H Q E), fun A outer s H args us vs Q E hr he hb hv hs => hs.elim (F.run A outer s H args us vs Q E hr he hb hv) (G.run A outer s H args us vs Q E hr he hb hv)⟩
end
/-- an own class of refusals over ValueError, made with a text -/
structure ExcCl (K : PySem.W.Frag) (mg : Str → Option Value) (x : Str) (C : Addr) : Prop where
  xP : PySem.W.excIn K C [.type "ValueError", .type "Exception", .type "BaseException", .type "object"] "ValueError.__new__" = true
  gP : mg x = some (.ref C)
  kP : PySem.W.keepIn K (.ref C) = true
  bP : PySem.W.subIn K (.ref C) (.type "BaseException") = some true
  tP : PySem.W.typeIn K (.ref C) = some (.type "type")
  eP : PySem.W.exmOne K (.ref C) (.ref C) = some true
/-- a def that may raise -/
structure CallX (P : Program) (w : World) (K : PySem.W.Frag) (mg : Str → Option Value) (base : Heap) (L : Nat) (x : Str) (ps : List Str) (sp : Sp) where
  f : Addr
  fd : FuncData
  g : mg x = some (.ref f)
  kp : PySem.W.keepIn K (.ref f) = true
  b : Binds K fd ps []
  ok : FnOk P w K mg base (L2.CX P w) L f fd ps sp
def CallX.mono {P : Program} {w : World} {K : PySem.W.Frag} {mg : Str → Option Value} {base : Heap} {L L' : Nat} {x : Str} {ps : List Str} {sp : Sp} (c : CallX P w K mg base L x ps sp) (h : L ≤ L') : CallX P w K mg base L' x ps sp := ⟨c.f, c.fd, c.g, c.kp, c.b, c.ok.mono h⟩
def Df.callX {P : Program} {w : World} {K : PySem.W.Frag} {mg : Str → Option Value} {base : Heap} {L : Nat} {x : Str} {st : Stmt} {ps : List Str} {f : Addr} {fd : FuncData} {sp : Sp} (D : Df K mg x st ps f fd) (G : FnOk P w K mg base (L2.CX P w) L f fd ps sp) : CallX P w K mg base L x ps sp := ⟨f, fd, D.g, D.F.kp, D.b, G⟩
/-- the words for what is raised, class by class -/
def chain (K : PySem.W.Frag) (Q : VK) : List (Addr × Str) → XK
  | [] => fun _ _ _ => False
  | (C, z) :: r => fun cls d H => ∃ b, PySem.W.exmOne K cls (.ref C) = some b ∧ (b = true → Q (.str z) H) ∧ (b = false → chain K Q r cls d H)
def TWhy (K : PySem.W.Frag) (l : List (Addr × Str)) (ret : Str) : (XK → Hp → VK → Prop) → Hp → VK → Prop := fun tl H Q => tl (chain K Q l) H (fun _ H' => Q (.str ret) H')
theorem chain_many {K : PySem.W.Frag} {Q : VK} {D : Ends} (hD : D.rt = Q) : ∀ {l : List (Addr × Str)} {cls : Value} {d : Option Addr} {σ : L2.St} {H : Hp}, chain K Q l cls d H → wMany K (fun _ _ _ _ => False) D (l.map fun p => (Value.ref p.1, fun _ _ _ => tRet (tC (.str p.2)))) cls d σ H
  | [], _, _, _, _, h => h
  | (C, z) :: r, cls, d, σ, H, h => by
    obtain ⟨b, e1, e2, e3⟩ := h
    exact ⟨b, e1, fun hb a _ => by
      show D.rt (.str z) H
      rw [hD]
      exact e2 hb, fun hb => chain_many hD (e3 hb)⟩
section
variable {X : Cx}
theorem why_gives {Ng : List Str} {x a q ret : Str} {sg : Scope} {g : Addr} {cdg : Value} {j : Nat} {p1 p2 p3 p5 p6 p8 : Pos} {h0 : ExceptHandler} {hds : List ExceptHandler} {l : List (Addr × Str)} (hst : ∀ f : Addr, (L2.start Ng [V.ref f])[0]? = some (some (V.ref f)))
    (hh : ∀ s H, HdsOk (cxOf C8.CX0 X.prog X.w X.K X.mg X.base Ng x sg g cdg X.A X.stack s H C8.E0).nox (h0 :: hds) (l.map fun p => (Value.ref p.1, fun _ _ _ => tRet (tC (.str p.2))))) :
    GivesTo X Ng x sg g cdg [.Try [.Expr (.Call (.Name a p1) [] [] p2) p3] (h0 :: hds) [] [] p8, .Return (some (.Constant (.str ret) j p5)) p6] a q (TWhy X.K l ret) := by
  intro f c' s H Q tl act hc h
  refine ⟨_, pss_cons (ps_try_many (X := (cxOf C8.CX0 X.prog X.w X.K X.mg X.base Ng x sg g cdg X.A X.stack s H C8.E0).nox) (Wout := fun _ _ _ _ => False) (l := l.map fun p => (Value.ref p.1, fun _ _ _ => tRet (tC (.str p.2))))
      (tb := fun W D σ H => ∃ Ech : XK, (∀ cls d σ' H', Ech cls d H' → W cls d σ' H') ∧ σ[0]? = some (some (.ref f)) ∧ H c' = some (CodeO c' q) ∧ tl Ech H (fun _ H' => D.nx σ H'))
      rfl rfl LamX.takes0 (fun W pn xe tk _ => ?_) (hh s H)) (pss_one (ps_ret pe_str)), ?_⟩
  · refine ⟨fun pins s' σ H' D I h' => ?_⟩
    obtain ⟨Ech, hW, h1, h2, h3⟩ := h'
    have hp := act W pn xe Ech p1 p2 tk hW
    have hq := pss_one (ps_expr (pos := p3) hp)
    exact hq.run pins s' σ H' D I ⟨h1, h2, h3⟩
  · exact ⟨chain X.K Q l, fun cls d σ' H' hc => chain_many rfl hc, hst f, hc, h⟩
end
mutual
theorem TgAt.ext {p : Addr} {H H' : Hp} (k : ExtN H H') : ∀ (t : Tg) (v : V), TgAt p H v t → TgAt p H' v t
  | .non, _, h => by cases h; exact .non
  | .bl _, _, h => by cases h; exact .bl _
  | .int _, _, h => by cases h; exact .int _
  | .str _, _, h => by cases h; exact .str _
  | .lst, _, h => by
    cases h with
    | lst n e => exact .lst n (k _ _ e fun _ z => by cases z)
  | .tup ts, _, h => by
    cases h with
    | tup e ha => exact .tup (k _ _ e fun _ z => by cases z) (TgAll.ext k ts _ ha)
  | .dct, _, h => by
    cases h with
    | dct n e => exact .dct n (k _ _ e fun _ z => by cases z)
theorem TgAll.ext {p : Addr} {H H' : Hp} (k : ExtN H H') : ∀ (ts : List Tg) (vs : List V), TgAll p H vs ts → TgAll p H' vs ts
  | [], _, h => by cases h; exact .nil
  | t :: ts, _, h => by
    cases h with
    | cons h1 h2 => exact .cons (TgAt.ext k t _ h1) (TgAll.ext k ts _ h2)
end
end Deed

namespace Deed
open PySem PySem.Spec PyProof.Rows L2 LamX
section
variable {J : It} {n : Nat} {G : Hp → Prop} {Y : Nat → Hp → V → Hp → Prop} {g : TG} {te : TE} {vs : List Nat} {σ : L2.St} {H1 : Hp} {D : Addr} {Qd : Hp → Prop} {α : Type}
/-- new objects of whatever kind -/
theorem lc_newG (w : Walk J n G Y) (ys : List α) (O : α → Addr → Hp → Prop) (hO : ∀ y t H H' xs, H D = some (.lst xs) → (∀ a o, a ≠ D → H a = some o → H' a = some o) → O y t H → O y t H') (hn : ys.length = n) (hlen : ys.length ≤ 1000) (nD : H1 D = none) (hG : ∀ H, Same H1 H → G H)
    (hs : ∀ i y x H H', ys[i]? = some y → Same H1 H → (∃ xs, H D = some (.lst xs)) → Y i H x H' → ∀ (Q1 : V → Hp → Prop), (∀ t H4, Same H H4 → O y t H4 → Q1 (.ref t) H4) →
      g x (wipe σ vs) H' fun σ2 H2 => wipe σ2 vs = wipe σ vs ∧ te σ2 H2 Q1)
    (hd : ∀ H (zs : List (Addr × α)), Same H1 H → H D = some (.lst (zs.map fun z => .ref z.1)) → zs.map (·.2) = ys → (∀ z ∈ zs, O z.2 z.1 H) → Qd H) : LcGoal J g tYes te vs σ H1 D Qd := by
  refine lc_gen w ys (fun _ => true) (fun H => Same H1 H ∧ ∃ xs, H D = some (.lst xs)) Same (fun H y u => ∃ t, u = .ref t ∧ O y t H) hn hlen ⟨same_new nD _, _, upd_same⟩ (fun H h => hG H h.1) (fun H H' h1 h2 => ⟨⟨h1.1.trans h2, h1.2.imp fun xs e => h2 _ _ e⟩, fun xs e => h2 _ _ e⟩) (fun H xs l h1 _ => ⟨same_put nD h1.1 _, _, upd_same⟩) (fun H H' y u h1 h2 e => ?_) (fun H xs l y u h1 h2 e => ?_) (fun i y x H H' hy h1 hY Q1 Q0 q1 q0 => ?_) (fun H zs h1 e ez hz => ?_)
  · obtain ⟨t, e1, e2⟩ := e
    obtain ⟨xs, hx⟩ := h1.2
    exact ⟨t, e1, hO y t H H' xs hx (fun a o _ h => h2 a o h) e2⟩
  · obtain ⟨t, e1, e2⟩ := e
    exact ⟨t, e1, hO y t H _ xs h2 (fun a o n h => by rw [upd_ne n]; exact h) e2⟩
  · exact hs i y x H H' hy h1.1 h1.2 hY Q1 (fun t H4 s4 e4 => q1 rfl _ H4 s4 ⟨t, rfl, e4⟩)
  · have key : ∀ zs : List (V × α), (∀ z ∈ zs, ∃ t, z.1 = .ref t ∧ O z.2 t H) → ∃ ws : List (Addr × α), zs.map (·.1) = ws.map (fun z => V.ref z.1) ∧ ws.map (·.2) = zs.map (·.2) ∧ ∀ z ∈ ws, O z.2 z.1 H := by
      intro zs
      induction zs with
      | nil => exact fun _ => ⟨[], rfl, rfl, fun _ h => nomatch h⟩
      | cons z r ih =>
        intro h
        obtain ⟨ws, a1, a2, a3⟩ := ih fun x hx => h x (List.mem_cons_of_mem _ hx)
        obtain ⟨t, e1, e2⟩ := h z List.mem_cons_self
        refine ⟨(t, z.2) :: ws, ?_, ?_, fun x hx => ?_⟩
        · rw [List.map_cons, List.map_cons, a1, e1]
        · rw [List.map_cons, List.map_cons, a2]
        · rcases List.mem_cons.mp hx with h | h
          · rw [h]
            exact e2
          · exact a3 x h
    obtain ⟨ws, a1, a2, a3⟩ := key zs hz
    exact hd H ws h1.1 (by rw [e, a1]) (by rw [a2, ez, List.filter_eq_self.mpr fun _ _ => rfl]) a3
end
end Deed

namespace Deed
open PySem PySem.Spec PyProof.Rows L2 LamX
/-! ### a list against the empty one -/
section
variable {X : Cx}
/-- list == [] -/
def rEqLE (K : PySem.W.Frag) (neg : Bool) : R2 := fun x y H Q => ∃ a b xs, x = .ref a ∧ y = .ref b ∧ SqL K H a xs ∧ SqL K H b [] ∧ Q (.bl (if neg then !xs.isEmpty else xs.isEmpty)) H
theorem op_neLE (hu : X.A.units + 64 < cLine) : OpR X (compareOp .NotEq) (rEqLE X.K true) := by
  intro pins s σ H x y v u Q I rx ry h
  obtain ⟨a, b, xs, rfl, rfl, ha, hb, q⟩ := h
  cases rx
  cases ry
  obtain ⟨its, r, pl, hz⟩ := I.list ha
  obtain ⟨its2, r2, pl2, hz2⟩ := I.list hb
  cases r2
  have hl := r.length
  cases xs with
  | nil =>
    have : its = [] := List.eq_nil_of_length_eq_zero (by rw [← hl]; rfl)
    subst this
    exact SeqAt.RcNeAt.lists (e := fun _ => true) pl.isList pl2.isList rfl (by omega) (fun j h1 h2 => absurd h2 (by simp)) X.prog X.w _ _ ⟨.bl _, H, I, rfl, q⟩
  | cons x xs =>
    cases its with
    | nil => simp at hl
    | cons i is => exact SeqAt.RcNeAt.lists_lengths pl.isList pl2.isList (by simp) (by omega) X.prog X.w _ _ ⟨.bl _, H, I, rfl, q⟩
theorem op_eqLE (hu : X.A.units + 64 < cLine) : OpR X (compareOp .Eq) (rEqLE X.K false) := by
  intro pins s σ H x y v u Q I rx ry h
  obtain ⟨a, b, xs, rfl, rfl, ha, hb, q⟩ := h
  cases rx
  cases ry
  obtain ⟨its, r, pl, hz⟩ := I.list ha
  obtain ⟨its2, r2, pl2, hz2⟩ := I.list hb
  cases r2
  have hl := r.length
  cases xs with
  | nil =>
    have : its = [] := List.eq_nil_of_length_eq_zero (by rw [← hl]; rfl)
    subst this
    exact SeqAt.RcAt.lists (e := fun _ => true) pl.isList pl2.isList rfl (by omega) (fun j h1 h2 => absurd h2 (by simp)) X.prog X.w _ _ ⟨.bl _, H, I, rfl, q⟩
  | cons x xs =>
    cases its with
    | nil => simp at hl
    | cons i is => exact SeqAt.RcAt.lists_lengths pl.isList pl2.isList (by simp) (by omega) X.prog X.w _ _ ⟨.bl _, H, I, rfl, q⟩
theorem op_neLEK {K : PySem.W.Frag} (h : X.K = K) (hu : X.A.units + 64 < cLine) : OpR X (compareOp .NotEq) (rEqLE K true) := h ▸ op_neLE hu
theorem op_eqLEK {K : PySem.W.Frag} (h : X.K = K) (hu : X.A.units + 64 < cLine) : OpR X (compareOp .Eq) (rEqLE K false) := h ▸ op_eqLE hu
end
end Deed

namespace Deed
open PySem PySem.Spec PyProof.Rows L2 LamX
/-! ### rules that lacked: a list against the empty one, t.index(number), len(set) -/
section
variable {X : Cx}
/-- t.index(number), which is there -/
def rTupIx (K : PySem.W.Frag) : V → List V → Hp → VK → Prop := fun x xs H Q => ∃ (p : Addr) (ns : List Int) (k : Int), x = .ref p ∧ xs = [.int k] ∧ SqT K H p (ns.map V.int) ∧ k ∈ ns ∧ Q (.int (ns.idxOf k : Nat)) H
theorem mt_tupIx : MtR X "tuple.index" (rTupIx X.K) := by
  intro pins s σ H x xs v us Q I rx rs h
  obtain ⟨p, ns, k, rfl, rfl, hq, hk, q⟩ := h
  cases rx
  obtain ⟨u, rfl, t, rfl⟩ := vals1 rs
  obtain ⟨its, r, pl, hz⟩ := I.tuple hq
  exact SeqAt.tuple_index_ints pl (by simpa using r.ints) hk ⟨.int _, H, I.tok _, ⟨_, rfl⟩, q⟩
/-- len(a set of numbers) -/
def rLenSet (w : World) : List V → Hp → VK → Prop := fun xs H Q => ∃ (a : Addr) (S : Int → Bool) (n : Nat), xs = [.ref a] ∧ H a = some (SetO w a S n) ∧ n < 100000 ∧ ((∀ ks : List Int, ks.Nodup → (∀ k : Int, k ∈ ks ↔ S k = true) → ks.length = n) → Q (.int n) H)
theorem nodup_same : ∀ {l m : List Int}, l.Nodup → m.Nodup → (∀ x, x ∈ l ↔ x ∈ m) → l.length = m.length := fun h1 h2 h => Nat.le_antisymm (nodup_len h1 fun x hx => (h x).mp hx) (nodup_len h2 fun x hx => (h x).mpr hx)
theorem call_lenSet : CallR X (.builtin "len") (rLenSet X.w) := by
  intro pins s σ H xs us Q I r h
  obtain ⟨a, S, n, rfl, ha, hn, q⟩ := h
  rw [Vals.ref1 r]
  obtain ⟨o, es, ep, t, ho, hex, hd, g, nd, hm, hb, hf, hn', _⟩ := setO_get I ha
  refine call_len_set ho hex hd hf (by omega) ⟨.int n, H, (I.tok _), ⟨_, by rw [hn']⟩, q fun ks k1 k2 => ?_⟩
  rw [← hn', nodup_same k1 nd fun x => (k2 x).trans (hm x), List.length_map, Array.length_toList]
end
end Deed
namespace L2
open PySem PySem.Spec PyProof.Rows
/-! ### tuple * number, one too -/
theorem tuple_mul1 (l : Addr) (items : Array Value) (n : Nat) (dd : Option Addr) (sl : Array (Option Value)) (u : Tok) :
    Meets (Builtin.«tuple.__mul__» ⟨[.ref l, .int 1 u], []⟩) (fun _ R s => s.heap.get? l = some { cls := .type "tuple", dict := dd, data := .seq items n, slots := sl } ∧
      R (.ok (.ret (Value.ref l))) s) :=
  .of_wp fun prog w A R s h => by
    obtain ⟨hp, g, d, tk, os⟩ := s
    obtain ⟨hl, h⟩ := h
    have f1 := AutoSeq1.idx_int
    have c0 : (decide ((1 : Int) < -(2 ^ 63)) || decide ((1 : Int) ≥ 2 ^ 63)) = false := by decide
    have c1 : (items.isEmpty || ((1 : Int) == 1)) = true := by rw [show ((1 : Int) == 1) = true from rfl, Bool.or_true]
    wp_walk using wpAny_loadPart' hl
    repeat (first
      | (refine wpAny_ite_false (decide_eq_false (by rw [c0]; exact Bool.false_ne_true)) ?_; wp_walk using wpAny_loadPart' hl)
      | (refine wpAny_ite_true (decide_eq_true (by rw [c1])) ?_; wp_walk using wpAny_loadPart' hl))
    exact ⟨_, rfl, h⟩
def rRepA (K : PySem.W.Frag) : R2 := fun x y H Q => ∃ l k xs, x = .ref l ∧ y = .int k ∧ SqT K H l xs ∧ xs ≠ [] ∧ 1 ≤ k ∧ k ≤ 1000 ∧ xs.length ≤ 1000 ∧ (k = 1 → Q (.ref l) H) ∧ (2 ≤ k → ∀ p, H p = none → Q (.ref p) (upd H p (.tup (List.replicate k.toNat xs).flatten)))
section
variable {X : Cx}
theorem op_repA : OpR X (binaryOp .Mult) (rRepA X.K) := by
  intro pins s σ H x y v u Q I rx ry h
  obtain ⟨l, k, xs, rfl, rfl, hT, hne, h1, h2, hz, q1, q2⟩ := h
  by_cases hk : k = 1
  · subst hk
    cases rx
    obtain ⟨t, rfl⟩ := ry
    obtain ⟨its, r, ⟨⟨cls, dd, data, sl⟩, ho, hc, n, hd⟩, hs⟩ := I.tuple hT
    simp only at hc hd
    subst hc hd
    refine wpAny_binaryOp_repeat_ref (T := "tuple") (U := "int") (by decide) ⟨_, ho, rfl⟩ (fun s' => typeIs_int s' 1 t) noFill_tuple_mul F.fills_int_mul F.slot_int_rmul repeat_tuple F.slot_int_index.lookup
      (call_meets F.slot_int_rmul (typeIs_int s 1 t) F.entry_int_rmul (F.args_int_rmul_2 _ _) (int_rmul_tuple 1 t l its.toArray n dd sl)
        ⟨ho, rfl, ⟨_, ho, rfl⟩, call_meets F.slot_tuple_mul ⟨_, ho, rfl⟩ F.entry_tuple_mul (F.args_tuple_mul_2 _ _) (tuple_mul1 l its.toArray n dd sl t) ⟨ho, ?_⟩⟩)
    exact ⟨.ref l, H, I, rfl, q1 rfl⟩
  · exact op_repT pins s σ H _ _ v u Q I rx ry ⟨l, k, xs, rfl, rfl, hT, hne, by omega, h2, hz, q2 (by omega)⟩
end
end L2
namespace PyProof.Rows
open PySem PySem.Spec
section
variable {prog : Program} {w : World} {A : Around} {E : Value → Shared → Prop} {s : Shared}
theorem collect_tupG {l : Addr} {vs : List Value} {Q : List Value → Shared → Prop} (hl : s.heap.IsTuple l vs.toArray)
    (h : Q vs { s with heap := (s.heap.push (seqObj "list" #[] 0)).update s.heap.objs.size (Obj.mapSeq (· ++ vs.toArray)) }) (hsz : vs.length ≤ sizeLine) :
    wpAny (model prog w) A (collect (.ref l)) Q E s := by
  obtain ⟨o, ho, hc, n, hd⟩ := id hl
  unfold collect
  refine wpAny_bind (wpAny_runValue (codeAny_builtin entry_proto_collect' ?_))
  show wpAny _ _ (do again (.builtin "list.__iadd__" ⟨[← newList [], .ref l], []⟩)) _ _ s
  refine wpAny_bind (wpAny_newList (wpAny_pure ⟨Code.quiet_builtin _ (by decide +kernel), codeAny_builtin entry_list_iadd' ?_⟩))
  show wpAny _ _ (Builtin.List.listExtendWith (.ref s.heap.objs.size) (.ref l) (.ref s.heap.objs.size)) _ _ { s with heap := s.heap.push (seqObj "list" #[] 0) }
  unfold Builtin.List.listExtendWith
  have ho' : (s.heap.push (seqObj "list" #[] 0)).get? l = some o := Heap.get?_push_of_some _ ho
  refine wpAny_bind (wpAny_typeOf (T := "tuple") ⟨o, ho', hc⟩ ?_)
  have ht : (Value.type "tuple" == Value.type "tuple") = true := by rfl
  rw [if_pos (by rw [ht]; simp)]
  refine wpAny_bind (listItems_at ho' hd ?_)
  refine wpAny_bind (listItems_at (xs := #[]) (n := 0) (Heap.get?_push_size _ rfl) rfl ?_)
  rw [if_neg (by simp)]
  refine wpAny_bind (listUpdate_at (xs := #[]) (n := 0) (Heap.get?_push_size _ rfl) rfl ?_ (Nat.zero_le _) (by show (#[] ++ vs.toArray).size ≤ sizeLine + 1; simp only [Array.size_append, List.size_toArray, List.length_nil]; omega))
  refine wpAny_pure ?_
  show wpAny (model prog w) A (do
      let o ← load s.heap.objs.size
      match o.data with
      | .seq xs _ => pure xs.toList
      | _ => unsupported "internal:collect") Q E { s with heap := (s.heap.push (seqObj "list" #[] 0)).update s.heap.objs.size (Obj.mapSeq (· ++ vs.toArray)) }
  refine wpAny_bind (wpAny_load (get?_update_seq (Heap.get?_push_size _ rfl) _) ?_)
  show wpAny _ _ (pure ((#[] : Array Value) ++ vs.toArray).toList) Q E _
  rw [show ((#[] : Array Value) ++ vs.toArray).toList = vs by simp]
  exact wpAny_pure h
theorem sorted_intsT {l : Addr} {vs : List Value} {ns : List Int} {Q : Value → Shared → Prop} (hl : s.heap.IsTuple l vs.toArray) (hI : IntsAre vs ns) (h64 : vs.length < 64)
    (h : ∀ (out : Array Value) (ns' : List Int), IntsAre out.toList ns' → ns'.Perm ns → ns'.Pairwise (· ≤ ·) → Q (.ref (s.heap.objs.size + 1)) { s with heap := sortedAll s.heap vs out }) :
    wpAny (model prog w) A (call (.builtin "sorted") [.ref l]) Q E s := by
  refine Calls.call_function_entry kind_sorted plain_sorted entry_sorted (args_sorted1 _) ?_
  unfold Builtin.«sorted»
  refine wpAny_bind (m := checkCount "sorted" 1 1 _) (wpAny_pure ?_)
  refine wpAny_bind (collect_tupG hl ?_ (by rw [sizeLine_eq]; omega))
  refine wpAny_bind (wpAny_newList ?_)
  have hsz : ((s.heap.push (seqObj "list" #[] 0)).update s.heap.objs.size (Obj.mapSeq (· ++ vs.toArray))).objs.size = s.heap.objs.size + 1 := by
    rw [Heap.size_update, size_push']
  have hoL : (((s.heap.push (seqObj "list" #[] 0)).update s.heap.objs.size (Obj.mapSeq (· ++ vs.toArray))).push (seqObj "list" vs.toArray 0)).get? (s.heap.objs.size + 1) = some (seqObj "list" vs.toArray 0) := by
    rw [← hsz]; exact Heap.get?_push_size _ rfl
  show wpAny _ _ _ _ _ { s with heap := ((s.heap.push (seqObj "list" #[] 0)).update s.heap.objs.size (Obj.mapSeq (· ++ vs.toArray))).push (seqObj "list" vs.toArray 0) }
  rw [hsz]
  refine wpAny_bind (wpAny_holding (wpAny_call_entry slot_list_sort ⟨_, hoL, rfl⟩ entry_list_sort (list_sort_tree hoL hI h64 fun out ns' a1 a2 a3 => ⟨_, rfl, ?_⟩) (args_list_sort _)))
  exact wpAny_pure ⟨_, rfl, h out ns' a1 a2 a3⟩
end
end PyProof.Rows
namespace L2
open PySem PySem.Spec PyProof.Rows
section
variable {X : Cx}
/-- sorted(t), t a tuple of numbers -/
def rSortedTu (K : PySem.W.Frag) : List V → Hp → VK → Prop := fun vs H Q => ∃ (a : Addr) (ns : List Int), vs = [V.ref a] ∧ SqT K H a (ns.map V.int) ∧ ns.length < 64 ∧ ∀ (ns' : List Int) (p : Addr), ns'.Perm ns → ns'.Pairwise (· ≤ ·) → H p = none → Q (.ref p) (upd H p (.lst (ns'.map V.int)))
theorem cr_sortedTu : CallR X (.builtin "sorted") (rSortedTu X.K) := by
  intro pins s σ H vs us Q I r h
  obtain ⟨a, ns, rfl, hs, h64, q⟩ := h
  obtain ⟨its, rv, hl, _⟩ := I.tuple hs
  rw [Vals.ref1 r]
  have hi := rv.ints
  refine PyProof.Rows.sorted_intsT hl hi (by rw [hi.length]; exact h64) fun out ns' h1 h2 h3 => ?_
  obtain ⟨ep, he'⟩ := PyProof.Rows.sortedAll_at s.heap its out
  have hlen : (ns'.map V.int).length ≤ sizeLine := by rw [List.length_map, h2.length_eq]; exact small64 h64
  exact ⟨.ref _, upd H (s.heap.objs.size + 1) (.lst (ns'.map V.int)), I.laid (t' := s.toks) (fun _ _ => PyProof.Rows.sortedAll_old) (Nat.le_succ _) ⟨hlen, out.toList, ep, vals_of_ints h1, he'⟩, rfl, q ns' _ h2 h3 (I.hok.fresh (Nat.le_succ _))⟩
end
end L2

namespace Deed
open PySem PySem.Spec PySem.W PyProof.Rows L2 LamX
/-! ### a lost book: the layers, as plain lists -/
abbrev Wd := Str × Nat × Nat
abbrev Layer := List (Nat × List Nat)
def allB (n : Nat) : Nat := 2 ^ n - 1
def clr (a p : Nat) : Nat := a - (a &&& 2 ^ p)
def letStep (l : List Nat) (w : Wd) : List Nat :=
  if w.1 = "at" then l.set w.2.1 (l.getD w.2.1 0 &&& 2 ^ w.2.2) else if w.1 = "not" then l.set w.2.1 (clr (l.getD w.2.1 0) w.2.2) else l
def letF (n : Nat) (ws : List Wd) : List Nat := ws.foldl letStep (List.replicate n (allB n))
def ahStep (l : List Nat) (w : Wd) : List Nat := if w.1 = "ahead" then l.set w.2.2 (l.getD w.2.2 0 ||| 2 ^ w.2.1) else l
def ahF (n : Nat) (ws : List Wd) : List Nat := ws.foldl ahStep (List.replicate n 0)
def bitI (a p : Nat) : Nat := a / 2 ^ p % 2
def leftF (lt : List Nat) (page placed : Nat) : List Nat := (List.range lt.length).filter fun d => decide (bitI (lt.getD d 0) page ≠ 0) && !decide (bitI placed d ≠ 0)
def nextF (lt ah : List Nat) (page placed : Nat) : List Nat := (leftF lt page placed).filter fun d => decide (ah.getD d 0 &&& placed = ah.getD d 0)
def layerF (lt ah : List Nat) (page : Nat) (reached : List Nat) : Layer := reached.map fun p => (p, nextF lt ah page p)
def insK (ks : List Nat) (k : Nat) : List Nat := if k ∈ ks then ks else ks ++ [k]
def nextK (lay : Layer) : List Nat := (lay.flatMap fun z => z.2.map fun d => z.1 ||| 2 ^ d).foldl insK []
def reachStep (lt ah : List Nat) (s : List Layer × List Nat) (page : Nat) : List Layer × List Nat := (s.1 ++ [layerF lt ah page s.2], nextK (layerF lt ah page s.2))
def reachP (n : Nat) (ws : List Wd) (i : Nat) : List Layer × List Nat := (List.range i).foldl (reachStep (letF n ws) (ahF n ws)) ([], [0])
def layersR (n : Nat) (ws : List Wd) : List Layer := (reachP n ws n).1
def keptF (lay : Layer) (behind : List Nat) : Layer := (lay.map fun z => (z.1, z.2.filter fun d => decide (z.1 ||| 2 ^ d ∈ behind))).filter fun z => !z.2.isEmpty
def fitStep (s : List Layer × List Nat) (lay : Layer) : List Layer × List Nat := (s.1 ++ [keptF lay s.2], (keptF lay s.2).map (·.1))
def fitP (n : Nat) (ws : List Wd) (i : Nat) : List Layer × List Nat := ((layersR n ws).reverse.take i).foldl fitStep ([], [allB n])
def fitL (n : Nat) (ws : List Wd) : List Layer := (fitP n ws n).1.reverse
def hasF (n : Nat) (ws : List Wd) : Bool := decide (0 < ((fitL n ws).headD []).length)
/-! bounds -/
structure LayOk (n : Nat) (lay : Layer) : Prop where
  nd : (lay.map (·.1)).Nodup
  lt : ∀ z ∈ lay, z.1 < 2 ^ n
  ds : ∀ z ∈ lay, ∀ d ∈ z.2, d < n
  len : ∀ z ∈ lay, z.2.length ≤ n
theorem insK_nd {ks : List Nat} {k : Nat} (h : ks.Nodup) : (insK ks k).Nodup := by
  unfold insK
  by_cases c : k ∈ ks
  · rw [if_pos c]
    exact h
  · rw [if_neg c]
    exact List.nodup_append.mpr ⟨h, by simp, fun a ha b hb => by rw [List.mem_singleton.mp hb]; exact fun e => c (e ▸ ha)⟩
theorem insK_mem {ks : List Nat} {k x : Nat} : x ∈ insK ks k ↔ x ∈ ks ∨ x = k := by
  unfold insK
  by_cases c : k ∈ ks
  · rw [if_pos c]
    exact ⟨.inl, fun h => h.elim id fun e => e ▸ c⟩
  · rw [if_neg c, List.mem_append, List.mem_singleton]
theorem insAll_nd : ∀ (l ks : List Nat), ks.Nodup → (l.foldl insK ks).Nodup
  | [], _, h => h
  | k :: r, ks, h => insAll_nd r _ (insK_nd h)
theorem insAll_mem : ∀ (l ks : List Nat) (x : Nat), x ∈ l.foldl insK ks ↔ x ∈ ks ∨ x ∈ l
  | [], ks, x => by simp
  | k :: r, ks, x => by
    rw [List.foldl_cons, insAll_mem r, insK_mem, List.mem_cons]
    exact ⟨fun h => h.elim (fun h => h.elim .inl fun h => .inr (.inl h)) fun h => .inr (.inr h), fun h => h.elim (fun h => .inl (.inl h)) fun h => h.elim (fun h => .inl (.inr h)) .inr⟩
theorem or_lt {n a d : Nat} (ha : a < 2 ^ n) (hd : d < n) : a ||| 2 ^ d < 2 ^ n := Nat.or_lt_two_pow ha (Nat.pow_lt_pow_right (by decide) hd)
theorem nextF_ok {lt ah : List Nat} {page placed n : Nat} (h : lt.length = n) : (∀ d ∈ nextF lt ah page placed, d < n) ∧ (nextF lt ah page placed).length ≤ n ∧ (nextF lt ah page placed).Nodup := by
  unfold nextF leftF
  refine ⟨fun d hd => ?_, ?_, (List.nodup_range.filter _).filter _⟩
  · have := List.mem_range.mp (List.mem_filter.mp (List.mem_filter.mp hd).1).1
    omega
  · refine Nat.le_trans (List.length_filter_le _ _) (Nat.le_trans (List.length_filter_le _ _) ?_)
    rw [List.length_range, h]
    exact Nat.le_refl _
theorem letF_len (n : Nat) : ∀ ws : List Wd, (letF n ws).length = n := by
  have key : ∀ (ws : List Wd) (l : List Nat), (ws.foldl letStep l).length = l.length := by
    intro ws
    induction ws with
    | nil => exact fun _ => rfl
    | cons w r ih =>
      intro l
      rw [List.foldl_cons, ih]
      unfold letStep
      split
      · rw [List.length_set]
      · split
        · rw [List.length_set]
        · rfl
  intro ws
  unfold letF
  rw [key, List.length_replicate]
theorem ahF_len (n : Nat) : ∀ ws : List Wd, (ahF n ws).length = n := by
  have key : ∀ (ws : List Wd) (l : List Nat), (ws.foldl ahStep l).length = l.length := by
    intro ws
    induction ws with
    | nil => exact fun _ => rfl
    | cons w r ih =>
      intro l
      rw [List.foldl_cons, ih]
      unfold ahStep
      split
      · rw [List.length_set]
      · rfl
  intro ws
  unfold ahF
  rw [key, List.length_replicate]
theorem layerF_ok {lt ah : List Nat} {page n : Nat} {rs : List Nat} (h : lt.length = n) (nd : rs.Nodup) (hl : ∀ r ∈ rs, r < 2 ^ n) : LayOk n (layerF lt ah page rs) := by
  unfold layerF
  refine ⟨?_, fun z hz => ?_, fun z hz => ?_, fun z hz => ?_⟩
  · rw [List.map_map]
    have : (rs.map ((fun z : Nat × List Nat => z.1) ∘ fun p => (p, nextF lt ah page p))) = rs := by
      rw [show ((fun z : Nat × List Nat => z.1) ∘ fun p => (p, nextF lt ah page p)) = id from rfl, List.map_id]
    rw [this]
    exact nd
  · obtain ⟨p, hp, rfl⟩ := List.mem_map.mp hz
    exact hl p hp
  · obtain ⟨p, hp, rfl⟩ := List.mem_map.mp hz
    exact (nextF_ok h).1
  · obtain ⟨p, hp, rfl⟩ := List.mem_map.mp hz
    exact (nextF_ok h).2.1
theorem nextK_ok {n : Nat} {lay : Layer} (h : LayOk n lay) : (nextK lay).Nodup ∧ ∀ r ∈ nextK lay, r < 2 ^ n := by
  unfold nextK
  refine ⟨insAll_nd _ _ .nil, fun r hr => ?_⟩
  rcases (insAll_mem _ _ _).mp hr with h0 | h0
  · cases h0
  · obtain ⟨z, hz, hz2⟩ := List.mem_flatMap.mp h0
    obtain ⟨d, hd, rfl⟩ := List.mem_map.mp hz2
    exact or_lt (h.lt z hz) (h.ds z hz d hd)
theorem reachP_succ (n : Nat) (ws : List Wd) (i : Nat) : reachP n ws (i + 1) = reachStep (letF n ws) (ahF n ws) (reachP n ws i) i := by
  unfold reachP
  rw [List.range_succ, List.foldl_append]
  rfl
theorem reachP_ok (n : Nat) (ws : List Wd) : ∀ i, (reachP n ws i).2.Nodup ∧ (∀ r ∈ (reachP n ws i).2, r < 2 ^ n) ∧ (reachP n ws i).1.length = i ∧ ∀ lay ∈ (reachP n ws i).1, LayOk n lay
  | 0 => ⟨(by decide : ([0] : List Nat).Nodup), fun r hr => by
      rw [List.mem_singleton.mp hr]
      exact Nat.two_pow_pos n, rfl, fun _ h => nomatch h⟩
  | i + 1 => by
    obtain ⟨h1, h2, h3, h4⟩ := reachP_ok n ws i
    have hL := layerF_ok (ah := ahF n ws) (page := i) (letF_len n ws) h1 h2
    obtain ⟨k1, k2⟩ := nextK_ok hL
    rw [reachP_succ]
    refine ⟨k1, k2, ?_, fun lay hl => ?_⟩
    · show ((reachP n ws i).1 ++ [_]).length = i + 1
      rw [List.length_append, h3]
      rfl
    · rcases List.mem_append.mp (show lay ∈ (reachP n ws i).1 ++ [layerF (letF n ws) (ahF n ws) i (reachP n ws i).2] from hl) with h | h
      · exact h4 lay h
      · rw [List.mem_singleton.mp h]
        exact hL
theorem layersR_ok (n : Nat) (ws : List Wd) : (layersR n ws).length = n ∧ ∀ lay ∈ layersR n ws, LayOk n lay := (reachP_ok n ws n).2.2
theorem keptF_ok {n : Nat} {lay : Layer} (h : LayOk n lay) (behind : List Nat) : LayOk n (keptF lay behind) := by
  unfold keptF
  refine ⟨?_, fun z hz => ?_, fun z hz d hd => ?_, fun z hz => ?_⟩
  · refine (List.Sublist.map (fun z : Nat × List Nat => z.1) (List.filter_sublist)).nodup ?_
    rw [List.map_map]
    exact h.nd
  all_goals
    obtain ⟨y, hy, rfl⟩ := List.mem_map.mp (List.mem_filter.mp hz).1
  · exact h.lt y hy
  · exact h.ds y hy d (List.mem_filter.mp hd).1
  · exact Nat.le_trans (List.length_filter_le _ _) (h.len y hy)
theorem fitP_succ (n : Nat) (ws : List Wd) (i : Nat) {lay : Layer} (h : (layersR n ws).reverse[i]? = some lay) : fitP n ws (i + 1) = fitStep (fitP n ws i) lay := by
  unfold fitP
  rw [List.take_add_one, h]
  rw [show (some lay).toList = [lay] from rfl, List.foldl_append]
  rfl
theorem fitP_ok (n : Nat) (ws : List Wd) : ∀ i, i ≤ n → (fitP n ws i).1.length = i ∧ ∀ lay ∈ (fitP n ws i).1, LayOk n lay
  | 0, _ => ⟨rfl, fun _ h => nomatch h⟩
  | i + 1, hi => by
    obtain ⟨h1, h2⟩ := fitP_ok n ws i (by omega)
    obtain ⟨l1, l2⟩ := layersR_ok n ws
    have hlt : i < (layersR n ws).reverse.length := by rw [List.length_reverse, l1]; omega
    have hg : (layersR n ws).reverse[i]? = some (layersR n ws).reverse[i] := List.getElem?_eq_getElem hlt
    rw [fitP_succ n ws i hg]
    refine ⟨?_, fun lay hl => ?_⟩
    · show ((fitP n ws i).1 ++ [_]).length = i + 1
      rw [List.length_append, h1]
      rfl
    · rcases List.mem_append.mp (show lay ∈ (fitP n ws i).1 ++ [keptF (layersR n ws).reverse[i] (fitP n ws i).2] from hl) with h | h
      · exact h2 lay h
      · rw [List.mem_singleton.mp h]
        exact keptF_ok (l2 _ (List.mem_reverse.mp (List.getElem_mem hlt))) _
theorem fitL_ok (n : Nat) (ws : List Wd) : (fitL n ws).length = n ∧ ∀ lay ∈ fitL n ws, LayOk n lay := by
  unfold fitL
  rw [List.length_reverse]
  exact ⟨(fitP_ok n ws n (Nat.le_refl _)).1, fun lay hl => (fitP_ok n ws n (Nat.le_refl _)).2 lay (List.mem_reverse.mp hl)⟩
theorem nodup_small {N : Nat} {ks : List Nat} (nd : ks.Nodup) (h : ∀ k ∈ ks, k < N) : ks.length ≤ N := by
  have := nodup_len (l := ks.map fun k : Nat => (k : Int)) (m := (List.range N).map fun k : Nat => (k : Int)) (List.pairwise_map.mpr (nd.imp fun n e => n (by omega))) fun x hx => by
    obtain ⟨k, hk, rfl⟩ := List.mem_map.mp hx
    exact List.mem_map.mpr ⟨k, List.mem_range.mpr (h k hk), rfl⟩
  rw [List.length_map, List.length_map, List.length_range] at this
  exact this
end Deed

namespace Deed
open PySem PySem.Spec PySem.W PyProof.Rows L2 LamX
/-! ### a lost book: what the words let, what goes ahead, the deeds that may come next -/
def SqA (K : PySem.W.Frag) (H : Hp) (a : Addr) (xs : List V) : Prop := SqL K H a xs ∨ SqT K H a xs
def iAny (K : PySem.W.Frag) (td : TE) : TI := fun σ H R => td σ H fun x H1 => ∃ a xs, x = .ref a ∧ ((SqL K H1 a xs ∧ R (Itl K a) H1) ∨ (SqT K H1 a xs ∧ R (Itt K a) H1))
section
variable {X : Cx}
/-- a list or a tuple -/
theorem pi_any {tg l : Expr} {tl : TE} (hl : PE X l tl) : PI X tg l (iAny X.K tl) := by
  refine ⟨fun pins s σ H R I h => ?_⟩
  refine thn (hl.run pins s σ H _ I h) fun v s1 ⟨x, H1, I1, r1, a, xs, ex, h2⟩ => ?_
  subst ex
  cases r1
  have hn := I1.fpOk (Nat.le_refl _) (I1.hok.fresh (Nat.le_refl _))
  rcases h2 with ⟨hq, q⟩ | ⟨hq, q⟩
  · obtain ⟨its, rv, p, hz⟩ := I1.list hq
    refine wpAny_pyIter_list p.isList ⟨s1.heap.objs.size, [s1.heap.objs.size], _, _, H1, rfl, I1.kept (t' := s1.toks) fun b o e => Heap.get?_push_of_some _ e, turn_list a _, ⟨_, Heap.get?_push_size _ rfl, rfl, rfl⟩, fun b hb => ?_, q⟩
    obtain rfl : b = s1.heap.objs.size := by simpa using hb
    exact hn
  · obtain ⟨its, rv, p, hz⟩ := I1.tuple hq
    refine wpAny_pyIter_tuple (show s1.heap.IsTuple a its.toArray from p) ⟨s1.heap.objs.size, [s1.heap.objs.size], _, _, H1, rfl, I1.kept (t' := s1.toks) fun b o e => Heap.get?_push_of_some _ e, turn_tuple a _, ⟨_, Heap.get?_push_size _ rfl, rfl, rfl⟩, fun b hb => ?_, q⟩
    obtain rfl : b = s1.heap.objs.size := by simpa using hb
    exact hn
def rGetL (K : PySem.W.Frag) : V → V → Hp → VK → Prop := fun x y H Q => ∃ p xs k v, x = .ref p ∧ y = .int k ∧ SqL K H p xs ∧ 0 ≤ k ∧ k < 2 ^ 63 ∧ xs[k.toNat]? = some v ∧ Q v H
theorem get_list : PGet X (rGetL X.K) := by
  intro pins s σ H x y ov iv Q I rx ry h
  obtain ⟨p, xs, k, v, rfl, rfl, hq, h0, h1, hv, q⟩ := h
  cases rx
  obtain ⟨t, rfl⟩ := ry
  obtain ⟨its, r, pl, hz⟩ := I.list hq
  obtain ⟨w, ew, rw'⟩ := r.get hv
  exact getItem_listL pl.isList h0 h1 ew ⟨v, H, I, rw', q⟩
theorem ip_and : PIp X .BitAnd (rI0 fun i j => .int (Builtin.bitAnd i j)) := iop_and
theorem ip_or : PIp X .BitOr (rI0 fun i j => .int (Builtin.bitOr i j)) := iop_or
end
theorem sqL_sm {K : PySem.W.Frag} {H H' : Hp} {a : Addr} {xs : List V} (s : Same H H') (h : SqL K H a xs) : SqL K H' a xs := by
  rcases h with h | h
  · rcases h with h | ⟨o, h⟩
    · exact .inl (.inl (s _ _ h))
    · exact .inl (.inr ⟨o, s _ _ h⟩)
  · exact .inr h
theorem sqT_sm {K : PySem.W.Frag} {H H' : Hp} {a : Addr} {xs : List V} (s : Same H H') (h : SqT K H a xs) : SqT K H' a xs := by
  rcases h with h | h
  · rcases h with h | ⟨o, h⟩
    · exact .inl (.inl (s _ _ h))
    · exact .inl (.inr ⟨o, s _ _ h⟩)
  · exact .inr h
theorem SqA.sm {K : PySem.W.Frag} {H H' : Hp} {a : Addr} {xs : List V} (s : Same H H') (h : SqA K H a xs) : SqA K H' a xs := h.imp (sqL_sm s) (sqT_sm s)
/-- for x in a list or a tuple that stays -/
theorem for_any {K : PySem.W.Frag} {a : Addr} {xs : List V} {g : TG} {tb : TS} {D : Ends} {σ : L2.St} {H H0 : Hp} (hq : SqA K H0 a xs) (Pv : Nat → L2.St → Hp → Prop) (h0 : Pv 0 σ H) (hk : ∀ i σ H', Pv i σ H' → Same H0 H')
    (hs : ∀ i x σ H, xs[i]? = some x → Pv i σ H → g x σ H fun σ2 H2 => tb { D with nx := Pv (i + 1), ct := Pv (i + 1), bk := D.nx } σ2 H2) (hd : ∀ σ H, Pv xs.length σ H → D.nx σ H) {v : V} (ev : v = .ref a) :
    ∃ a xs, v = .ref a ∧ ((SqL K H a xs ∧ (fun J H1 => ∃ W : Nat → Nat → L2.St → Hp → Prop, (∃ m, W 0 m σ H1) ∧ ∀ i m σ H, W i m σ H →
      (J.stop i H ∧ D.nx σ H) ∨ (J.go i H ∧ ∃ N : L2.St → Hp → Prop, (∀ σ' H', N σ' H' → ∃ m', m' < m ∧ W (i + 1) m' σ' H') ∧ ∀ x H', J.yld i H x H' → g x σ H' fun σ2 H2 => tb { D with nx := N, ct := N, bk := D.nx } σ2 H2)) (Itl K a) H) ∨ (SqT K H a xs ∧ (fun J H1 => ∃ W : Nat → Nat → L2.St → Hp → Prop, (∃ m, W 0 m σ H1) ∧ ∀ i m σ H, W i m σ H →
      (J.stop i H ∧ D.nx σ H) ∨ (J.go i H ∧ ∃ N : L2.St → Hp → Prop, (∀ σ' H', N σ' H' → ∃ m', m' < m ∧ W (i + 1) m' σ' H') ∧ ∀ x H', J.yld i H x H' → g x σ H' fun σ2 H2 => tb { D with nx := N, ct := N, bk := D.nx } σ2 H2)) (Itt K a) H)) := by
  have sm := hk 0 σ H h0
  rcases hq with h | h
  · exact ⟨a, xs, ev, .inl ⟨sqL_sm sm h, for_it (walk_list (xs := xs)) Pv h0 (fun i σ H' hi p => sqL_sm (hk i σ H' p) h) (fun i x σ H' H'' hi p y => by obtain ⟨rfl, hx⟩ := y; exact hs i x σ H'' hx p) hd⟩⟩
  · exact ⟨a, xs, ev, .inr ⟨sqT_sm sm h, for_it (walk_tup (xs := xs)) Pv h0 (fun i σ H' hi p => sqT_sm (hk i σ H' p) h) (fun i x σ H' H'' hi p y => by obtain ⟨rfl, hx⟩ := y; exact hs i x σ H'' hx p) hd⟩⟩
theorem ixN_nat {n k : Nat} (h : k < n) : ixN n (k : Int) = some k := by
  unfold ixN
  simp
  omega
/-! bits -/
theorem band (a b : Nat) : Builtin.bitAnd (a : Int) (b : Int) = ((a &&& b : Nat) : Int) := os_band a b
theorem bnot_pos (b : Nat) : Builtin.bitNot (b : Int) = -(b : Int) - 1 := rfl
theorem bor (a b : Nat) : Builtin.bitOr (a : Int) (b : Int) = ((a ||| b : Nat) : Int) := by
  have e1 : Builtin.bitNot (Builtin.bitNot (a : Int)) = (a : Int) := by unfold Builtin.bitNot; omega
  have e2 : Builtin.bitNot (Builtin.bitNot (b : Int)) = (b : Int) := by unfold Builtin.bitNot; omega
  have n1 : decide (0 ≤ Builtin.bitNot (a : Int)) = false := decide_eq_false (by unfold Builtin.bitNot; omega)
  have n2 : decide (0 ≤ Builtin.bitNot (b : Int)) = false := decide_eq_false (by unfold Builtin.bitNot; omega)
  unfold Builtin.bitOr Builtin.bitAnd
  rw [n1, n2]
  show Builtin.bitNot (Builtin.bitNot _) = _
  rw [e1, e2]
  unfold Builtin.bitNot
  simp only [Int.toNat_natCast]
  omega
theorem bandn (a p : Nat) : Builtin.bitAnd (a : Int) (Builtin.bitNot ((2 : Int) ^ p)) = ((clr a p : Nat) : Int) := by
  have ep : ((2 : Int) ^ p) = ((2 ^ p : Nat) : Int) := by simp
  rw [ep]
  have key : ∀ m : Nat, Builtin.bitNot (Builtin.bitNot ((m : Nat) : Int)) = ((m : Nat) : Int) ∧ ¬ (0 ≤ Builtin.bitNot ((m : Nat) : Int)) := fun m => by unfold Builtin.bitNot; omega
  have e2 := (key (2 ^ p)).1
  have n1 : decide (0 ≤ (a : Int)) = true := decide_eq_true (by omega)
  have n2 : decide (0 ≤ Builtin.bitNot ((2 ^ p : Nat) : Int)) = false := decide_eq_false (key (2 ^ p)).2
  unfold Builtin.bitAnd
  rw [n1, n2]
  show (a : Int) - (((a : Int).toNat &&& (Builtin.bitNot (Builtin.bitNot ((2 ^ p : Nat) : Int))).toNat : Nat) : Int) = _
  rw [e2]
  simp only [Int.toNat_natCast]
  unfold clr
  have := Nat.and_le_left (n := a) (m := 2 ^ p)
  omega
theorem bitI_int (a p : Nat) : Builtin.bitAnd ((a : Int) / (2 : Int) ^ p) 1 = ((bitI a p : Nat) : Int) := by
  have ep : ((2 : Int) ^ p) = ((2 ^ p : Nat) : Int) := by simp
  rw [ep, ← Int.natCast_ediv, show (1 : Int) = ((1 : Nat) : Int) from rfl, band, Nat.and_one_is_mod]
  rfl
theorem one_shl (p : Nat) : ((2 : Int) ^ p) = ((2 ^ p : Nat) : Int) := by simp
end Deed

namespace Deed
open PySem PySem.Spec PySem.W PyProof.Rows L2 LamX
theorem flat_rep {α : Type} (x : α) : ∀ n : Nat, (List.replicate n [x]).flatten = List.replicate n x
  | 0 => rfl
  | n + 1 => by rw [List.replicate_succ, List.flatten_cons, flat_rep x n, List.replicate_succ]; rfl
/-- words that are some -/
def WsAt (K : PySem.W.Frag) (H : Hp) (v : V) (ws : List Wd) : Prop := ∃ (a : Addr) (zs : List (Addr × Wd)), v = .ref a ∧ SqA K H a (zs.map fun z => V.ref z.1) ∧ zs.map (·.2) = ws ∧ ∀ z ∈ zs, H z.1 = some (.tup [.str z.2.1, .int (z.2.2.1 : Int), .int (z.2.2.2 : Int)])
def WdsOk (n : Nat) (ws : List Wd) : Prop := ∀ w ∈ ws, w.2.1 < n ∧ w.2.2 < n
theorem WsAt.sm {K : PySem.W.Frag} {H H' : Hp} {v : V} {ws : List Wd} (h : WsAt K H v ws) (s : Same H H') : WsAt K H' v ws := by
  obtain ⟨a, zs, h1, h2, h3, h4⟩ := h
  exact ⟨a, zs, h1, h2.sm s, h3, fun z hz => s _ _ (h4 z hz)⟩
abbrev nI (l : List Nat) : List V := l.map fun k : Nat => V.int (k : Int)
theorem nI_get {l : List Nat} {k : Nat} (h : k < l.length) : (nI l)[((k : Nat) : Int).toNat]? = some (.int ((l.getD k 0 : Nat) : Int)) := by
  rw [Int.toNat_natCast, List.getElem?_map, List.getElem?_eq_getElem h, List.getD_eq_getElem?_getD, List.getElem?_eq_getElem h]
  rfl
theorem nI_set (l : List Nat) (k v : Nat) : (nI l).set k (.int (v : Int)) = nI (l.set k v) := by
  unfold nI
  rw [List.map_set]
section
variable {P : Program} {w : World} {K : PySem.W.Frag} {mg : Str → Option Value} {base : Heap}
def spAllBits : Sp := fun vs H Q _ => ∃ n : Nat, vs = [.int (n : Int)] ∧ n ≤ 7 ∧ Q (.int ((allB n : Nat) : Int)) H
def spWds (R : Nat → List Wd → List Nat) (K : PySem.W.Frag) : Sp := fun vs H Q _ => ∃ (n : Nat) (v : V) (ws : List Wd), vs = [.int (n : Int), v] ∧ n ≤ 7 ∧ WsAt K H v ws ∧ WdsOk n ws ∧ ∀ l H', Same H H' → H l = none → H' l = some (.lst (nI (R n ws))) → Q (.ref l) H'
end
end Deed

namespace Deed
open PySem PySem.Spec PySem.W PyProof.Rows L2 LamX
/-! ### a lost book: what is asked of it -/
def Tg.toWd : Tg → Wd | .tup [.str x, .int d, .int o] => (x, d.toNat, o.toNat) | _ => ("", 0, 0)
def Tg.toWds : Tg → List Wd | .tup ts => ts.map Tg.toWd | _ => []
def Tg.toN : Tg → Nat | .int i => i.toNat | _ => 0
theorem within_int {t : Tg} {lo hi : Int} (h : t.within lo hi = true) : ∃ i, t = .int i ∧ lo ≤ i ∧ i ≤ hi := by
  cases t with
  | int i =>
    have h : (decide (lo ≤ i) && decide (i ≤ hi)) = true := h
    rw [Bool.and_eq_true] at h
    exact ⟨i, rfl, of_decide_eq_true h.1, of_decide_eq_true h.2⟩
  | _ => cases h
theorem cw_of {n : Nat} {t : Tg} (h : isCwT (n : Int) t = true) : ∃ (x : Str) (d o : Nat), t = .tup [.str x, .int (d : Int), .int (o : Int)] ∧ d < n ∧ o < n ∧ t.toWd = (x, d, o) := by
  cases t with
  | tup ts =>
    match ts, h with
    | [a, b, c], h =>
      have h : (b.within 0 ((n : Int) - 1) && (c.within 0 ((n : Int) - 1) && wordOkT a b.toI c.toI)) = true := h
      rw [Bool.and_eq_true, Bool.and_eq_true] at h
      obtain ⟨d, rfl, d1, d2⟩ := within_int h.1
      obtain ⟨o, rfl, o1, o2⟩ := within_int h.2.1
      have hx : ∃ x, a = .str x := by
        have h3 := h.2.2
        cases a with
        | str x => exact ⟨x, rfl⟩
        | _ => cases h3
      obtain ⟨x, rfl⟩ := hx
      refine ⟨x, d.toNat, o.toNat, ?_, by omega, by omega, rfl⟩
      rw [show ((d.toNat : Nat) : Int) = d by omega, show ((o.toNat : Nat) : Int) = o by omega]
  | _ => cases h
theorem cws_of {p : Addr} {H : Hp} {n : Nat} : ∀ {ts : List Tg} {vs : List V}, TgAll p H vs ts → ts.all (isCwT (n : Int)) = true → ∃ zs : List (Addr × Wd), vs = zs.map (fun z => V.ref z.1) ∧ zs.map (·.2) = ts.map Tg.toWd ∧ (∀ z ∈ zs, H z.1 = some (.tup [.str z.2.1, .int (z.2.2.1 : Int), .int (z.2.2.2 : Int)])) ∧ ∀ z ∈ zs, z.2.2.1 < n ∧ z.2.2.2 < n
  | [], _, h, _ => by
    cases h
    exact ⟨[], rfl, rfl, fun _ h => (nomatch h), fun _ h => nomatch h⟩
  | t :: ts, _, h, ha => by
    rw [List.all_cons, Bool.and_eq_true] at ha
    cases h with
    | cons h1 h2 =>
      obtain ⟨zs, e1, e2, e3, e4⟩ := cws_of h2 ha.2
      obtain ⟨x, d, o, rfl, hd, ho, ew⟩ := cw_of ha.1
      cases h1 with
      | @tup a xs _ e hx =>
        cases hx with
        | cons x1 hx =>
        cases hx with
        | cons x2 hx =>
        cases hx with
        | cons x3 hx =>
        cases hx
        cases x1
        cases x2
        cases x3
        refine ⟨(a, x, d, o) :: zs, by rw [e1]; rfl, by rw [List.map_cons, List.map_cons, e2, ew], fun z hz => ?_, fun z hz => ?_⟩
        · rcases List.mem_cons.mp hz with rfl | hz
          · exact e
          · exact e3 z hz
        · rcases List.mem_cons.mp hz with rfl | hz
          · exact ⟨hd, ho⟩
          · exact e4 z hz
theorem ws_of {K : PySem.W.Frag} {p : Addr} {H : Hp} {n : Nat} {v : V} {t : Tg} (h : areCwT (n : Int) t = true) (ht : TgAt p H v t) : WsAt K H v t.toWds ∧ WdsOk n t.toWds ∧ t.toWds.length ≤ 8 := by
  cases t with
  | tup ts =>
    have h : (decide (ts.length ≤ 8) && ts.all (isCwT (n : Int))) = true := h
    rw [Bool.and_eq_true] at h
    cases ht with
    | @tup a xs _ e hx =>
      obtain ⟨zs, rfl, e2, e3, e4⟩ := cws_of hx h.2
      refine ⟨⟨a, zs, rfl, .inr (SqT.of e), e2, e3⟩, fun w hw => ?_, ?_⟩
      · rw [show (Tg.tup ts).toWds = ts.map Tg.toWd from rfl, ← e2] at hw
        obtain ⟨z, hz, rfl⟩ := List.mem_map.mp hw
        exact e4 z hz
      · show (ts.map Tg.toWd).length ≤ 8
        rw [List.length_map]
        exact of_decide_eq_true h.1
  | _ => cases h
def BadL (CS CW : Addr) (ts tw : Tg) (E : XK) (H : Hp) : Prop := ∀ H', Same H H' → (ts.within 1 7 = false → E (.ref CS) none H') ∧ (ts.within 1 7 = true → areCwT (ts.toN : Int) tw = false → E (.ref CW) none H')
theorem BadL.same {CS CW : Addr} {ts tw : Tg} {E : XK} {H H1 : Hp} (h : BadL CS CW ts tw E H) (s : Same H H1) : BadL CS CW ts tw E H1 := fun H' s' => h H' (s.trans s')
def OkL (ts tw : Tg) : Prop := ts.within 1 7 = true ∧ areCwT (ts.toN : Int) tw = true
def spLo (CS CW : Addr) (R : Nat → List Wd → Hp → V → Hp → Prop) : Sp := fun vs H Q E => ∃ (p : Addr) (f d : V) (ts tw : Tg), vs = [f, d] ∧ TgAt p H f ts ∧ TgAt p H d tw ∧ BadL CS CW ts tw E H ∧ (OkL ts tw → ∀ r H', Same H H' → R ts.toN tw.toWds H r H' → Q r H')
theorem okL_n {p : Addr} {H : Hp} {f : V} {ts tw : Tg} (o : OkL ts tw) (h : TgAt p H f ts) : ∃ n : Nat, ts.toN = n ∧ f = .int (n : Int) ∧ 1 ≤ n ∧ n ≤ 7 := by
  obtain ⟨i, rfl, h1, h2⟩ := within_int o.1
  cases h
  refine ⟨i.toNat, rfl, ?_, by omega, by omega⟩
  rw [show ((i.toNat : Nat) : Int) = i by omega]
section
variable {P : Program} {w : World} {K : PySem.W.Frag} {mg : Str → Option Value} {base : Heap}
abbrev sCheckL : Stmt := topS 12
abbrev nCheckL : List Str := ["size", "words"]
abbrev pCheckL : List Str := ["size", "words"]
theorem scCheckL : FnScope nCheckL pCheckL (defScope sCheckL) := ⟨rfl, rfl, rfl, by decide +kernel, rfl, by decide +kernel, by decide +kernel⟩
theorem okX_CheckL {f CS CW : Addr} {fd : FuncData} {k : Nat} (F : Fun K "check_lost" "check_lost" sCheckL f fd) (NS : ExcCl K mg "NoSize" CS) (NW : ExcCl K mg "NoWords" CW) (C_is_within : CallOk P w K mg base k "is_within" pIsWithin spWi) (C_are_copy_words : CallOk P w K mg base k "are_copy_words" pAreCw spAreCw) (iMOST_PAGES : MgInt mg "MOST_PAGES" 7) :
    FnOk P w K mg base (L2.CX P w) (k + 1) f fd pCheckL (spLo CS CW fun _ _ _ r _ => r = .non) := by
  refine F.okX scCheckL (fun vs H Q E h => ?_) (fun cdv A outer s H vs Q E hr h => ?_)
  · obtain ⟨p, f, d, ts, tw, rfl, _⟩ := h
    rfl
  · obtain ⟨p, fv, dv, ts, tw, rfl, hf, hd, bad, q⟩ := h
    refine ⟨_, pss_cons (ps_if (pt_not (pt_val (pe_call C_is_within.ok hr (by rfl) C_is_within.g C_is_within.kp C_is_within.b .nil pass0 (pa_cons (pv 0) (pa_cons pe_int (pa_cons (pe_num (by rfl) iMOST_PAGES) pa_nil)))))) (pss_one (ps_raise rfl (takes_of rfl rfl rfl rfl) (pmk_own PySem.F.excBase_ValueError NS.xP NS.gP NS.kP (raises_own NS.bP NS.tP) rfl))) pss_nil)
      (pss_one (ps_if (pt_not (pt_val (pe_call C_are_copy_words.ok hr (by rfl) C_are_copy_words.g C_are_copy_words.kp C_are_copy_words.b .nil pass0 (pa_cons (pv 0) (pa_cons (pv 1) pa_nil))))) (pss_one (ps_raise rfl (takes_of rfl rfl rfl rfl) (pmk_own PySem.F.excBase_ValueError NW.xP NW.gP NW.kP (raises_own NW.bP NW.tP) rfl))) pss_nil)), ?_⟩
    refine ⟨_, rfl, p, fv, ts, 1, 7, rfl, hf, fun H1 s1 => ⟨_, rfl, ?_⟩⟩
    cases c1 : ts.within 1 7 with
    | false => exact iteT ((bad _ s1).1 c1)
    | true =>
    obtain ⟨i, rfl, i1, i2⟩ := within_int c1
    cases hf
    have ei : ((Tg.int i).toN : Int) = i := by show ((i.toNat : Nat) : Int) = i; omega
    refine iteF ⟨_, rfl, _, rfl, p, i, dv, tw, rfl, TgAt.same s1 _ _ hd, fun H2 s2 => ⟨_, rfl, ?_⟩⟩
    cases c2 : areCwT i tw with
    | false => exact iteT ((bad _ (s1.trans s2)).2 c1 (by rw [ei]; exact c2))
    | true => exact iteF (q ⟨c1, by rw [ei]; exact c2⟩ .non _ (s1.trans s2) rfl)
end
end Deed

namespace Deed
open PySem PySem.Spec PySem.W PyProof.Rows L2 LamX
section
variable {X : Cx}
/-! what is never reached -/
theorem pe_never {e : Expr} : PE X e (fun _ _ _ => False) := ⟨fun _ _ _ _ _ _ h => h.elim⟩
theorem pt_never {e : Expr} : PT X e (fun _ _ _ => False) := ⟨fun _ _ _ _ _ _ h => h.elim⟩
theorem pss_never {st : List Stmt} : PSs X st (fun _ _ _ => False) := ⟨fun _ _ _ _ _ _ h => h.elim⟩
end
def WsT (K : PySem.W.Frag) (H : Hp) (a : Addr) (zs : List (Addr × Wd)) : Prop := SqT K H a (zs.map fun z => V.ref z.1) ∧ ∀ z ∈ zs, H z.1 = some (.tup [.str z.2.1, .int (z.2.2.1 : Int), .int (z.2.2.2 : Int)])
theorem WsT.sm {K : PySem.W.Frag} {H H' : Hp} {a : Addr} {zs : List (Addr × Wd)} (h : WsT K H a zs) (s : Same H H') : WsT K H' a zs := ⟨sqT_sm s h.1, fun z hz => s _ _ (h.2 z hz)⟩
theorem WsT.at {K : PySem.W.Frag} {H : Hp} {a : Addr} {zs : List (Addr × Wd)} (h : WsT K H a zs) : WsAt K H (.ref a) (zs.map (·.2)) := ⟨a, zs, rfl, .inr h.1, rfl, h.2⟩
theorem ws_ofT {K : PySem.W.Frag} {p : Addr} {H : Hp} {n : Nat} {v : V} {t : Tg} (h : areCwT (n : Int) t = true) (ht : TgAt p H v t) : ∃ a zs, v = .ref a ∧ WsT K H a zs ∧ zs.map (·.2) = t.toWds ∧ WdsOk n t.toWds ∧ zs.length ≤ 8 := by
  cases t with
  | tup ts =>
    have h : (decide (ts.length ≤ 8) && ts.all (isCwT (n : Int))) = true := h
    rw [Bool.and_eq_true] at h
    cases ht with
    | @tup a xs _ e hx =>
      obtain ⟨zs, rfl, e2, e3, e4⟩ := cws_of hx h.2
      refine ⟨a, zs, rfl, ⟨SqT.of e, e3⟩, e2, fun w hw => ?_, ?_⟩
      · rw [show (Tg.tup ts).toWds = ts.map Tg.toWd from rfl, ← e2] at hw
        obtain ⟨z, hz, rfl⟩ := List.mem_map.mp hw
        exact e4 z hz
      · have hl : ts.length ≤ 8 := of_decide_eq_true h.1
        have := congrArg List.length e2
        rw [List.length_map, List.length_map] at this
        omega
  | _ => cases h
def wdN : Wd := ("", 0, 0)
def pickW (ws : List Wd) (ks : List Nat) : List Wd := ks.map fun k => ws.getD k wdN
theorem pickW_ok {n : Nat} {ws : List Wd} {ks : List Nat} (h : WdsOk n ws) (hk : ∀ k ∈ ks, k < ws.length) : WdsOk n (pickW ws ks) := fun w hw => by
  obtain ⟨k, hkm, rfl⟩ := List.mem_map.mp hw
  have hlt := hk k hkm
  rw [List.getD_eq_getElem?_getD, List.getElem?_eq_getElem hlt]
  exact h _ (List.getElem_mem hlt)
def unf (n : Nat) (ws : List Wd) (row : List Nat) : Bool := !hasF n (pickW ws row)
def zPick (zs : List (Addr × Wd)) (k : Nat) : Addr × Wd := zs.getD k (0, wdN)
theorem zPick_get {zs : List (Addr × Wd)} {k : Nat} (h : k < zs.length) : zs[k]? = some (zPick zs k) := by
  unfold zPick
  rw [List.getD_eq_getElem?_getD, List.getElem?_eq_getElem h]
  rfl
theorem zPick_wd {zs : List (Addr × Wd)} {ks : List Nat} (hk : ∀ k ∈ ks, k < zs.length) : (ks.map (zPick zs)).map (·.2) = pickW (zs.map (·.2)) ks := by
  unfold pickW
  rw [List.map_map]
  refine List.map_congr_left fun k hkm => ?_
  have hlt := hk k hkm
  rw [List.getD_eq_getElem?_getD, List.getElem?_map, zPick_get hlt]
  rfl
end Deed

namespace Deed
open PySem PySem.Spec PyProof.Rows L2 LamX
theorem seqIx {i : Int} {n : Nat} (h0 : 0 ≤ i) (h1 : i < n) : seqIndex? i n = some i.toNat := seqIndex_of h0 h1
theorem perm_erase {α : Type} {l : List α} {k : Nat} {y : α} (h : l[k]? = some y) : (y :: l.eraseIdx k).Perm l := by
  induction l generalizing k with
  | nil => simp at h
  | cons a r ih =>
    cases k with
    | zero =>
      have e : a = y := by simpa using h
      subst e
      exact List.Perm.refl _
    | succ k =>
      have h' : r[k]? = some y := by simpa using h
      show (y :: a :: r.eraseIdx k).Perm (a :: r)
      exact (List.Perm.swap a y _).trans ((ih h').cons a)
theorem Kp.over {p l : Addr} {H H' : Hp} (k : Kp p H H') (n : H l = none) (o : HO) : Kp p H (upd H' l o) := fun b u n1 e => by
  rw [upd_ne (ne_of_none e n)]
  exact k _ _ n1 e
theorem PenAt.put {p l : Addr} {H : Hp} (h : PenAt H p) (n : l ≠ p) (o : HO) : PenAt (upd H l o) p := by
  obtain ⟨x1, x2, x3, x4, z1, z2⟩ := h
  exact ⟨x1, x2, x3, x4, by rw [upd_ne n.symm]; exact z1, z2⟩
end Deed

namespace Deed
open PySem PySem.Spec PyProof.Rows L2
section
variable {P : Program} {w : World} {K : PySem.W.Frag} {mg : Str → Option Value} {base : Heap} {fDr : Addr} {dDr : FuncData}
/-! ### in another order -/
abbrev sMixed : Stmt := topS 20
abbrev nMixed : List Str := ["_law_pen_here", "_law_some", "_law_left", "_law_k"]
theorem scMixed : FnScope nMixed ["_law_pen_here", "_law_some"] (defScope sMixed) := ⟨rfl, rfl, rfl, by decide +kernel, rfl, by decide +kernel, by decide +kernel⟩
def spMixed (K : PySem.W.Frag) : Sp := fun vs H Q _ => ∃ (p a : Addr) (xs : List V), vs = [.ref p, .ref a] ∧ PenAt H p ∧ (SqL K H a xs ∨ SqT K H a xs) ∧ xs.length ≤ 1000 ∧
  ∀ l (ys : List V) H', Kp p H H' → PenAt H' p → H l = none → H' l = some (.lst ys) → ys.Perm xs → Q (.ref l) H'
theorem ok_mixed {f : Addr} {fd : FuncData} {k : Nat} (F : Fun K "_law_mixed" "_law_mixed" sMixed f fd) (D : DrawD K mg fDr dDr) (B : Bi mg) : FnOk P w K mg base CX0 (k + 2) f fd ["_law_pen_here", "_law_some"] (spMixed K) := by
  have G : FnOk P w K mg base CX0 (k + 1) fDr dDr ["_law_pen_here", "_law_bound"] spDraw := ok_draw D.F
  refine F.ok scMixed (fun vs H Q E h => ?_) (fun cdv A outer s H vs Q E hr h => ?_)
  · obtain ⟨p, a, xs, rfl, _⟩ := h
    rfl
  · obtain ⟨p, a, xs, rfl, hP, hS, hxl, q⟩ := h
    refine ⟨_, pss_cons (ps_set (i := 2) scMixed.nd rfl (.inr rfl) (pe_callTy call_list_of (by rfl) B.list (by decide +kernel) (pa_cons (pv 1) pa_nil)))
      (pss_one (ps_ret (pe_lc (own := [("_law_k", 3)]) (g := gName 3) (by rfl) scMixed.nd (pi_range1 (by rfl) B.range (pa_cons (pe_callB call_len_seq (by rfl) B.len PySem.boot_len (pa_cons (pv 2) pa_nil)) pa_nil)) (blkOk_by (own := [("_law_k", 3)]) (N := nMixed) (sc := defScope sMixed) (by decide +kernel)) (fun _ _ _ _ _ => pg_name (i := 3) scMixed.nd rfl (Or.inl rfl)) (fun _ _ _ _ _ => pts_nil)
        (fun _ _ _ _ _ => show PE _ _ (tBM K "list" rPopAt (tVar 2) (tCons (tCall spDraw [] E0 (tCons (tVar 0) (tCons (tCB (rLenS K) (tCons (tVar 2) tNil)) tNil))) tNil)) from pe_bm PySem.F.plainAttrs_list PySem.F.slot_list_pop PySem.F.type_list_pop mt_popAt (pv 2) (pa_cons (pe_call G hr (by rfl) D.g D.F.kp D.b .nil pass0 (pa_cons (pv 0) (pa_cons (pe_callB call_len_seq (by rfl) B.len PySem.boot_len (pa_cons (pv 2) pa_nil)) pa_nil))) pa_nil))))), ?_⟩
    refine ⟨_, rfl, a, _, rfl, hS, fun l hl => ?_⟩
    have nl : l ≠ p := hP.free hl
    have el : (upd H l (.lst xs)) l = some (.lst xs) := upd_same
    refine ⟨_, rfl, l, xs, rfl, .inl (SqL.of el), _, rfl, by omega, by omega, fun o no => ?_⟩
    have no' : o ≠ p := (hP.new hl _).free no
    have nlo : l ≠ o := fun z => by
      rw [← z, el] at no
      cases no
    have hno : H o = none := by
      rw [upd_ne nlo.symm] at no
      exact no
    refine lc_range (lo := 0) (n := ((xs.length : Nat) : Int).toNat) (fun i H' => ∃ ys ls : List V, H' o = some (.lst ys) ∧ H' l = some (.lst ls) ∧ Kp p H H' ∧ PenAt H' p ∧ ys.length = i ∧ (ys ++ ls).Perm xs)
      ⟨[], xs, upd_same, by rw [upd_ne nlo]; exact el, (Kp.new hl _).trans (Kp.new no _), (hP.new hl _).new no _, rfl, List.Perm.refl _⟩ ?_ ?_
    · rintro i H' hi ⟨ys, ls, e1, e2, k', P', hyl, hpm⟩
      have hll : ls.length = xs.length - i := by
        have := hpm.length_eq
        rw [List.length_append] at this
        omega
      refine ⟨rfl, ?_⟩
      unfold tYes
      dsimp only
      rw [if_pos rfl]
      refine ⟨_, rfl, .inl ⟨rfl, _, SqL.of e2⟩, _, rfl, _, rfl, l, ls, rfl, .inl (SqL.of e2), p, _, rfl, P', by omega, by omega, fun v2 H2 k2 P2 a2 b2 => ?_⟩
      have e1' := k2 _ _ no' e1
      have e2' := k2 _ _ nl e2
      have hk : v2.toNat < ls.length := by omega
      refine ⟨l, _, v2, v2.toNat, ls[v2.toNat], rfl, rfl, e2', by omega, by omega, seqIx a2 (by omega), List.getElem?_eq_getElem hk, ?_⟩
      refine ⟨ys, by rw [upd_ne nlo.symm]; exact e1', small1000 (by omega), ys ++ [ls[v2.toNat]], ls.eraseIdx v2.toNat, upd_same, by rw [upd_ne nlo, upd_same], fun b z n1 e => ?_, ?_, ?_, ?_⟩
      · rw [upd_ne (ne_of_none e hno), upd_ne (ne_of_none e hl)]
        exact (k'.trans k2) _ _ n1 e
      · obtain ⟨x1, x2, x3, x4, z1, z2⟩ := P2
        exact ⟨x1, x2, x3, x4, by rw [upd_ne no'.symm, upd_ne nl.symm]; exact z1, z2⟩
      · rw [List.length_append, hyl]
        rfl
      · have h1 : (ls[v2.toNat] :: ls.eraseIdx v2.toNat).Perm ls := perm_erase (List.getElem?_eq_getElem hk)
        refine List.Perm.trans ?_ hpm
        rw [List.append_assoc]
        exact List.Perm.append_left ys h1
    · rintro H' ⟨ys, ls, e1, e2, k', P', hyl, hpm⟩
      refine q o ys H' k' P' hno e1 ?_
      have h0 : ls = [] := by
        have := hpm.length_eq
        rw [List.length_append] at this
        exact List.length_eq_zero_iff.mp (by omega)
      rw [h0, List.append_nil] at hpm
      exact hpm
end
end Deed

namespace Deed
open PySem PySem.Spec PyProof.Rows L2 LamX
section
variable {P : Program} {w : World} {K : PySem.W.Frag} {mg : Str → Option Value} {base : Heap}
abbrev CDrw (P : Program) (w : World) (K : PySem.W.Frag) (mg : Str → Option Value) (base : Heap) (k : Nat) := CallOk P w K mg base k "_law_draw" ["_law_pen_here", "_law_bound"] spDraw
abbrev sLThing : Stmt := topS 23
abbrev nLThing : List Str := ["_law_pen_here", "_law_deep", "_law_way", "_law_parts", "_law_k"]
abbrev pLThing : List Str := ["_law_pen_here", "_law_deep"]
theorem scLThing : FnScope nLThing pLThing (defScope sLThing) := ⟨rfl, rfl, rfl, by decide +kernel, rfl, by decide +kernel, by decide +kernel⟩
def spLThing (n : Nat) : Sp := fun vs H Q _ => ∃ (p : Addr) (deep : Int), vs = [.ref p, .int deep] ∧ PenAt H p ∧ 0 ≤ deep ∧ deep < n ∧ ∀ v H', Kp p H H' → PenAt H' p → (∃ t, TgAt p H' v t) → Q v H'
theorem ok_LThing {f : Addr} {fd : FuncData} {k : Nat} (D : Df K mg "_law_thing" sLThing pLThing f fd) (cDr : ∀ n, CDrw P w K mg base (k + n)) (m_range : mg "range" = none) (m_tuple : mg "tuple" = none) : ∀ n : Nat, FnOk P w K mg base CX0 (k + n + 1) f fd pLThing (spLThing n)
  | 0 => by
    refine D.F.ok scLThing (fun vs H Q E h => ?_) (fun cdv A outer s H vs Q E hr h => ?_)
    · obtain ⟨p, deep, rfl, _⟩ := h
      rfl
    · obtain ⟨p, deep, rfl, _, h0, h1, _⟩ := h
      omega
  | n + 1 => by
    have C__law_thing : CallOk P w K mg base (k + (n + 1)) "_law_thing" pLThing (spLThing n) := D.call (ok_LThing D cDr m_range m_tuple n)
    have C__law_draw := cDr (n + 1)
    refine D.F.ok scLThing (fun vs H Q E h => ?_) (fun cdv A outer s H vs Q E hr h => ?_)
    · obtain ⟨p, deep, rfl, _⟩ := h
      rfl
    · obtain ⟨p, deep, rfl, hP, h0, h1, q⟩ := h
      have nd := scLThing.nd
      refine ⟨_, pss_cons (ps_set (i := 2) nd rfl (.inl rfl) (pe_call C__law_draw.ok hr (by rfl) C__law_draw.g C__law_draw.kp C__law_draw.b .nil pass0 (pa_cons (pv 0) (pa_cons pe_int pa_nil))))
      (pss_cons (ps_if (PW.pt (pw_or (pt_cmpR op_lt (pv 2) pe_int (nomark _)) (pw_or1 (pt_cmpR op_eq (pv 1) pe_int (nomark _))))) (pss_one (ps_ret (pe_ix ix_list (pe_lst (pa_cons pe_non (pa_cons pe_bl (pa_cons pe_bl (pa_cons pe_int (pa_cons pe_int (pa_cons (pe_un un_neg pe_int) (pa_cons pe_int (pa_cons (pe_op op_pow pe_int pe_int) (pa_cons pe_str (pa_cons pe_str (pa_cons (pe_tup pa_nil) (pa_cons (pe_lst pa_nil) pa_nil))))))))))))) (pe_call C__law_draw.ok hr (by rfl) C__law_draw.g C__law_draw.kp C__law_draw.b .nil pass0 (pa_cons (pv 0) (pa_cons pe_int pa_nil))) (fun _ _ => rfl)))) pss_nil)
      (pss_cons (ps_setLc (i := 3) (own := [("_law_k", 4)]) (g := gName 4) (by rfl) nd rfl rfl (sw_true rfl rfl rfl (by decide +kernel)) (pi_range1 rfl m_range (pa_cons (pe_call C__law_draw.ok hr (by rfl) C__law_draw.g C__law_draw.kp C__law_draw.b .nil pass0 (pa_cons (pv 0) (pa_cons pe_int pa_nil))) pa_nil)) (blkOk_by (own := [("_law_k", 4)]) (N := nLThing) (sc := defScope sLThing) (by decide +kernel)) (fun _ _ _ _ _ => (pg_name (i := 4) nd rfl (.inl rfl))) (fun _ _ _ _ _ => pts_nil)
          (fun _ _ _ _ _ => (pe_call C__law_thing.ok hr (by rfl) C__law_thing.g C__law_thing.kp C__law_thing.b .nil pass0 (pa_cons (pv 0) (pa_cons (pe_op op_sub (pv 1) pe_int) pa_nil)))))
      (pss_cons (ps_if (pt_cmpR op_eq (pv 2) pe_int (nomark _)) (pss_one (ps_ret (pv 3))) pss_nil)
      (pss_cons (ps_if (pt_cmpR op_eq (pv 2) pe_int (nomark _)) (pss_one (ps_ret (pe_disp (pps_cons pe_str (pv 3) pps_nil) rfl rfl (by simp) (by decide)))) pss_nil)
      (pss_one (ps_ret (pe_callTy call_tuple_of (by rfl) m_tuple (by decide +kernel) (pa_cons (pv 3) pa_nil)))))))), ?_⟩
      refine ⟨_, rfl, p, 12, rfl, hP, by decide, by decide, fun way H1 k1 P1 a1 b1 => ?_⟩
      refine ⟨_, rfl, _, _, rfl, rfl, _, rfl, ?_⟩
      refine ite2 (fun c => ?_) (fun c => ⟨_, rfl, rfl, _, rfl, ite2 (fun c2 => ?_) (fun c2 => ?_)⟩)
      rotate_right 1
      · have hd : deep ≠ 0 := fun h => c2 (decide_eq_true (congrArg V.int h))
        refine ⟨_, rfl, p, 4, rfl, P1, by decide, by decide, fun m H2 k2 P2 a2 b2 => ?_⟩
        refine ⟨_, rfl, by omega, by omega, fun M nM => ?_⟩
        have nMp : M ≠ p := P2.free nM
        refine lc_range (lo := 0) (n := m.toNat) (fun i H' => ∃ (xs : List V) (ts : List Tg), H' M = some (.lst xs) ∧ Kp p H2 H' ∧ PenAt H' p ∧ xs.length = i ∧ TgAll p H' xs ts) ⟨[], [], upd_same, Kp.new nM _, P2.new nM _, rfl, .nil⟩ ?_ ?_
        · rintro i H3 hi ⟨xs, ts, eM, k3, P3, hl, hts⟩
          refine ⟨rfl, ?_⟩
          unfold tYes
          dsimp only
          rw [if_pos rfl]
          refine ⟨_, rfl, _, rfl, _, _, rfl, rfl, p, deep - 1, rfl, P3, by omega, by omega, fun v H4 k4 P4 ⟨t, hv⟩ => ?_⟩
          have eM4 := k4 _ _ nMp eM
          have hxs4 : ∀ x ∈ xs ++ [v], ∃ t, TgAt p (upd H4 M (.lst (xs ++ [v]))) x t := fun x hx => by
            have h5 : ∃ t, TgAt p H4 x t := by
              rcases List.mem_append.mp hx with hx | hx
              · obtain ⟨t', _, ht'⟩ := hts.mem hx
                exact ⟨t', TgAt.kp k4 P3 _ _ ht'⟩
              · rw [List.mem_singleton.mp hx]
                exact ⟨t, hv⟩
            obtain ⟨t5, h5⟩ := h5
            exact ⟨t5, TgAt.relist eM4 t5 x h5⟩
          obtain ⟨ts', hts'⟩ := TgAll.mk hxs4
          exact ⟨_, eM4, small1000 (by omega), xs ++ [v], ts', upd_same, (k3.trans k4).over nM _, P4.put nMp _, by rw [List.length_append, hl]; rfl, hts'⟩
        rintro H3 ⟨xs, ts, eM, k3, P3, hl, hts⟩
        have k03 := k1.trans (k2.trans k3)
        refine ⟨_, rfl, rfl, _, rfl, ite2 (fun c => ⟨_, rfl, q _ H3 k03 P3 ⟨_, .lst nMp eM⟩⟩) (fun c => ⟨_, rfl, rfl, _, rfl, ite2 (fun c => ?_) (fun c => ?_)⟩)⟩
        · intro d nd'
          have ndp : d ≠ p := P3.free nd'
          exact ⟨_, rfl, upd_same, [(Sum.inr "a", .ref M)], rfl, (by show 1 ≤ 15; omega), q _ _ ((k03.trans (Kp.new nd' _)).over (k03.noneG ndp nd') _) ((P3.new nd' _).put ndp _) ⟨_, .dct ndp upd_same⟩⟩
        · exact ⟨_, rfl, M, _, rfl, .inl ⟨SqL.of eM, fun t nt => q _ _ (k03.trans (Kp.new nt _)) (P3.new nt _) ⟨_, .tup upd_same (TgAll.kp (Kp.new nt _) P3 _ _ hts)⟩⟩⟩
      all_goals
        refine ⟨_, rfl, _, _, rfl, rfl, ⟨by decide, by decide, by decide⟩, Nat.zero_le _, fun t1 nt1 => ?_⟩
        have P2 := P1.new nt1 (.tup [])
        have k2 : Kp p H1 (upd H1 t1 (.tup [])) := Kp.new nt1 _
        have e2 : (upd H1 t1 (.tup [])) t1 = some (.tup []) := upd_same
        generalize (upd H1 t1 (.tup [])) = H2 at P2 k2 e2
        refine ⟨Nat.zero_le _, fun l2 nl2 => ?_⟩
        have P3 := P2.new nl2 (.lst [])
        have k3 : Kp p H2 (upd H2 l2 (.lst [])) := Kp.new nl2 _
        have s3 := same_new nl2 (.lst [])
        have e3 : (upd H2 l2 (.lst [])) l2 = some (.lst []) := upd_same
        have np2 : l2 ≠ p := P2.free nl2
        generalize (upd H2 l2 (.lst [])) = H3 at P3 k3 s3 e3
        refine ⟨(by show 12 ≤ sizeLine; decide), fun l3 nl3 => ?_⟩
        have np3 : l3 ≠ p := P3.free nl3
        have s4 := same_new nl3 (.lst [.non, .bl true, .bl false, .int 0, .int 1, .int (-1), .int 9, .int (10 ^ (39 : Int).toNat), .str "", .str "a", .ref t1, .ref l2])
        refine ⟨_, rfl, p, 12, rfl, P3.new nl3 _, by decide, by decide, fun u H5 k5 P5 a5 b5 => ?_⟩
        obtain ⟨v, gv, hv⟩ := pick (xs := [.non, .bl true, .bl false, .int 0, .int 1, .int (-1), .int 9, .int (10 ^ (39 : Int).toNat), .str "", .str "a", .ref t1, .ref l2]) (fun v => ∃ o, TgAt p H5 v o) a5 b5 (am1 ⟨_, .non⟩ (am1 ⟨_, .bl _⟩ (am1 ⟨_, .bl _⟩ (am1 ⟨_, .int _⟩ (am1 ⟨_, .int _⟩ (am1 ⟨_, .int _⟩ (am1 ⟨_, .int _⟩ (am1 ⟨_, .int _⟩ (am1 ⟨_, .str _⟩ (am1 ⟨_, .str _⟩ (am1 ⟨_, .tup (k5.tup (P3.new nl3 _) _ _ (s4 _ _ (s3 _ _ e2))) .nil⟩ (am1 ⟨_, .lst np2 (k5 _ _ np2 (s4 _ _ e3))⟩ am0))))))))))))
        exact ⟨l3, _, u, v, rfl, rfl, SqL.of (k5 _ _ np3 upd_same), gv, q v H5 (k1.trans (k2.trans (k3.trans ((Kp.new nl3 _).trans k5)))) P5 hv⟩
end
end Deed

namespace Deed
open PySem PySem.Spec PyProof.Rows L2 LamX
def FitsN : Nat → Tg → Prop
  | 0, _ => False
  | n + 1, .tup ts => ts.length ≤ 300 ∧ ∀ t ∈ ts, FitsN n t
  | _ + 1, .str x => x.length ≤ 300
  | _ + 1, .int i => i.natAbs.log2 < 1920
  | _ + 1, _ => True
theorem TgAt.num {p : Addr} {H : Hp} {v : V} {t : Tg} {n : Nat} (h : TgAt p H v t) (hf : FitsN (n + 1) t) (hi : t.isI = true) : ∃ i, numOf v = some i ∧ i.natAbs.log2 < 1920 := by
  cases h with
  | int i => exact ⟨i, rfl, hf⟩
  | bl b => exact ⟨_, rfl, by cases b <;> decide⟩
  | _ => cases hi
theorem cutV_le (xs : List V) (lo hi : Option Int) : (cutV xs lo hi).length ≤ xs.length := cutV_length xs lo hi
section
variable {P : Program} {w : World} {K : PySem.W.Frag} {mg : Str → Option Value} {base : Heap}
abbrev sLSpoilt : Stmt := topS 24
abbrev nLSpoilt : List Str := ["_law_pen_here", "_law_thing_here", "_law_at", "_law_way"]
abbrev pLSpoilt : List Str := ["_law_pen_here", "_law_thing_here"]
theorem scLSpoilt : FnScope nLSpoilt pLSpoilt (defScope sLSpoilt) := ⟨rfl, rfl, rfl, by decide +kernel, rfl, by decide +kernel, by decide +kernel⟩
def spLSpoilt (n : Nat) : Sp := fun vs H Q _ => ∃ (p : Addr) (v : V) (t : Tg), vs = [.ref p, v] ∧ PenAt H p ∧ TgAt p H v t ∧ FitsN n t ∧ ∀ v' H', Kp p H H' → PenAt H' p → (∃ t', TgAt p H' v' t') → Q v' H'
theorem ok_LSpoilt {f : Addr} {fd : FuncData} {k : Nat} (D : Df K mg "_law_spoilt" sLSpoilt pLSpoilt f fd) (cDr : ∀ n, CDrw P w K mg base (k + n)) (cTh : ∀ n, CallOk P w K mg base (k + n) "_law_thing" pLThing (spLThing 3)) (m_isinstance : mg "isinstance" = none) (m_tuple : mg "tuple" = none) (m_len : mg "len" = none) (m_list : mg "list" = none) (m_int : mg "int" = none) (m_str : mg "str" = none) : ∀ n : Nat, FnOk P w K mg base CX0 (k + n + 1) f fd pLSpoilt (spLSpoilt n)
  | 0 => by
    refine D.F.ok scLSpoilt (fun vs H Q E h => ?_) (fun cdv A outer s H vs Q E hr h => ?_)
    · obtain ⟨p, v, t, rfl, _⟩ := h
      rfl
    · obtain ⟨p, v, t, rfl, _, _, h0, _⟩ := h
      exact h0.elim
  | n + 1 => by
    have C__law_spoilt : CallOk P w K mg base (k + (n + 1)) "_law_spoilt" pLSpoilt (spLSpoilt n) := D.call (ok_LSpoilt D cDr cTh m_isinstance m_tuple m_len m_list m_int m_str n)
    have C__law_draw := cDr (n + 1)
    have C__law_thing := cTh (n + 1)
    refine D.F.ok scLSpoilt (fun vs H Q E h => ?_) (fun cdv A outer s H vs Q E hr h => ?_)
    · obtain ⟨p, v, t, rfl, _⟩ := h
      rfl
    · obtain ⟨p, v, t, rfl, hP, hT, hf, q⟩ := h
      have nd := scLSpoilt.nd
      refine ⟨_, C8.pss_cut (ps_if (PW.pt (pw_and (pt_val (pe_callB call_isi (by rfl) m_isinstance (by decide +kernel) (pa_cons (pv 1) (pa_cons (pe_bltn (v := .ty "tuple") (by rfl) m_tuple (by decide +kernel) rfl) pa_nil)))) (pw_and (pt_cmpR (op_neTE hr.units) (pv 1) (pe_tup pa_nil) (nomark _)) (pw_and1 (pt_cmpR op_gt (pe_call C__law_draw.ok hr (by rfl) C__law_draw.g C__law_draw.kp C__law_draw.b .nil pass0 (pa_cons (pv 0) (pa_cons pe_int pa_nil))) pe_int (nomark _)))))) (pss_cons (ps_set (i := 2) nd rfl (.inl rfl) (pe_call C__law_draw.ok hr (by rfl) C__law_draw.g C__law_draw.kp C__law_draw.b .nil pass0 (pa_cons (pv 0) (pa_cons (pe_callB call_len_seq (by rfl) m_len (by decide +kernel) (pa_cons (pv 1) pa_nil)) pa_nil))))
      (pss_one (ps_ret (pe_op op_catA (pe_op op_catA (pe_slice sl_tupA (pv 1) po_none (po_some (pv 2))) (pe_tup (pa_cons (pe_call C__law_spoilt.ok hr (by rfl) C__law_spoilt.g C__law_spoilt.kp C__law_spoilt.b .nil pass0 (pa_cons (pv 0) (pa_cons (pe_ix ix_tup (pv 1) (pv 2) (fun _ _ => rfl)) pa_nil))) pa_nil))) (pe_slice sl_tupA (pv 1) (po_some (pe_op op_add (pv 2) pe_int)) po_none))))) pss_nil)
      (pss_cons (ps_set (i := 3) nd rfl (.inl rfl) (pe_call C__law_draw.ok hr (by rfl) C__law_draw.g C__law_draw.kp C__law_draw.b .nil pass0 (pa_cons (pv 0) (pa_cons pe_int pa_nil))))
      (C8.pss_cut (ps_if (PW.pt (pw_and (pt_val (pe_callB call_isi (by rfl) m_isinstance (by decide +kernel) (pa_cons (pv 1) (pa_cons (pe_bltn (v := .ty "tuple") (by rfl) m_tuple (by decide +kernel) rfl) pa_nil)))) (pw_and1 (pt_cmpR op_lt (pv 3) pe_int (nomark _))))) (pss_one (ps_ret (pe_ix ix_list (pe_lst (pa_cons (pe_op op_catA (pv 1) (pe_slice sl_tupA (pv 1) (po_some (pe_un un_neg pe_int)) po_none)) (pa_cons (pe_slice sl_tupA (pv 1) po_none (po_some (pe_un un_neg pe_int))) (pa_cons (pe_callTy call_list_of (by rfl) m_list (by decide +kernel) (pa_cons (pv 1) pa_nil)) (pa_cons (pe_revT (pv 1)) pa_nil))))) (pv 3) (fun _ _ => rfl)))) pss_nil)
      (C8.pss_cut (ps_if (PW.pt (pw_and (pt_val (pe_callB call_isi (by rfl) m_isinstance (by decide +kernel) (pa_cons (pv 1) (pa_cons (pe_bltn (v := .ty "int") (by rfl) m_int (by decide +kernel) rfl) pa_nil)))) (pw_and1 (pt_cmpR op_lt (pv 3) pe_int (nomark _))))) (pss_one (ps_ret (pe_ix ix_list (pe_lst (pa_cons (pe_op op_addTI (pv 1) pe_int) (pa_cons (pe_op op_subTI (pv 1) pe_int) (pa_cons (pe_cmpR op_gtTI (pv 1) pe_int (nomark _)) (pa_cons (pe_callTy call_strTI (by rfl) m_str (by decide +kernel) (pa_cons (pv 1) pa_nil)) pa_nil))))) (pv 3) (fun _ _ => rfl)))) pss_nil)
      (C8.pss_cut (ps_if (PW.pt (pw_and (pt_val (pe_callB call_isi (by rfl) m_isinstance (by decide +kernel) (pa_cons (pv 1) (pa_cons (pe_bltn (v := .ty "str") (by rfl) m_str (by decide +kernel) rfl) pa_nil)))) (pw_and1 (pt_cmpR op_lt (pv 3) pe_int (nomark _))))) (pss_one (ps_ret (pe_ix ix_list (pe_lst (pa_cons (pe_op op_add_str (pv 1) pe_str) (pa_cons (pe_upper (pv 1)) (pa_cons (pe_slice sl_str (pv 1) po_none (po_some (pe_un un_neg pe_int))) (pa_cons (pe_op op_add_str pe_str (pv 1)) pa_nil))))) (pv 3) (fun _ _ => rfl)))) pss_nil)
      (pss_one (ps_ret (pe_call C__law_thing.ok hr (by rfl) C__law_thing.g C__law_thing.kp C__law_thing.b .nil pass0 (pa_cons (pv 0) (pa_cons pe_int pa_nil))))))))), ?_⟩
      refine ⟨fun σ' H' => ∃ y2, σ' = [some (.ref p), some v, y2, none] ∧ Kp p H H' ∧ PenAt H' p, ?_, ?_⟩
      · refine ⟨_, rfl, _, _, _, _, t.isT, rfl, .ty "tuple", hT.ty, kit_ty t.kT, _, rfl, ?_⟩
        refine ite2 (fun c => ?_) (fun c => ⟨_, rfl, Kp.refl _ _, hP⟩)
        obtain ⟨a, xs, ts, rfl, rfl, ea, hts⟩ := hT.tupOf c
        refine ⟨_, rfl, Nat.zero_le _, fun t1 nt1 => ?_⟩
        have s1 := same_new nt1 (.tup [])
        have e1 : (upd H t1 (.tup [])) t1 = some (.tup []) := upd_same
        have P1 := hP.new nt1 (.tup [])
        generalize (upd H t1 (.tup [])) = H1 at s1 e1 P1
        refine ⟨a, t1, xs, rfl, rfl, SqT.of (s1 _ _ ea), SqT.of e1, _, rfl, ?_⟩
        refine ite2 (fun c1 => ?_) (fun c1 => ⟨_, rfl, Kp.same s1, P1⟩)
        refine ⟨_, rfl, p, 6, rfl, P1, by decide, by decide, fun u H2 k2 P2 a2 b2 => ⟨_, _, rfl, rfl, _, rfl, ?_⟩⟩
        have k02 : Kp p H H2 := (Kp.same s1).trans k2
        refine ite2 (fun c2 => ?_) (fun c2 => ⟨_, rfl, k02, P2⟩)
        have hne : xs ≠ [] := fun z => by
          subst z
          cases c1
        have hl0 : 0 < xs.length := List.length_pos_iff.mpr hne
        have hl9 : xs.length ≤ 300 := by rw [hts.length]; exact hf.1
        have ea2 := k02.tup hP _ _ ea
        have hts2 := TgAll.kp k02 hP _ _ hts
        refine ⟨_, rfl, _, rfl, a, _, rfl, .inr (SqT.of ea2), p, _, rfl, P2, by omega, by omega, fun at_ H3 k3 P3 a3 b3 => ?_⟩
        have ea3 := k3.tup P2 _ _ ea2
        have hts3 := TgAll.kp k3 P2 _ _ hts2
        refine ⟨_, rfl, _, rfl, _, rfl, slA_same ea3 fun t4 H4 s4 e4 => ?_⟩
        have P4 : PenAt H4 p := by
          obtain ⟨x1, x2, x3, x4, z1, z2⟩ := P3
          exact ⟨x1, x2, x3, x4, s4 _ _ z1, z2⟩
        have hix : at_.toNat < xs.length := by omega
        have hv : xs[at_.toNat]? = some xs[at_.toNat] := List.getElem?_eq_getElem hix
        obtain ⟨tv, htv, hatv⟩ := (TgAll.same s4 _ _ hts3).get hv
        refine ⟨_, rfl, _, rfl, _, rfl, a, _, at_, xs[at_.toNat], rfl, rfl, SqT.of (s4 _ _ ea3), at_of (j := at_.toNat) (by omega) hv, p, _, tv, rfl, P4, hatv, hf.2 tv (List.mem_of_getElem? htv), fun v5 H5 k5 P5 ⟨t5, h5⟩ => ?_⟩
        refine ⟨(by show 1 ≤ sizeLine; decide), fun t6 nt6 => ?_⟩
        have s6 := same_new nt6 (.tup [v5])
        have e6 : (upd H5 t6 (.tup [v5])) t6 = some (.tup [v5]) := upd_same
        have P6 := P5.new nt6 (.tup [v5])
        generalize (upd H5 t6 (.tup [v5])) = H6 at s6 e6 P6
        have k46 : Kp p H4 H6 := k5.trans (Kp.same s6)
        have hc4 := cutV_le xs none (some at_)
        refine catA_same (k46.tup P4 _ _ e4) e6 (by show _ + 1 ≤ 1000; omega) fun t7 H7 s7 e7 => ?_
        have k37 : Kp p H3 H7 := (Kp.same s4).trans (k46.trans (Kp.same s7))
        refine ⟨_, rfl, _, rfl, _, _, rfl, rfl, _, rfl, ?_⟩
        dsimp only [tNoPart]
        refine slA_same (k37.tup P3 _ _ ea3) fun t8 H8 s8 e8 => ?_
        have hc8 := cutV_le xs (some (at_ + 1)) none
        refine catA_same (s8 _ _ e7) e8 (by rw [List.length_append]; show _ + 1 + _ ≤ 1000; omega) fun t9 H9 s9 e9 => ?_
        have s69 := s7.trans (s8.trans s9)
        have k39 : Kp p H3 H9 := k37.trans (Kp.same (s8.trans s9))
        have P9 : PenAt H9 p := by
          obtain ⟨x1, x2, x3, x4, z1, z2⟩ := P6
          exact ⟨x1, x2, x3, x4, s69 _ _ z1, z2⟩
        have hts9 := TgAll.kp k39 P3 _ _ hts3
        obtain ⟨u1, hu1⟩ := hts9.cut none (some at_)
        obtain ⟨u2, hu2⟩ := hts9.cut (some (at_ + 1)) none
        exact q _ H9 (k02.trans (k3.trans k39)) P9 ⟨_, .tup e9 ((hu1.append (.cons (TgAt.same (s6.trans s69) _ _ h5) .nil)).append hu2)⟩
      rintro _ H1 ⟨y2, rfl, k1, P1⟩
      have hT1 := TgAt.kp k1 hP _ _ hT
      refine ⟨_, rfl, p, 8, rfl, P1, by decide, by decide, fun way H2 k2 P2 a2 b2 => ?_⟩
      have hT2 := TgAt.kp k2 P1 _ _ hT1
      have k02 := k1.trans k2
      refine ⟨fun σ' H' => σ' = [some (.ref p), some v, y2, some (.int way)] ∧ H' = H2, ?_, ?_⟩
      · refine ⟨_, rfl, _, _, _, _, t.isT, rfl, .ty "tuple", hT2.ty, kit_ty t.kT, _, rfl, ?_⟩
        refine ite2 (fun c => ?_) (fun c => ⟨rfl, rfl⟩)
        refine ⟨_, rfl, _, _, rfl, rfl, _, rfl, ?_⟩
        refine ite2 (fun c1 => ?_) (fun c1 => ⟨rfl, rfl⟩)
        have hw4 : way < 4 := of_decide_eq_true c1
        obtain ⟨a, xs, ts, rfl, rfl, ea, hts⟩ := hT2.tupOf c
        have hl9 : xs.length ≤ 300 := by rw [hts.length]; exact hf.1
        refine ⟨_, rfl, _, rfl, _, rfl, _, rfl, ?_⟩
        dsimp only [tNoPart]
        refine slA_same ea fun t3 H3 s3 e3 => ?_
        have hc3 := cutV_le xs (some (-1)) none
        refine catA_same (s3 _ _ ea) e3 (by omega) fun t4 H4 s4 e4 => ?_
        have s24 := s3.trans s4
        refine ⟨_, rfl, _, rfl, _, rfl, slA_same (s24 _ _ ea) fun t5 H5 s5 e5 => ?_⟩
        have s25 := s24.trans s5
        refine ⟨_, rfl, a, _, rfl, .inr (SqT.of (s25 _ _ ea)), fun l6 nl6 => ?_⟩
        have s6 := same_new nl6 (.lst xs)
        have e6 : (upd H5 l6 (.lst xs)) l6 = some (.lst xs) := upd_same
        have nlp : l6 ≠ p := fun z => by
          obtain ⟨x1, x2, x3, x4, z1, z2⟩ := P2
          rw [z, s25 _ _ z1] at nl6
          cases nl6
        generalize (upd H5 l6 (.lst xs)) = H6 at s6 e6
        have s26 := s25.trans s6
        refine ⟨_, rfl, a, _, rfl, SqT.of (s26 _ _ ea), fun t7 nt7 => ?_⟩
        have s7 := same_new nt7 (.tup xs.reverse)
        have e7 : (upd H6 t7 (.tup xs.reverse)) t7 = some (.tup xs.reverse) := upd_same
        generalize (upd H6 t7 (.tup xs.reverse)) = H7 at s7 e7
        have s27 := s26.trans s7
        refine ⟨(by show 4 ≤ sizeLine; decide), fun l8 nl8 => ?_⟩
        have s8 := same_new nl8 (.lst [.ref t4, .ref t5, .ref l6, .ref t7])
        have e8 : (upd H7 l8 (.lst [.ref t4, .ref t5, .ref l6, .ref t7])) l8 = some (.lst [.ref t4, .ref t5, .ref l6, .ref t7]) := upd_same
        generalize (upd H7 l8 (.lst [.ref t4, .ref t5, .ref l6, .ref t7])) = H8 at s8 e8
        have s28 := s27.trans s8
        have hts8 := TgAll.same s28 _ _ hts
        obtain ⟨u1, hu1⟩ := hts8.cut (some (-1)) none
        obtain ⟨u2, hu2⟩ := hts8.cut none (some (-1))
        obtain ⟨vv, gv, hv⟩ := pick (i := way) (xs := [.ref t4, .ref t5, .ref l6, .ref t7]) (fun v => ∃ o, TgAt p H8 v o) a2 (by show way < 4; exact hw4) (am1 ⟨_, .tup ((s5.trans (s6.trans (s7.trans s8))) _ _ e4) (hts8.append hu1)⟩ (am1 ⟨_, .tup ((s6.trans (s7.trans s8)) _ _ e5) hu2⟩ (am1 ⟨_, .lst nlp ((s7.trans s8) _ _ e6)⟩ (am1 ⟨_, .tup (s8 _ _ e7) hts8.reverse⟩ am0))))
        have P8 : PenAt H8 p := by
          obtain ⟨x1, x2, x3, x4, z1, z2⟩ := P2
          exact ⟨x1, x2, x3, x4, s28 _ _ z1, z2⟩
        exact ⟨_, rfl, l8, _, way, vv, rfl, rfl, SqL.of e8, gv, q vv H8 (k02.trans (Kp.same s28)) P8 hv⟩
      rintro _ H2' ⟨rfl, eH⟩
      rw [eH]
      clear eH H2'
      refine ⟨fun σ' H' => σ' = [some (.ref p), some v, y2, some (.int way)] ∧ H' = H2, ?_, ?_⟩
      · refine ⟨_, rfl, _, _, _, _, t.isI, rfl, .ty "int", hT2.ty, kit_ty t.kI, _, rfl, ?_⟩
        refine ite2 (fun c => ?_) (fun c => ⟨rfl, rfl⟩)
        refine ⟨_, rfl, _, _, rfl, rfl, _, rfl, ?_⟩
        refine ite2 (fun c1 => ?_) (fun c1 => ⟨rfl, rfl⟩)
        have hw4 : way < 4 := of_decide_eq_true c1
        obtain ⟨i, hi, hlg⟩ := hT2.num hf c
        refine ⟨_, rfl, i, 1, hi, rfl, _, rfl, i, 1, hi, rfl, _, rfl, i, 0, hi, rfl, _, rfl, v, i, rfl, hi, hlg, (by show 4 ≤ sizeLine; decide), fun l8 nl8 => ?_⟩
        obtain ⟨vv, gv, hv⟩ := pick (i := way) (xs := [.int (i + 1), .int (i - 1), .bl (decide (i > 0)), .str (strTI v i)]) (fun x => ∃ o, TgAt p (upd H2 l8 (.lst [.int (i + 1), .int (i - 1), .bl (decide (i > 0)), .str (strTI v i)])) x o) a2 (by show way < 4; exact hw4) (am1 ⟨_, .int _⟩ (am1 ⟨_, .int _⟩ (am1 ⟨_, .bl _⟩ (am1 ⟨_, .str _⟩ am0))))
        exact ⟨_, rfl, l8, _, way, vv, rfl, rfl, SqL.of upd_same, gv, q vv _ (k02.trans (Kp.new nl8 _)) (P2.new nl8 _) hv⟩
      rintro _ H2' ⟨rfl, eH⟩
      rw [eH]
      clear eH H2'
      refine ⟨fun σ' H' => σ' = [some (.ref p), some v, y2, some (.int way)] ∧ H' = H2, ?_, ?_⟩
      · refine ⟨_, rfl, _, _, _, _, t.isS, rfl, .ty "str", hT2.ty, kit_ty t.kS, _, rfl, ?_⟩
        refine ite2 (fun c => ?_) (fun c => ⟨rfl, rfl⟩)
        refine ⟨_, rfl, _, _, rfl, rfl, _, rfl, ?_⟩
        refine ite2 (fun c1 => ?_) (fun c1 => ⟨rfl, rfl⟩)
        have hw4 : way < 4 := of_decide_eq_true c1
        obtain ⟨z, rfl, rfl⟩ : ∃ z, v = .str z ∧ t = .str z := by
          cases hT2 with
          | str x => exact ⟨_, rfl, rfl⟩
          | _ => cases c
        have hz : z.length ≤ 300 := hf
        have hz1 : z.length + 1 ≤ sizeLine := Nat.le_of_lt (small1000 (by omega))
        refine ⟨_, rfl, z, "a", rfl, rfl, hz1, _, rfl, ⟨_, rfl⟩, z, rfl, rfl, by omega, _, rfl, _, rfl, _, rfl, z, rfl, by omega, _, rfl, "1", z, rfl, rfl, (by show 1 + z.length ≤ sizeLine; omega), (by show 4 ≤ sizeLine; decide), fun l8 nl8 => ?_⟩
        obtain ⟨vv, gv, hv⟩ := pick (i := way) (xs := [.str (z ++ "a"), .str (Txt.upper z), .str (cutS z none (some (-1))), .str ("1" ++ z)]) (fun v => ∃ o, TgAt p (upd H2 l8 (.lst [.str (z ++ "a"), .str (Txt.upper z), .str (cutS z none (some (-1))), .str ("1" ++ z)])) v o) a2 (by show way < 4; exact hw4) (am1 ⟨_, .str _⟩ (am1 ⟨_, .str _⟩ (am1 ⟨_, .str _⟩ (am1 ⟨_, .str _⟩ am0))))
        exact ⟨_, rfl, l8, _, way, vv, rfl, rfl, SqL.of upd_same, gv, q vv _ (k02.trans (Kp.new nl8 _)) (P2.new nl8 _) hv⟩
      rintro _ H2' ⟨rfl, eH⟩
      rw [eH]
      clear eH H2'
      exact ⟨_, rfl, p, 2, rfl, P2, by decide, by decide, fun v' H' k' P' hv => q v' H' (k02.trans k') P' hv⟩
end
end Deed

namespace Deed
open PySem PySem.Spec PyProof.Rows L2 LamX
/-! ### what gives a thing, now or later -/
theorem gName_ap {i : Nat} {v : V} {σ : L2.St} {H : Hp} {Q : L2.St → Hp → Prop} : gName i v σ H Q = Q (σ.set i (some v)) H := rfl
theorem tSeq_ap {t u : TS} {D : Ends} {σ : L2.St} {H : Hp} : tSeq t u D σ H = t { D with nx := u D } σ H := rfl
theorem tAsg_ap {te : TE} {g : TG} {D : Ends} {σ : L2.St} {H : Hp} : tAsg te g D σ H = te σ H (fun x H1 => g x σ H1 D.nx) := rfl
def tupN (m : Nat) (t : Tg) : Prop := ∃ ts, t = .tup ts ∧ ts.length ≤ m
def GE (p : Addr) (te : TE) (σ : L2.St) (H : Hp) (R : Tg → Prop) : Prop := ∀ H1, Kp p H H1 → PenAt H1 p → ∀ Q : VK, (∀ v t H', Kp p H1 H' → PenAt H' p → TgAt p H' v t → R t → Q v H') → te σ H1 Q
def GA (p : Addr) (ta : TA) (σ : L2.St) (H : Hp) (n : Nat) : Prop := ∀ H1, Kp p H H1 → PenAt H1 p → ∀ Q : List V → Hp → Prop, (∀ vs ts H', Kp p H1 H' → PenAt H' p → TgAll p H' vs ts → vs.length = n → Q vs H') → ta σ H1 Q
def GI (p : Addr) (te : TE) (σ : L2.St) (H : Hp) : Prop := ∀ H1, Kp p H H1 → PenAt H1 p → ∀ Q : VK, (∀ i H', Kp p H1 H' → PenAt H' p → Q (.int i) H') → te σ H1 Q
def GO (p : Addr) (to : TO) (σ : L2.St) (H : Hp) : Prop := ∀ H1, Kp p H H1 → PenAt H1 p → ∀ Q : Option Int → Hp → Prop, (∀ o H', Kp p H1 H' → PenAt H' p → Q o H') → to σ H1 Q
section
variable {p : Addr} {σ : L2.St} {H : Hp} {K : PySem.W.Frag} {te tb : TE} {ta : TA} {R : Tg → Prop}
theorem GE.imp {R' : Tg → Prop} (h : GE p te σ H R) (i : ∀ t, R t → R' t) : GE p te σ H R' := fun H1 k P Q q => h H1 k P Q fun v t H' k' P' hT hR => q v t H' k' P' hT (i t hR)
theorem ge_int {i : Int} : GE p (tC (.int i)) σ H (fun t => t = .int i) := fun H1 _ P Q q => q _ _ H1 (Kp.refl _ _) P (.int i) rfl
theorem ge_bl {b : Bool} : GE p (tC (.bl b)) σ H (fun _ => True) := fun H1 _ P Q q => q _ _ H1 (Kp.refl _ _) P (.bl b) trivial
theorem ge_non : GE p (tC .non) σ H (fun _ => True) := fun H1 _ P Q q => q _ _ H1 (Kp.refl _ _) P .non trivial
theorem ge_str {x : Str} : GE p (tC (.str x)) σ H (fun _ => True) := fun H1 _ P Q q => q _ _ H1 (Kp.refl _ _) P (.str x) trivial
theorem ge_neg {r : V → Hp → VK → Prop} {i : Int} (hr : r = rU fun i => .int (-i)) : GE p (tUn r (tC (.int i))) σ H (fun _ => True) := by
  subst hr
  exact fun H1 _ P Q q => ⟨_, rfl, q _ _ H1 (Kp.refl _ _) P (.int _) trivial⟩
theorem ge_gi (h : GI p te σ H) : GE p te σ H (fun _ => True) := fun H1 k P Q q => h H1 k P Q fun i H' k' P' => q _ _ H' k' P' (.int i) trivial
theorem ge_var {i : Nat} {v : V} {t : Tg} (hP : PenAt H p) (hv : σ[i]? = some (some v)) (hT : TgAt p H v t) (hR : R t) : GE p (tVar i) σ H R := fun H1 k P Q q => ⟨v, hv, q _ _ H1 (Kp.refl _ _) P (TgAt.kp k hP _ _ hT) hR⟩
theorem ge_varT {i : Nat} {v : V} {t : Tg} (hP : PenAt H p) (hv : σ[i]? = some (some v)) (hT : TgAt p H v t) : GE p (tVar i) σ H (fun _ => True) := ge_var hP hv hT trivial
theorem ga_nil : GA p tNil σ H 0 := fun H1 _ P Q q => q [] [] H1 (Kp.refl _ _) P .nil rfl
theorem ga_cons {n : Nat} (h1 : GE p te σ H R) (h2 : GA p ta σ H n) : GA p (tCons te ta) σ H (n + 1) := fun H1 k P Q q => h1 H1 k P _ fun v t H2 k2 P2 hT _ => h2 H2 (k.trans k2) P2 _ fun vs ts H3 k3 P3 hts hl => q _ _ H3 (k2.trans k3) P3 (.cons (TgAt.kp k3 P2 _ _ hT) hts) (by rw [List.length_cons, hl])
theorem ge_tup {n : Nat} (h : GA p ta σ H n) (hn : n ≤ 1000 := by decide) : GE p (tTup ta) σ H (tupN n) := fun H1 k P Q q => h H1 k P _ fun vs ts H2 k2 P2 hts hl => ⟨Nat.le_of_lt (small1000 (by omega)), fun a na => q _ _ _ (k2.trans (Kp.new na _)) (P2.new na _) (.tup upd_same (TgAll.kp (Kp.new na _) P2 _ _ hts)) ⟨ts, rfl, by rw [← hts.length, hl]; exact Nat.le_refl _⟩⟩
theorem ge_catA {m n : Nat} (h1 : GE p te σ H (tupN m)) (h2 : GE p tb σ H (tupN n)) (hmn : m + n ≤ 1000 := by decide) : GE p (tOp (rCatA K) te tb) σ H (tupN (m + n)) := fun H1 k P Q q => h1 H1 k P _ fun v t H2 k2 P2 hT hR => h2 H2 (k.trans k2) P2 _ fun v' t' H3 k3 P3 hT' hR' => by
  obtain ⟨ts, rfl, hl⟩ := hR
  obtain ⟨ts', rfl, hl'⟩ := hR'
  have hT3 := TgAt.kp k3 P2 _ _ hT
  cases hT3 with
  | @tup a xs _ ea ha =>
  cases hT' with
  | @tup b ys _ eb hb =>
  have e1 := ha.length
  have e2 := hb.length
  refine catA_same ea eb (by omega) fun c H4 s4 e4 => ?_
  have P4 : PenAt H4 p := by
    obtain ⟨x1, x2, x3, x4, z1, z2⟩ := P3
    exact ⟨x1, x2, x3, x4, s4 _ _ z1, z2⟩
  exact q _ _ H4 (k2.trans (k3.trans (Kp.same s4))) P4 (.tup e4 ((TgAll.same s4 _ _ ha).append (TgAll.same s4 _ _ hb))) ⟨_, rfl, by rw [List.length_append]; omega⟩
theorem ge_slA {m : Nat} {tl th : TO} (h : GE p te σ H (tupN m)) (hl : GO p tl σ H) (hh : GO p th σ H) : GE p (tSl (rSlA K) te tl th) σ H (tupN m) := fun H1 k P Q q => h H1 k P _ fun v t H2 k2 P2 hT hR => hl H2 (k.trans k2) P2 _ fun lo H3 k3 P3 => hh H3 (k.trans (k2.trans k3)) P3 _ fun hi H4 k4 P4 => by
  obtain ⟨ts, rfl, hm⟩ := hR
  have hT4 := TgAt.kp (k3.trans k4) P2 _ _ hT
  cases hT4 with
  | @tup a xs _ ea ha =>
  refine slA_same ea fun c H5 s5 e5 => ?_
  have P5 : PenAt H5 p := by
    obtain ⟨x1, x2, x3, x4, z1, z2⟩ := P4
    exact ⟨x1, x2, x3, x4, s5 _ _ z1, z2⟩
  obtain ⟨ts', hts'⟩ := (TgAll.same s5 _ _ ha).cut lo hi
  refine q _ _ H5 (k2.trans (k3.trans (k4.trans (Kp.same s5)))) P5 (.tup e5 hts') ⟨_, rfl, ?_⟩
  have := hts'.length
  have h9 : (cutV xs lo hi).length ≤ xs.length := cutV_length xs lo hi
  have := ha.length
  omega
theorem go_none : GO p tNoPart σ H := fun H1 _ P Q q => q none H1 (Kp.refl _ _) P
theorem go_some (h : GI p te σ H) : GO p (tPart te) σ H := fun H1 k P Q q => h H1 k P _ fun i H' k' P' => ⟨i, rfl, q _ H' k' P'⟩
theorem gi_int {i : Int} : GI p (tC (.int i)) σ H := fun H1 _ P Q q => q i H1 (Kp.refl _ _) P
theorem gi_neg {r : V → Hp → VK → Prop} {i : Int} (hr : r = rU fun i => .int (-i)) : GI p (tUn r (tC (.int i))) σ H := by
  subst hr
  exact fun H1 _ P Q q => ⟨_, rfl, q _ H1 (Kp.refl _ _) P⟩
theorem gi_var {i : Nat} {n : Int} (hv : σ[i]? = some (some (.int n))) : GI p (tVar i) σ H := fun H1 _ P Q q => ⟨_, hv, q n H1 (Kp.refl _ _) P⟩
theorem gi_add (h1 : GI p te σ H) (h2 : GI p tb σ H) : GI p (tOp (rI0 fun i j => .int (i + j)) te tb) σ H := fun H1 k P Q q => h1 H1 k P _ fun i H2 k2 P2 => h2 H2 (k.trans k2) P2 _ fun j H3 k3 P3 => ⟨i, j, rfl, rfl, q _ H3 (k2.trans k3) P3⟩
theorem gi_sub (h1 : GI p te σ H) (h2 : GI p tb σ H) : GI p (tOp (rI0 fun i j => .int (i - j)) te tb) σ H := fun H1 k P Q q => h1 H1 k P _ fun i H2 k2 P2 => h2 H2 (k.trans k2) P2 _ fun j H3 k3 P3 => ⟨i, j, rfl, rfl, q _ H3 (k2.trans k3) P3⟩
/-- a draw -/
theorem gi_draw {i : Nat} {bd : Int} {E : XK} (hv : σ[i]? = some (some (.ref p))) (h0 : 0 < bd := by decide) (h1 : bd < 1073741824 := by decide) : GI p (tCall spDraw [] E (tCons (tVar i) (tCons (tC (.int bd)) tNil))) σ H := fun H1 k P Q q => ⟨_, hv, p, bd, rfl, P, h0, h1, fun v H2 k2 P2 _ _ => q v H2 k2 P2⟩
/-- the first number of a tuple -/
theorem gi_ix0 (h : GE p te σ H (fun t => ∃ i r, t = .tup (.int i :: r))) : GI p (tOp (rIxT K) te (tC (.int 0))) σ H := fun H1 k P Q q => h H1 k P _ fun v t H2 k2 P2 hT hR => by
  obtain ⟨i, r, rfl⟩ := hR
  cases hT with
  | @tup a xs _ ea ha =>
  cases ha with
  | cons h1 _ =>
  cases h1
  exact ⟨a, _, 0, .int i, rfl, rfl, SqT.of ea, atI_nat (j := 0) rfl, q i H2 k2 P2⟩
/-- list(t) -/
theorem ge_list {m : Nat} (h : GE p te σ H (tupN m)) : GE p (tCB (fun xs H Q => ∃ p ys, xs = [.ref p] ∧ (SqL K H p ys ∨ SqT K H p ys) ∧ ∀ l, H l = none → Q (.ref l) (upd H l (.lst ys))) (tCons te tNil)) σ H (fun _ => True) := fun H1 k P Q q => h H1 k P _ fun v t H2 k2 P2 hT hR => by
  obtain ⟨ts, rfl, hm⟩ := hR
  cases hT with
  | @tup a xs _ ea ha =>
  exact ⟨a, xs, rfl, .inr (SqT.of ea), fun l nl => q _ _ _ (k2.trans (Kp.new nl _)) (P2.new nl _) (.lst (P2.free nl) upd_same) trivial⟩
/-- t * 6 -/
theorem ge_rep {n : Int} (h : GE p te σ H (fun t => ∃ ts, t = .tup ts ∧ ts ≠ [] ∧ ts.length ≤ 1000)) (h2 : 2 ≤ n := by decide) (h3 : n ≤ 1000 := by decide) : GE p (tOp (rRepT K) te (tC (.int n))) σ H (fun _ => True) := fun H1 k P Q q => h H1 k P _ fun v t H2 k2 P2 hT hR => by
  obtain ⟨ts, rfl, hne, hm⟩ := hR
  cases hT with
  | @tup a xs _ ea ha =>
  have hl := ha.length
  refine ⟨a, n, xs, rfl, rfl, SqT.of ea, fun z => hne (List.eq_nil_of_length_eq_zero (by rw [← hl, z]; rfl)), h2, h3, by omega, fun b nb => ?_⟩
  exact q _ _ _ (k2.trans (Kp.new nb _)) (P2.new nb _) (.tup upd_same (TgAll.kp (Kp.new nb _) P2 _ _ (ha.rep _))) trivial
/-- a list of things -/
def ThL (p : Addr) (H : Hp) (L : Addr) (n : Nat) : Prop := L ≠ p ∧ ∃ vs ts, H L = some (.lst vs) ∧ TgAll p H vs ts ∧ vs.length = n
theorem ThL.kp {H' : Hp} {L : Addr} {n : Nat} (h : ThL p H L n) (k : Kp p H H') (P : PenAt H p) : ThL p H' L n := by
  obtain ⟨h1, vs, ts, h2, h3, h4⟩ := h
  exact ⟨h1, vs, ts, k _ _ h1 h2, TgAll.kp k P _ _ h3, h4⟩
theorem gl_lst {n : Nat} {Q : VK} (h : GA p ta σ H n) (P : PenAt H p) (q : ∀ L H', Kp p H H' → PenAt H' p → H L = none → ThL p H' L n → Q (.ref L) H') (hn : n ≤ 1000 := by decide) : tLst ta σ H Q := h H (Kp.refl _ _) P _ fun vs ts H2 k2 P2 hts hl => ⟨Nat.le_of_lt (small1000 (by omega)), fun a na => q _ _ (k2.trans (Kp.new na _)) (P2.new na _) (k2.noneG (P2.free na) na) ⟨P2.free na, vs, ts, upd_same, TgAll.kp (Kp.new na _) P2 _ _ hts, hl⟩⟩
/-- two lists of things put together -/
theorem ThL.cat {L M : Addr} {m n : Nat} {Q : VK} (h1 : ThL p H L m) (h2 : ThL p H M n) (P : PenAt H p) (hmn : m + n ≤ 1000) (q : ∀ N H', Kp p H H' → PenAt H' p → H N = none → ThL p H' N (m + n) → Q (.ref N) H') : rCat (.ref L) (.ref M) H Q := by
  obtain ⟨a1, vs, ts, a2, a3, a4⟩ := h1
  obtain ⟨b1, us, rs, b2, b3, b4⟩ := h2
  refine ⟨L, M, vs, us, rfl, rfl, a2, b2, Nat.le_of_lt (small1000 (by omega)), fun N nN => ?_⟩
  exact q N _ (Kp.new nN _) (P.new nN _) nN ⟨P.free nN, _, _, upd_same, TgAll.kp (Kp.new nN _) P _ _ (a3.append b3), by rw [List.length_append, a4, b4]⟩
/-- one more behind -/
theorem ThL.snoc {L : Addr} {n : Nat} {v : V} {t : Tg} (h : ThL p H L n) (P : PenAt H p) (hT : TgAt p H v t) : ∃ xs, H L = some (.lst xs) ∧ xs.length = n ∧ PenAt (upd H L (.lst (xs ++ [v]))) p ∧ ThL p (upd H L (.lst (xs ++ [v]))) L (n + 1) := by
  obtain ⟨a1, vs, ts, a2, a3, a4⟩ := h
  refine ⟨vs, a2, a4, ?_, a1, _, _, upd_same, (TgAll.relist a2 _ _ a3).append (.cons (TgAt.relist a2 _ _ hT) .nil), by rw [List.length_append, a4]; rfl⟩
  obtain ⟨x1, x2, x3, x4, z1, z2⟩ := P
  exact ⟨x1, x2, x3, x4, by rw [upd_ne fun z => a1 z.symm]; exact z1, z2⟩
end
end Deed

namespace Deed
open PySem PySem.Spec PySem.W PyProof.Rows L2 L2.DX LamX
/-! ### lost: words drawn -/
def lostL : List Str := ["at", "not", "ahead"]
theorem inAt : ("at" : Str) ∈ lostL := by decide
theorem inNot : ("not" : Str) ∈ lostL := by decide
theorem inAhead : ("ahead" : Str) ∈ lostL := by decide
theorem neAt : ¬ ("at" : Str) = "ahead" := by decide
theorem neNot : ¬ ("not" : Str) = "ahead" := by decide
def WdGood (n : Nat) (w : Wd) : Prop := w.1 ∈ lostL ∧ w.2.1 < n ∧ w.2.2 < n ∧ (w.1 = "ahead" → w.2.1 ≠ w.2.2)
def WdAt (H : Hp) (t : Addr) (w : Wd) : Prop := H t = some (.tup [.str w.1, .int (w.2.1 : Int), .int (w.2.2 : Int)])
theorem nI_perm {ys : List V} {n : Nat} (h : ys.Perm (nI (List.range n))) : ∃ os : List Nat, ys = nI os ∧ os.Perm (List.range n) := by
  let g : V → Nat := fun v => match v with | .int i => i.toNat | _ => 0
  refine ⟨ys.map g, ?_, ?_⟩
  · unfold nI
    rw [List.map_map]
    refine (List.map_id ys).symm.trans (List.map_congr_left fun y hy => ?_)
    obtain ⟨k, _, rfl⟩ := List.mem_map.mp (h.mem_iff.mp hy)
    rfl
  · have := h.map g
    rw [show (nI (List.range n)).map g = List.range n from by
      unfold nI
      rw [List.map_map]
      exact (List.map_congr_left fun k _ => by show ((k : Nat) : Int).toNat = k; omega).trans (List.map_id _)] at this
    exact this
section
variable {P : Program} {w : World} {K : PySem.W.Frag} {mg : Str → Option Value} {base : Heap}
abbrev sLTrue : Stmt := topS 21
abbrev nLTrue : List Str := ["_law_pen_here", "_law_order", "_law_size", "_law_at", "_law_to", "_law_way"]
abbrev pLTrue : List Str := ["_law_pen_here", "_law_order"]
theorem scLTrue : FnScope nLTrue pLTrue (defScope sLTrue) := ⟨rfl, rfl, rfl, by decide +kernel, rfl, by decide +kernel, by decide +kernel⟩
def spLTrue : Sp := fun vs H Q _ => ∃ (p l : Addr) (n : Nat) (os : List Nat), vs = [.ref p, .ref l] ∧ PenAt H p ∧ l ≠ p ∧ H l = some (.lst (nI os)) ∧ os.Perm (List.range n) ∧ 1 ≤ n ∧ n ≤ 7 ∧ ∀ t H' w, Kp p H H' → PenAt H' p → WdAt H' t w → WdGood n w → Q (.ref t) H'
theorem ok_LTrue {f : Addr} {fd : FuncData} {k : Nat} (F : Fun K "_law_true" "_law_true" sLTrue f fd) (C__law_draw : CDrw P w K mg base k) (m_len : mg "len" = none) (m_min : mg "min" = none) (m_max : mg "max" = none) : FnOk P w K mg base CX0 (k + 1) f fd pLTrue spLTrue := by
  refine F.ok scLTrue (fun vs H Q E h => ?_) (fun cdv A outer s H vs Q E hr h => ?_)
  · obtain ⟨p, l, n, os, rfl, _⟩ := h
    rfl
  · obtain ⟨p, l, n, os, rfl, hP, nlp, el, hpm, n1, n7, q⟩ := h
    have nd := scLTrue.nd
    have hu := hu_of hr
    have hol : os.length = n := by rw [hpm.length_eq, List.length_range]
    have hnl : (nI os).length = n := by unfold nI; rw [List.length_map, hol]
    have hlt : ∀ o ∈ os, o < n := fun o ho => List.mem_range.mp (hpm.mem_iff.mp ho)
    have hnd : os.Nodup := hpm.nodup_iff.mpr List.nodup_range
    refine ⟨_, pss_cons (ps_set (i := 2) nd rfl (.inl rfl) (pe_callB call_len_seq (by rfl) m_len (by decide +kernel) (pa_cons (pv 1) pa_nil)))
      (pss_cons (ps_par (i := 3) (j := 4) (by rfl) nd rfl rfl (by decide) rfl rfl (pa_cons (pe_call C__law_draw.ok hr (by rfl) C__law_draw.g C__law_draw.kp C__law_draw.b .nil pass0 (pa_cons (pv 0) (pa_cons (pv 2) pa_nil))) (pa_cons (pe_call C__law_draw.ok hr (by rfl) C__law_draw.g C__law_draw.kp C__law_draw.b .nil pass0 (pa_cons (pv 0) (pa_cons (pv 2) pa_nil))) pa_nil)) (by rfl))
      (pss_cons (ps_set (i := 5) nd rfl (.inl rfl) (pe_call C__law_draw.ok hr (by rfl) C__law_draw.g C__law_draw.kp C__law_draw.b .nil pass0 (pa_cons (pv 0) (pa_cons pe_int pa_nil))))
      (pss_cons (ps_if (PW.pt (pw_or (pt_cmpR op_eq (pv 5) pe_int (nomark _)) (pw_or1 (pt_cmpR op_eq (pv 3) (pv 4) (nomark _))))) (pss_one (ps_ret (pe_tup (pa_cons pe_str (pa_cons (pe_ix ix_list (pv 1) (pv 3) (fun _ _ => rfl)) (pa_cons (pv 3) pa_nil)))))) pss_nil)
      (pss_cons (ps_if (pt_cmpR op_eq (pv 5) pe_int (nomark _)) (pss_one (ps_ret (pe_tup (pa_cons pe_str (pa_cons (pe_ix ix_list (pv 1) (pv 3) (fun _ _ => rfl)) (pa_cons (pv 4) pa_nil)))))) pss_nil)
      (pss_one (ps_ret (pe_tup (pa_cons pe_str (pa_cons (pe_ix ix_list (pv 1) (pe_callB (call_min2 rfl) (by rfl) m_min (by decide +kernel) (pa_cons (pv 3) (pa_cons (pv 4) pa_nil))) (fun _ _ => rfl)) (pa_cons (pe_ix ix_list (pv 1) (pe_callB (call_max2 rfl) (by rfl) m_max (by decide +kernel) (pa_cons (pv 3) (pa_cons (pv 4) pa_nil))) (fun _ _ => rfl)) pa_nil)))))))))), ?_⟩
    refine ⟨_, rfl, _, _, rfl, .inl (SqL.of el), ?_⟩
    rw [hnl]
    refine ⟨_, rfl, _, rfl, p, n, rfl, hP, by omega, by omega, fun v3 H3 k3 P3 a3 b3 => ?_⟩
    refine ⟨_, rfl, _, rfl, p, n, rfl, P3, by omega, by omega, fun v4 H4 k4 P4 a4 b4 => ⟨_, _, rfl, ?_⟩⟩
    refine ⟨_, rfl, p, 3, rfl, P4, by decide, by decide, fun v5 H5 k5 P5 a5 b5 => ?_⟩
    have k05 : Kp p H H5 := k3.trans (k4.trans k5)
    have el5 := k05 _ _ nlp el
    have pickO : ∀ v : Int, 0 ≤ v → v < n → ∃ o, atI (nI os) v = some (.int ((o : Nat) : Int)) ∧ os[v.toNat]? = some o ∧ o < n := fun v h0 h1 => by
      have hk : v.toNat < os.length := by omega
      refine ⟨os[v.toNat], ?_, List.getElem?_eq_getElem hk, hlt _ (List.getElem_mem hk)⟩
      exact at_of (j := v.toNat) (by omega) (by rw [List.getElem?_map, List.getElem?_eq_getElem hk]; rfl)
    obtain ⟨o3, g3, i3, l3⟩ := pickO v3 a3 b3
    have fin : ∀ (x : Str) (d o : Nat) t H6, WdGood n (x, d, o) → H5 t = none → H6 = upd H5 t (.tup [.str x, .int (d : Int), .int (o : Int)]) → Q (.ref t) H6 := fun x d o t H6 hg nt e => by
      subst e
      exact q t _ (x, d, o) (k05.trans (Kp.new nt _)) (P5.new nt _) upd_same hg
    have e3 : ((v3.toNat : Nat) : Int) = v3 := by omega
    have e4 : ((v4.toNat : Nat) : Int) = v4 := by omega
    refine ⟨_, rfl, rfl, _, rfl, ?_⟩
    refine ite2 (fun c => iteT ?_) (fun c => ⟨_, rfl, _, rfl, rfl, _, rfl, ite2 (fun c2 => ?_) (fun c2 => ?_)⟩)
    · refine ⟨_, rfl, _, rfl, _, _, _, _, rfl, rfl, SqL.of el5, g3, _, rfl, (by show 3 ≤ sizeLine; decide), fun t1 nt1 => ?_⟩
      exact fin "at" o3 v3.toNat t1 _ ⟨inAt, l3, by show v3.toNat < n; omega, fun z => absurd z neAt⟩ nt1 (by rw [e3])
    · refine ⟨_, rfl, _, rfl, _, _, _, _, rfl, rfl, SqL.of el5, g3, _, rfl, (by show 3 ≤ sizeLine; decide), fun t1 nt1 => ?_⟩
      exact fin "at" o3 v3.toNat t1 _ ⟨inAt, l3, by show v3.toNat < n; omega, fun z => absurd z neAt⟩ nt1 (by rw [e3])
    · refine ⟨_, rfl, rfl, _, rfl, ite2 (fun c3 => ?_) (fun c3 => ?_)⟩
      · refine ⟨_, rfl, _, rfl, _, _, _, _, rfl, rfl, SqL.of el5, g3, _, rfl, (by show 3 ≤ sizeLine; decide), fun t1 nt1 => ?_⟩
        exact fin "not" o3 v4.toNat t1 _ ⟨inNot, l3, by show v4.toNat < n; omega, fun z => absurd z neNot⟩ nt1 (by rw [e4])
      · have hne : v3 ≠ v4 := fun e => c2 (decide_eq_true (by rw [e]))
        obtain ⟨oa, ga, ia, la⟩ := pickO (if v4 < v3 then v4 else v3) (by split <;> omega) (by split <;> omega)
        obtain ⟨ob, gb, ib, lb⟩ := pickO (if v4 > v3 then v4 else v3) (by split <;> omega) (by split <;> omega)
        have hab : oa ≠ ob := by
          obtain ⟨h1, rfl⟩ := List.getElem?_eq_some_iff.mp ia
          obtain ⟨h2, rfl⟩ := List.getElem?_eq_some_iff.mp ib
          exact List.pairwise_iff_getElem.mp hnd _ _ h1 h2 (by split <;> split <;> omega)
        refine ⟨_, rfl, _, rfl, _, rfl, _, _, rfl, _, _, _, _, rfl, rfl, SqL.of el5, ga, _, rfl, _, rfl, _, rfl, _, _, rfl, _, _, _, _, rfl, rfl, SqL.of el5, gb, (by show 3 ≤ sizeLine; decide), fun t1 nt1 => ?_⟩
        exact fin "ahead" oa ob t1 _ ⟨inAhead, la, lb, fun _ => hab⟩ nt1 rfl
abbrev sLTold : Stmt := topS 22
abbrev nLTold : List Str := ["_law_pen_here", "_law_size", "_law_word", "_law_one", "_law_other"]
abbrev pLTold : List Str := ["_law_pen_here", "_law_size"]
theorem scLTold : FnScope nLTold pLTold (defScope sLTold) := ⟨rfl, rfl, rfl, by decide +kernel, rfl, by decide +kernel, by decide +kernel⟩
def spLTold : Sp := fun vs H Q _ => ∃ (p : Addr) (n : Nat), vs = [.ref p, .int (n : Int)] ∧ PenAt H p ∧ 1 ≤ n ∧ n ≤ 7 ∧ ∀ t H' w, Kp p H H' → PenAt H' p → WdAt H' t w → WdGood n w → Q (.ref t) H'
theorem ok_LTold {f : Addr} {fd : FuncData} {k : Nat} (F : Fun K "_law_told" "_law_told" sLTold f fd) (C__law_draw : CDrw P w K mg base k) : FnOk P w K mg base CX0 (k + 1) f fd pLTold spLTold := by
  refine F.ok scLTold (fun vs H Q E h => ?_) (fun cdv A outer s H vs Q E hr h => ?_)
  · obtain ⟨p, n, rfl, _⟩ := h
    rfl
  · obtain ⟨p, n, rfl, hP, n1, n7, q⟩ := h
    have nd := scLTold.nd
    have hu := hu_of hr
    refine ⟨_, pss_cons (ps_par3 (i := 2) (j := 3) (l := 4) (by rfl) nd rfl rfl rfl (by decide) (by decide) (by decide) rfl rfl rfl (pa_cons (pe_ix ix_list (pe_lst (pa_cons pe_str (pa_cons pe_str (pa_cons pe_str pa_nil)))) (pe_call C__law_draw.ok hr (by rfl) C__law_draw.g C__law_draw.kp C__law_draw.b .nil pass0 (pa_cons (pv 0) (pa_cons pe_int pa_nil))) (fun _ _ => rfl)) (pa_cons (pe_call C__law_draw.ok hr (by rfl) C__law_draw.g C__law_draw.kp C__law_draw.b .nil pass0 (pa_cons (pv 0) (pa_cons (pv 1) pa_nil))) (pa_cons (pe_call C__law_draw.ok hr (by rfl) C__law_draw.g C__law_draw.kp C__law_draw.b .nil pass0 (pa_cons (pv 0) (pa_cons (pv 1) pa_nil))) pa_nil))) (by rfl))
      (pss_cons (ps_if (PW.pt (pw_and (pt_cmpR op_eq (pv 2) pe_str (nomark _)) (pw_and1 (pt_cmpR op_eq (pv 3) (pv 4) (nomark _))))) (pss_one (ps_set (i := 2) nd rfl (.inl rfl) pe_str)) pss_nil)
      (pss_one (ps_ret (pe_tup (pa_cons (pv 2) (pa_cons (pv 3) (pa_cons (pv 4) pa_nil))))))), ?_⟩
    refine ⟨(by show 3 ≤ sizeLine; decide), fun l1 nl1 => ?_⟩
    have P1 := hP.new nl1 (.lst [.str "at", .str "not", .str "ahead"])
    have k1 : Kp p H _ := Kp.new nl1 (.lst [.str "at", .str "not", .str "ahead"])
    have el1 : (upd H l1 (.lst [.str "at", .str "not", .str "ahead"])) l1 = some (.lst [.str "at", .str "not", .str "ahead"]) := upd_same
    have np1 : l1 ≠ p := hP.free nl1
    generalize (upd H l1 (.lst [.str "at", .str "not", .str "ahead"])) = H1 at P1 k1 el1
    refine ⟨_, rfl, p, 3, rfl, P1, by decide, by decide, fun v2 H2 k2 P2 a2 b2 => ?_⟩
    obtain ⟨_, g2, x, rfl, hx⟩ := pick (i := v2) (xs := [V.str "at", .str "not", .str "ahead"]) (fun v => ∃ x, v = .str x ∧ x ∈ lostL) a2 (by show v2 < 3; omega) (am1 ⟨_, rfl, by decide⟩ (am1 ⟨_, rfl, by decide⟩ (am1 ⟨_, rfl, by decide⟩ am0)))
    refine ⟨l1, _, _, _, rfl, rfl, SqL.of (k2 _ _ np1 el1), g2, ?_⟩
    refine ⟨_, rfl, _, rfl, p, n, rfl, P2, by omega, by omega, fun v3 H3 k3 P3 a3 b3 => ?_⟩
    refine ⟨_, rfl, _, rfl, p, n, rfl, P3, by omega, by omega, fun v4 H4 k4 P4 a4 b4 => ⟨_, _, _, rfl, ?_⟩⟩
    have k04 : Kp p H H4 := k1.trans (k2.trans (k3.trans k4))
    have e3 : ((v3.toNat : Nat) : Int) = v3 := by omega
    have e4 : ((v4.toNat : Nat) : Int) = v4 := by omega
    have fin : ∀ (x : Str) t H6, WdGood n (x, v3.toNat, v4.toNat) → H4 t = none → H6 = upd H4 t (.tup [.str x, .int v3, .int v4]) → Q (.ref t) H6 := fun x t H6 hg nt e => by
      subst e
      refine q t _ (x, v3.toNat, v4.toNat) (k04.trans (Kp.new nt _)) (P4.new nt _) ?_ hg
      show _ = some (HO.tup [.str x, .int ((v3.toNat : Nat) : Int), .int ((v4.toNat : Nat) : Int)])
      rw [e3, e4, upd_same]
    refine ⟨_, rfl, rfl, _, rfl, ?_⟩
    refine ite2 (fun c => ⟨_, rfl, _, rfl, rfl, _, rfl, ite2 (fun c2 => ?_) (fun c2 => ?_)⟩) (fun c => iteF ?_)
    · refine ⟨_, rfl, _, rfl, _, rfl, (by show 3 ≤ sizeLine; decide), fun t1 nt1 => ?_⟩
      exact fin "not" t1 _ ⟨inNot, by show v3.toNat < n; omega, by show v4.toNat < n; omega, fun z => absurd z neNot⟩ nt1 rfl
    · refine ⟨_, rfl, _, rfl, _, rfl, (by show 3 ≤ sizeLine; decide), fun t1 nt1 => ?_⟩
      have hne : v3 ≠ v4 := fun e => c2 (decide_eq_true (by rw [e]))
      exact fin x t1 _ ⟨hx, by show v3.toNat < n; omega, by show v4.toNat < n; omega, fun _ => by show v3.toNat ≠ v4.toNat; omega⟩ nt1 rfl
    · refine ⟨_, rfl, _, rfl, _, rfl, (by show 3 ≤ sizeLine; decide), fun t1 nt1 => ?_⟩
      exact fin x t1 _ ⟨hx, by show v3.toNat < n; omega, by show v4.toNat < n; omega, fun z => absurd (decide_eq_true (show V.str x = V.str "ahead" from by rw [show x = "ahead" from z])) c⟩ nt1 rfl
end
end Deed

namespace Deed
open PySem PySem.Spec PySem.W PyProof.Rows L2 L2.DX LamX
theorem WdAt.kp {p : Addr} {H H' : Hp} {t : Addr} {w : Wd} (h : WdAt H t w) (k : Kp p H H') (P : PenAt H p) : WdAt H' t w := k.tup P _ _ h
theorem rg_nI (n : Nat) : rgV 0 (n : Int) = nI (List.range n) := by
  unfold rgV nI
  rw [show ((n : Int) - 0).toNat = n by omega]
  refine List.map_congr_left fun k _ => ?_
  show V.int ((0 : Int) + _) = _
  rw [Int.zero_add]
section
variable {P : Program} {w : World} {K : PySem.W.Frag} {mg : Str → Option Value} {base : Heap}
def spLWords : Sp := fun vs H Q _ => ∃ (p : Addr) (n : Nat), vs = [.ref p, .int (n : Int)] ∧ PenAt H p ∧ 1 ≤ n ∧ n ≤ 7 ∧ ∀ t H' (zs : List (Addr × Wd)), Kp p H H' → PenAt H' p → H' t = some (.tup (zs.map fun z => V.ref z.1)) → (∀ z ∈ zs, WdAt H' z.1 z.2 ∧ WdGood n z.2) → zs.length ≤ 8 → Q (.ref t) H'
end
end Deed

namespace Deed
open PySem PySem.Spec PySem.W PyProof.Rows L2 L2.DX LamX
/-! ### words drawn, as they lie -/
theorem nI_ints (row : List Nat) : nI row = (row.map fun k : Nat => (k : Int)).map V.int := by
  unfold nI
  rw [List.map_map]
  rfl
theorem nI_len (row : List Nat) : (nI row).length = row.length := by unfold nI; rw [List.length_map]
theorem nI_snoc (row : List Nat) (d : Nat) : nI (row ++ [d]) = nI row ++ [.int (d : Int)] := by unfold nI; rw [List.map_append]; rfl
/-- words drawn, as they lie -/
def WsP (H : Hp) (a : Addr) (zs : List (Addr × Wd)) : Prop := H a = some (.tup (zs.map fun z => V.ref z.1)) ∧ ∀ z ∈ zs, WdAt H z.1 z.2
theorem WsP.same {H H' : Hp} {a : Addr} {zs : List (Addr × Wd)} (h : WsP H a zs) (s : Same H H') : WsP H' a zs := ⟨s _ _ h.1, fun z hz => s _ _ (h.2 z hz)⟩
theorem WsP.t {K : PySem.W.Frag} {H : Hp} {a : Addr} {zs : List (Addr × Wd)} (h : WsP H a zs) : WsT K H a zs := ⟨SqT.of h.1, h.2⟩
theorem WsP.kp {p : Addr} {H H' : Hp} {a : Addr} {zs : List (Addr × Wd)} (h : WsP H a zs) (k : Kp p H H') (P : PenAt H p) : WsP H' a zs := ⟨k.tup P _ _ h.1, fun z hz => (h.2 z hz).kp k P⟩
end Deed

namespace Deed
open PySem PySem.Spec PySem.W PyProof.Rows L2 L2.DX LamX
/-! ### data that are the same -/
theorem plainAll_of {α : Type} {f : α → PyData} (h : ∀ a, (f a).plain = true) : ∀ l : List α, PyData.plainAll (l.map f) = true
  | [] => by simp [PyData.plainAll]
  | a :: r => by simp [PyData.plainAll, h a, plainAll_of h r]
theorem depthAll_of {α : Type} {f : α → PyData} {m : Nat} (h : ∀ a, (f a).depth ≤ m) : ∀ l : List α, PyData.depthAll (l.map f) ≤ m + 1
  | [] => by simp [PyData.depthAll]
  | a :: r => by
    have h1 := h a
    have h2 := depthAll_of h r
    simp only [List.map_cons, PyData.depthAll]
    omega
theorem eqvAll_of {α : Type} {f : α → PyData} (h : ∀ a, PyData.eqv (f a) (f a) = true) : ∀ l : List α, PyData.eqvAll (l.map f) (l.map f) = true
  | [] => by simp [PyData.eqvAll]
  | a :: r => by simp [PyData.eqvAll, h a, eqvAll_of h r]
def dInt (k : Nat) : PyData := .int (k : Int)
def dRow (r : List Nat) : PyData := .tuple (r.map dInt)
theorem dInt_p (k : Nat) : (dInt k).plain = true := by simp [dInt, PyData.plain]
theorem dInt_d (k : Nat) : (dInt k).depth ≤ 1 := by simp [dInt, PyData.depth]
theorem dInt_e (k : Nat) : PyData.eqv (dInt k) (dInt k) = true := by simp [dInt, PyData.eqv]
theorem dRow_p (r : List Nat) : (dRow r).plain = true := by simp only [dRow, PyData.plain]; exact plainAll_of dInt_p r
theorem dRow_d (r : List Nat) : (dRow r).depth ≤ 3 := by
  have := depthAll_of dInt_d r
  simp only [dRow, PyData.depth]
  omega
theorem dRow_e (r : List Nat) : PyData.eqv (dRow r) (dRow r) = true := by simp only [dRow, PyData.eqv]; exact eqvAll_of dInt_e r
def SameV (K : PySem.W.Frag) (H : Hp) (v1 v2 : V) : Prop := ∃ d, Dp K H v1 d ∧ Dp K H v2 d ∧ d.plain = true ∧ d.depth ≤ 8 ∧ PyData.eqv d d = true
theorem dp_nI {K : PySem.W.Frag} {H : Hp} : ∀ r : List Nat, DpAll K H (nI r) (r.map dInt)
  | [] => .nil
  | k :: r => .cons (.int _) (dp_nI r)
theorem dp_row {K : PySem.W.Frag} {H : Hp} {t : Addr} {r : List Nat} (e : H t = some (.tup (nI r))) : Dp K H (.ref t) (dRow r) := .tup (SqT.of e) (dp_nI r)
theorem row_sameV {K : PySem.W.Frag} {H : Hp} {t t2 : Addr} {r : List Nat} (h : H t = some (.tup (nI r))) (h2 : H t2 = some (.tup (nI r))) : SameV K H (.ref t) (.ref t2) := ⟨_, dp_row h, dp_row h2, dRow_p r, Nat.le_trans (dRow_d r) (by decide), dRow_e r⟩
theorem non_sameV {K : PySem.W.Frag} {H : Hp} : SameV K H .non .non := ⟨.none, .non, .non, by simp [PyData.plain], by simp [PyData.depth], by simp [PyData.eqv]⟩
section
variable {X : Cx}
def rEqP (K : PySem.W.Frag) (f : Bool → Bool) : R2 := fun x y H Q => ∃ d e, Dp K H x d ∧ Dp K H y e ∧ d.plain = true ∧ e.plain = true ∧ d.depth ≤ 8 ∧ Q (.bl (f (PyData.eqv d e))) H
theorem op_eqP {K : PySem.W.Frag} (hK : X.K = K) (hu : X.A.units + 64 < cLine) : OpR X (compareOp .Eq) (rEqP K id) := by
  subst hK
  intro pins s σ H x y v u Q I rx ry h
  obtain ⟨d, e, h1, h2, p1, p2, hd, q⟩ := h
  obtain ⟨as, r1⟩ := Dp.reads I d x v h1 rx
  obtain ⟨bs, r2⟩ := Dp.reads I e y u h2 ry
  have := Nat.min_le_left d.depth e.depth
  exact PySem.SeqAt.eq_plain r1 r2 p1 p2 (by omega) ⟨.bl _, H, I, rfl, q⟩
theorem op_neP {K : PySem.W.Frag} (hK : X.K = K) (hu : X.A.units + 64 < cLine) : OpR X (compareOp .NotEq) (rEqP K not) := by
  subst hK
  intro pins s σ H x y v u Q I rx ry h
  obtain ⟨d, e, h1, h2, p1, p2, hd, q⟩ := h
  obtain ⟨as, r1⟩ := Dp.reads I d x v h1 rx
  obtain ⟨bs, r2⟩ := Dp.reads I e y u h2 ry
  have := Nat.min_le_left d.depth e.depth
  exact PySem.SeqAt.ne_plain r1 r2 p1 p2 (by omega) ⟨.bl _, H, I, rfl, q⟩
theorem SameV.ne {K : PySem.W.Frag} {H : Hp} {x y : V} {Q : VK} (h : SameV K H x y) (q : Q (.bl false) H) : rEqP K not x y H Q := by
  obtain ⟨d, h1, h2, p, dd, e⟩ := h
  exact ⟨d, d, h1, h2, p, p, dd, by rw [e]; exact q⟩
theorem SameV.eq {K : PySem.W.Frag} {H : Hp} {x y : V} {Q : VK} (h : SameV K H x y) (q : Q (.bl true) H) : rEqP K id x y H Q := by
  obtain ⟨d, h1, h2, p, dd, e⟩ := h
  exact ⟨d, d, h1, h2, p, p, dd, by rw [e]; exact q⟩
end
section
variable {P : Program} {w : World} {K : PySem.W.Frag} {mg : Str → Option Value} {base : Heap} {k : Nat} {f : Addr} {fd : FuncData} {ps : List Str} {sp sp' : Sp}
theorem FnOk.ofX (F : FnOk P w K mg base (L2.CX P w) k f fd ps sp) (h : ∀ vs H Q E, sp' vs H Q E → sp vs H Q (fun _ _ _ => False)) : FnOk P w K mg base L2.CX0 k f fd ps sp' :=
  ⟨fun vs H Q E z => F.len vs H Q _ (h vs H Q E z), fun A outer s H args us vs Q E hr he hb hv hs => codeAny_mono (F.run A outer s H args us vs Q _ hr he hb hv (h vs H Q E hs)) fun r s' hq => by
    cases r with
    | error e =>
      obtain ⟨_, _, _, _, _, _, _, _, _, _, _, _, z⟩ := (show L2.CX P w outer H s (fun _ _ _ => False) e s' from hq)
      exact z.elim
    | ok fl => cases fl <;> exact hq⟩
end
/-! ### words drawn are words -/
def wdTg (w : Wd) : Tg := .tup [.str w.1, .int (w.2.1 : Int), .int (w.2.2 : Int)]
theorem wds_tg {p : Addr} {H : Hp} : ∀ {zs : List (Addr × Wd)}, (∀ z ∈ zs, WdAt H z.1 z.2) → TgAll p H (zs.map fun z => V.ref z.1) (zs.map fun z => wdTg z.2)
  | [], _ => .nil
  | z :: r, h => .cons (.tup (h z List.mem_cons_self) (.cons (.str _) (.cons (.int _) (.cons (.int _) .nil)))) (wds_tg fun y hy => h y (List.mem_cons_of_mem _ hy))
theorem wd_is {n : Nat} {w : Wd} (g : WdGood n w) : isCwT (n : Int) (wdTg w) = true := by
  obtain ⟨x, d, o⟩ := w
  obtain ⟨g1, g2, g3, g4⟩ := g
  have g1 : x ∈ lostL := g1
  have g2 : d < n := g2
  have g3 : o < n := g3
  have g4 : x = "ahead" → d ≠ o := g4
  show ((Tg.int (d : Int)).within 0 ((n : Int) - 1) && ((Tg.int (o : Int)).within 0 ((n : Int) - 1) && (decide (x ∈ [("at" : Str), "not"]) || (decide (x = "ahead") && !decide ((d : Int) = (o : Int)))))) = true
  have w1 : (Tg.int (d : Int)).within 0 ((n : Int) - 1) = true := by
    show (decide ((0 : Int) ≤ d) && decide ((d : Int) ≤ (n : Int) - 1)) = true
    rw [Bool.and_eq_true]
    exact ⟨decide_eq_true (by omega), decide_eq_true (by omega)⟩
  have w2 : (Tg.int (o : Int)).within 0 ((n : Int) - 1) = true := by
    show (decide ((0 : Int) ≤ o) && decide ((o : Int) ≤ (n : Int) - 1)) = true
    rw [Bool.and_eq_true]
    exact ⟨decide_eq_true (by omega), decide_eq_true (by omega)⟩
  rw [w1, w2, Bool.true_and, Bool.true_and, Bool.or_eq_true]
  by_cases c : x ∈ [("at" : Str), "not"]
  · exact .inl (decide_eq_true c)
  · refine .inr ?_
    have e : x = "ahead" := by
      rcases List.mem_cons.mp (show x ∈ (("at" : Str) :: ["not", "ahead"]) from g1) with h | h
      · exact absurd (h ▸ List.mem_cons_self) c
      rcases List.mem_cons.mp h with h | h
      · exact absurd (h ▸ List.mem_cons_of_mem _ List.mem_cons_self) c
      exact List.mem_singleton.mp h
    rw [Bool.and_eq_true]
    refine ⟨decide_eq_true e, ?_⟩
    rw [decide_eq_false (fun z => g4 e (by omega))]
    rfl
def spG (R : Nat → List Wd → Hp → V → Hp → Prop) : Sp := fun vs H Q _ => ∃ (a : Addr) (zs : List (Addr × Wd)) (n : Nat), vs = [.int (n : Int), .ref a] ∧ WsP H a zs ∧ (∀ z ∈ zs, WdGood n z.2) ∧ zs.length ≤ 8 ∧ 1 ≤ n ∧ n ≤ 7 ∧ ∀ r H', Same H H' → R n (zs.map (·.2)) H r H' → Q r H'
theorem spG_lo {CS CW : Addr} {R : Nat → List Wd → Hp → V → Hp → Prop} {vs : List V} {H : Hp} {Q : VK} {E : XK} (h : spG R vs H Q E) : spLo CS CW R vs H Q (fun _ _ _ => False) := by
  obtain ⟨a, zs, n, rfl, hW, hg, l8, n1, n7, q⟩ := h
  have o1 : (Tg.int (n : Int)).within 1 7 = true := by
    show (decide ((1 : Int) ≤ n) && decide ((n : Int) ≤ 7)) = true
    rw [Bool.and_eq_true]
    exact ⟨decide_eq_true (by omega), decide_eq_true (by omega)⟩
  have o2 : areCwT (((Tg.int (n : Int)).toN : Nat) : Int) (.tup (zs.map fun z => wdTg z.2)) = true := by
    show (decide ((zs.map fun z => wdTg z.2).length ≤ 8) && (zs.map fun z => wdTg z.2).all (isCwT (n : Int))) = true
    rw [Bool.and_eq_true]
    refine ⟨decide_eq_true (by rw [List.length_map]; exact l8), List.all_eq_true.mpr fun t ht => ?_⟩
    obtain ⟨z, hz, rfl⟩ := List.mem_map.mp ht
    exact wd_is (hg z hz)
  have ew : (Tg.tup (zs.map fun z => wdTg z.2)).toWds = zs.map (·.2) := by
    show (zs.map fun z => wdTg z.2).map Tg.toWd = _
    rw [List.map_map]
    exact List.map_congr_left fun z _ => rfl
  refine ⟨a, _, _, .int (n : Int), .tup (zs.map fun z => wdTg z.2), rfl, .int _, .tup hW.1 (wds_tg hW.2), fun H' _ => ⟨fun c => ?_, fun _ c => ?_⟩, fun _ r H' s hR => ?_⟩
  · rw [o1] at c
    cases c
  · rw [o2] at c
    cases c
  · rw [ew] at hR
    exact q r H' s hR
def CallX.toG {P : Program} {w : World} {K : PySem.W.Frag} {mg : Str → Option Value} {base : Heap} {L : Nat} {x : Str} {ps : List Str} {CS CW : Addr} {R : Nat → List Wd → Hp → V → Hp → Prop} (c : CallX P w K mg base L x ps (spLo CS CW R)) : CallOk P w K mg base L x ps (spG R) := ⟨c.f, c.fd, c.g, c.kp, c.b, Deed.FnOk.ofX c.ok fun _ _ _ _ h => spG_lo h⟩
end Deed

namespace Deed
open PySem PySem.Spec PySem.W PyProof.Rows L2 LamX
/-! ### tuples whose object is known: none of them has a dict of its own, so that their methods can be found -/
def FzT (H : Hp) (a : Addr) (xs : List V) : Prop := ∃ ob : Obj, H a = some (.frz ob (.tup xs)) ∧ ob.cls = Value.type "tuple" ∧ ob.dict = none
section
variable {K : PySem.W.Frag} {H H' : Hp} {a p : Addr} {xs : List V}
theorem FzT.sq (h : FzT H a xs) : SqT K H a xs := let ⟨ob, e, _⟩ := h; .inl (.inr ⟨ob, e⟩)
theorem FzT.same (h : FzT H a xs) (s : Same H H') : FzT H' a xs := let ⟨ob, e, z⟩ := h; ⟨ob, s _ _ e, z⟩
theorem FzT.ne (h : FzT H a xs) {o : HO} (e : H p = some o) (n : ∀ ob u, o ≠ .frz ob u) : a ≠ p := fun z => by
  obtain ⟨ob, e2, _⟩ := h
  rw [z, e] at e2
  exact n _ _ (Option.some.inj e2)
theorem FzT.kp (h : FzT H a xs) (k : Kp p H H') (P : PenAt H p) : FzT H' a xs := by
  obtain ⟨x1, x2, x3, x4, z1, z2⟩ := P
  have n := h.ne z1 fun _ _ z => nomatch z
  obtain ⟨ob, e, z⟩ := h
  exact ⟨ob, k _ _ n e, z⟩
theorem FzT.ty (h : FzT H a xs) : TyX K H (.ref a) (.type "tuple") := let ⟨_, e, _⟩ := h; .fTuple e
end
section
variable {X : Cx} {es : List Expr} {t : TA} {x1 : ExprCtx} {pos : Pos}
def tTupF (t : TA) : TE := fun σ H Q => t σ H fun vs H1 => vs.length ≤ sizeLine ∧ ∀ a, H1 a = none → ∀ H2, Same H1 H2 → (∀ b, b ≠ a → H2 b = H1 b) → FzT H2 a vs → Q (.ref a) H2
theorem fz_laid {pins : List (Addr × Obj)} {σ : L2.St} {H : Hp} {s : Shared} {ys : List V} {its : List Value} {Q : VK} (I : Inv X pins σ H s) (r : Vals ys its) (z : ys.length ≤ sizeLine) (q : ∀ a, H a = none → ∀ H2, Same H H2 → (∀ b, b ≠ a → H2 b = H b) → FzT H2 a ys → Q (.ref a) H2) :
    ∃ (x : V) (H2 : Hp), Inv X pins σ H2 { s with heap := s.heap.push { cls := .type "tuple", data := .seq its.toArray } } ∧ RelV x (Value.ref s.heap.objs.size) ∧ Q x H2 := by
  have nf := I.hok.fresh (Nat.le_refl s.heap.objs.size)
  refine ⟨.ref s.heap.objs.size, upd H s.heap.objs.size (.frz { cls := .type "tuple", data := .seq its.toArray } (.tup ys)), I.laid (t' := s.toks) (fun b u e => Heap.get?_push_of_some _ e) (Nat.le_refl _) ?_, rfl, q _ nf _ (same_new nf _) (fun b n => upd_ne n) ⟨_, upd_same, rfl, rfl⟩⟩
  exact ⟨Heap.get?_push_size _ rfl, z, its, r, IsTup.new _ _⟩
end
end Deed

namespace Deed
open PySem PySem.Spec PySem.W PyProof.Rows L2 LamX
section
variable {X : Cx}
def kFz (H1 : Hp) (vs : List V) (Q : VK) : Prop := ∀ a, H1 a = none → ∀ H2, Same H1 H2 → (∀ b, b ≠ a → H2 b = H1 b) → FzT H2 a vs → Q (.ref a) H2
/-- (x, y, ..) -/
theorem pe_tupF {es : List Expr} {t : TA} {cx : Nat} {pos : Pos} (h : PA X es t) : PE X (.Tuple es cx pos) (tTupF t) := by
  refine ⟨fun pins st σ H Q J hq => wpAny_Tuple_spliced (thn (h.run pos pins st σ H _ J hq) fun us s1 ⟨xs, H1, J1, r, z, q⟩ => ⟨by rw [← r.length]; exact z, fz_laid J1 r z q⟩)⟩
/-- tuple(a list) -/
def rTupF (K : PySem.W.Frag) : List V → Hp → VK → Prop := fun vs H Q => ∃ l ys, vs = [.ref l] ∧ SqL K H l ys ∧ kFz H ys Q
theorem cr_tupF {K : PySem.W.Frag} (hK : X.K = K) : CallR X (.type "tuple") (rTupF K) := by
  subst hK
  intro pins st σ H vs us Q J rv h
  obtain ⟨l, ys, rfl, hl, q⟩ := h
  obtain ⟨u, rfl, ru⟩ := vals1 rv
  cases ru
  obtain ⟨its, ri, pl, z⟩ := J.list hl
  have len := ri.length
  refine call_tuple_list pl.isList (fun h2 kp => ?_) (by simp only [List.size_toArray]; omega)
  have J1 : Inv X pins σ H { st with heap := h2 } := J.kept (t' := st.toks) kp
  exact fz_laid J1 ri z q
/-- a tuple + a tuple -/
def rCatF (K : PySem.W.Frag) : R2 := fun x y H Q => ∃ a b xs ys, x = .ref a ∧ y = .ref b ∧ SqT K H a xs ∧ SqT K H b ys ∧ xs.length + ys.length ≤ sizeLine ∧ (xs = [] → Q (.ref b) H) ∧ (xs ≠ [] → ys = [] → Q (.ref a) H) ∧ (xs ≠ [] → ys ≠ [] → kFz H (xs ++ ys) Q)
theorem op_catF {K : PySem.W.Frag} (hK : X.K = K) : OpR X (binaryOp .Add) (rCatF K) := by
  subst hK
  intro pins st σ H x y v u Q J rx ry h
  obtain ⟨a, b, xs, ys, rfl, rfl, ha, hb, z, q0, q1, q2⟩ := h
  by_cases n1 : xs = []
  · exact op_catA pins st σ H _ _ v u Q J rx ry ⟨a, b, xs, ys, rfl, rfl, ha, hb, z, q0, q1, fun n => absurd n1 n⟩
  by_cases n2 : ys = []
  · exact op_catA pins st σ H _ _ v u Q J rx ry ⟨a, b, xs, ys, rfl, rfl, ha, hb, z, q0, q1, fun _ n => absurd n2 n⟩
  cases rx
  cases ry
  obtain ⟨its, r1, p1, _⟩ := J.tuple ha
  obtain ⟨its2, r2, p2, _⟩ := J.tuple hb
  refine HT.cat_tup p1 p2 (fun e => n1 (r1.nil_iff.mp e)) (fun e => absurd (r2.nil_iff.mp e) n2) (fun _ => ?_) (by rw [← r1.length, ← r2.length]; exact z)
  exact fz_laid J (r1.append r2) (by rw [List.length_append]; exact z) (q2 n1 n2)
/-- tuple(range(..)) -/
def tTupRgF (te : L2.St → Hp → (Int → Int → Hp → Prop) → Prop) : TE := fun σ H Q => te σ H fun lo hi H1 => RgOk lo hi ∧ kFz H1 (rgV lo hi) Q
theorem pe_tupRgF {e : Expr} {te : L2.St → Hp → (Int → Int → Hp → Prop) → Prop} {p pos : Pos} (hc : X.calm = true) (hg : Gl X "tuple") (hm : X.mg "tuple" = none) (he : PRg X e te) (na : starEach [e] X.env = (false, eval e X.env) :: starEach [] X.env := by rfl) : PE X (.Call (.Name "tuple" p) [e] [] pos) (tTupRgF te) := by
  refine ⟨fun pins st σ H Q J hq => ?_⟩
  refine Call_ (ld_blt J hg hm boot_tuple (PyProof.Rows.callWith_type1 (args_cons (thn (he pins st σ H _ J hq) fun x s1 ⟨r, lo, hi, t, u, v, H1, ex, hr, J1, ok, q⟩ => args_nil ?_) na) na))
  subst ex
  obtain ⟨b1, b2, b3, b4, b5⟩ := ok
  refine call_tuple_range (n := (hi - lo).toNat) (J1.ok.hd hc) hr (small_one b1 b2 b3 b4) (rangeSize_nat lo hi) b5 fun h2 tk acc kp ai => ?_
  have J2 : Inv X pins σ H1 { s1 with heap := h2, toks := tk } := J1.kept kp
  have := fz_laid (its := acc.toList) J2 (vals_rg ai) (by rw [rgV_length, sizeLine_eq]; omega) q
  rw [Array.toArray_toList] at this
  exact this
/-- t[::-1] -/
def tRevF (K : PySem.W.Frag) (te : TE) : TE := fun σ H Q => te σ H fun x H1 => ∃ a xs, x = .ref a ∧ SqT K H1 a xs ∧ kFz H1 xs.reverse Q
theorem pe_revF {K : PySem.W.Frag} (hK : X.K = K) {e : Expr} {te : TE} {k : Nat} {p1 p2 p3 pos : Pos} (he : PE X e te) : PE X (.Subscript e (.Slice none none (some (.UnaryOp .USub (.Constant (.int 1) k p1) p2)) p3) pos) (tRevF K te) := by
  subst hK
  refine ⟨fun pins st σ H Q J hq => ?_⟩
  refine Subscript_ (thn (he.run pins st σ H _ J hq) fun v s1 ⟨x, H1, J1, r1, a, xs, ex, hx, q⟩ => ?_)
  subst ex
  cases r1
  have step : PO X (some (.UnaryOp .USub (.Constant (.int 1) k p1) p2)) (tPart (tUn (rU fun i => .int (-i)) (tC (.int 1)))) := po_some (pe_un un_neg pe_int)
  refine wpAny_Slice (thn (po_none.run pins s1 σ H1 (fun o H2 => o = none ∧ H2 = H1) J1 ⟨rfl, rfl⟩) fun vl s2 ⟨l, H2, J2, pl, el, e2⟩ => ?_)
  subst el e2
  refine thn (po_none.run pins s2 σ H2 (fun o H3 => o = none ∧ H3 = H2) J2 ⟨rfl, rfl⟩) fun vu s3 ⟨u, H3, J3, pu, eu, e3⟩ => ?_
  subst eu e3
  refine thn (step.run pins s3 σ H3 (fun o H4 => o = some (-1) ∧ H4 = H3) J3 ⟨1, rfl, -1, rfl, rfl, rfl⟩) fun vs s4 ⟨o, H4, J4, ps, eo, e4⟩ => ?_
  subst eo e4
  have J5 : Inv X pins σ H4 { s4 with heap := s4.heap.push { cls := .type "slice", data := .fields #[vl, vu, vs] } } := J4.kept (t' := s4.toks) fun b ob q => Heap.get?_push_of_some _ q
  obtain ⟨its, r, ht, hz⟩ := J5.tuple hx
  have hlen := r.length
  cases pl
  cases pu
  show wpAny (model X.prog X.w) X.A (subscriptTail e (.Slice none none (some (.UnaryOp .USub (.Constant (.int 1) k p1) p2)) p3) (.ref a) (.ref s4.heap.objs.size)) (EP X pins σ Q) X.xe { s4 with heap := s4.heap.push { cls := .type "slice", data := .fields #[.none, .none, vs] } }
  refine tail_any (ops := [.ref a, .ref s4.heap.objs.size]) ht.typeIs (PyProof.Rows.slot_tuple_getitem.lookup) ?_ (by with_unfolding_all rfl)
  refine getItem_tuple_rev ht (Heap.IsSliceOf.new _ .none .none vs) ps ?_ (by rw [List.size_toArray]; omega)
  exact fz_laid J5 r.reverse (by rw [List.length_reverse]; exact hz) q
/-- t.m(x ..) -/
def tBMF (r : V → List V → Hp → VK → Prop) (to : TE) (t : TA) : TE := fun σ H Q => to σ H fun x H1 => (∃ a xs, x = .ref a ∧ FzT H1 a xs) ∧ t σ H1 fun ys H2 => r x ys H2 Q
theorem pe_bmF {o e : Expr} {es : List Expr} {to : TE} {t : TA} {name : Str} {apos cpos : Pos} {id : String} {r : V → List V → Hp → VK → Prop} (slot : Slot "tuple" name id) (hty : typeOf (.builtin id) = pure (.type "method_descriptor")) (hm : MtR X id r) (ho : PE X o to) (ha : PA X (e :: es) t)
    (hbase : attributeBase o name X.env (eval o X.env) = eval o X.env := by rfl)
    (hfew : ((backTo cpos (starEach (e :: es) X.env)).all (fun y => !y.1) && (backToKw cpos (keywordEach [] X.env)).all (fun y => y.1.isSome) && decide ((e :: es).length + ([] : List Keyword).length + (if ([] : List Keyword).isEmpty then 0 else 1) < 30)) = true := by rfl)
    (hline : (apos.endLine == cpos.line) = true := by rfl) (hs : starEach (e :: es) X.env = (false, eval e X.env) :: starEach es X.env := by rfl) (hplain : (backTo cpos (starEach es X.env)).any (·.1) = false := by rfl) :
    PE X (.Call (.Attribute o name apos) (e :: es) [] cpos) (tBMF r to t) := by
  refine ⟨fun pins st σ H Q J hq => ?_⟩
  refine wpAny_Call_method_late hbase hfew hline rfl (thn (ho.run pins st σ H _ J hq) fun v s1 ⟨x, H1, J1, r1, ⟨a, xs, ex, ob, hob, hc, hd⟩, q1⟩ => ?_)
  subst ex
  cases r1
  have eo := (J1.hok a _ hob).1
  refine ⟨"tuple", id, PySem.F.plainAttrs_tuple, slot, hty, ⟨ob, eo, hc⟩, fun b eb => ?_, ?_⟩
  · cases eb
    exact ⟨ob, eo, hd⟩
  have hA := ha.run cpos pins s1 σ H1 _ J1 q1
  rw [hs] at hA ⊢
  refine Calls.callWith_builtin (by show (false || (backTo cpos (starEach es X.env)).any (·.1)) = false; rw [hplain]; rfl) (Calls.evalArgs_plain ?_)
  exact thn hA fun us s2 ⟨vs, H2, J2, r2, q2⟩ => hm pins s2 σ H2 (.ref a) vs (.ref a) us Q J2 (show L2.RelV (.ref a) (Value.ref a) from rfl) r2 q2
end
end Deed

namespace Deed
open PySem PySem.Spec PySem.W PyProof.Rows L2 LamX
/-! ### orders, things that may be orders -/
def toIs : Tg → List Int | .tup ts => ts.map Tg.toI | _ => []
def ordT (n : Nat) : Tg → Bool | .tup ts => decide (ts.length = n) && (ts.all (Tg.within 0 ((n : Int) - 1)) && decide ((ts.map Tg.toI).Nodup)) | _ => false
def OrdI (n : Nat) (ns : List Int) : Prop := ns.length = n ∧ (∀ x ∈ ns, 0 ≤ x ∧ x < n) ∧ ns.Nodup
theorem within_toI {ts : List Tg} {lo hi : Int} (h : ts.all (Tg.within lo hi) = true) : ts = (ts.map Tg.toI).map Tg.int ∧ ∀ x ∈ ts.map Tg.toI, lo ≤ x ∧ x ≤ hi := by
  induction ts with
  | nil => exact ⟨rfl, fun _ h => nomatch h⟩
  | cons t r ih =>
    rw [List.all_cons, Bool.and_eq_true] at h
    obtain ⟨i, rfl, h1, h2⟩ := Tg.within_int h.1
    obtain ⟨e, hx⟩ := ih h.2
    refine ⟨?_, fun x hm => ?_⟩
    · rw [List.map_cons, List.map_cons, ← e]
      rfl
    · rcases List.mem_cons.mp hm with z | z
      · rw [z]
        exact ⟨h1, h2⟩
      · exact hx x z
theorem toI_int (ns : List Int) : (ns.map Tg.int).map Tg.toI = ns := by
  rw [List.map_map]
  exact (List.map_congr_left fun x _ => rfl).trans (List.map_id _)
theorem ordT_of {n : Nat} {t : Tg} (h : ordT n t = true) : ∃ ns, t = .tup (ns.map Tg.int) ∧ OrdI n ns := by
  cases t with
  | tup ts =>
    have h : (decide (ts.length = n) && (ts.all (Tg.within 0 ((n : Int) - 1)) && decide ((ts.map Tg.toI).Nodup))) = true := h
    rw [Bool.and_eq_true, Bool.and_eq_true] at h
    obtain ⟨h1, h2, h3⟩ := h
    obtain ⟨e, hx⟩ := within_toI h2
    refine ⟨ts.map Tg.toI, by rw [← e], ?_, fun x hm => ?_, of_decide_eq_true h3⟩
    · rw [List.length_map]
      exact of_decide_eq_true h1
    · have := hx x hm
      omega
  | _ => cases h
theorem ordT_tup {n : Nat} {ns : List Int} (h : OrdI n ns) : ordT n (.tup (ns.map Tg.int)) = true := by
  show (decide ((ns.map Tg.int).length = n) && ((ns.map Tg.int).all (Tg.within 0 ((n : Int) - 1)) && decide (((ns.map Tg.int).map Tg.toI).Nodup))) = true
  rw [toI_int, List.length_map, Bool.and_eq_true, Bool.and_eq_true]
  refine ⟨decide_eq_true h.1, List.all_eq_true.mpr fun t ht => ?_, decide_eq_true h.2.2⟩
  obtain ⟨x, hx, rfl⟩ := List.mem_map.mp ht
  have := h.2.1 x hx
  show (decide ((0 : Int) ≤ x) && decide (x ≤ (n : Int) - 1)) = true
  rw [Bool.and_eq_true]
  exact ⟨decide_eq_true (by omega), decide_eq_true (by omega)⟩
theorem ordT_len {n : Nat} {ts : List Tg} (h : ts.length ≠ n) : ordT n (.tup ts) = false := by
  show (decide (ts.length = n) && _) = false
  rw [decide_eq_false h]
  rfl
/-- a thing; an order's object is known -/
def ThAt (n : Nat) (p : Addr) (H : Hp) (v : V) (t : Tg) : Prop := (TgAt p H v t ∧ ordT n t = false) ∨ ∃ a xs ts, v = .ref a ∧ t = .tup ts ∧ FzT H a xs ∧ TgAll p H xs ts
section
variable {n : Nat} {p : Addr} {H H' : Hp} {v : V} {t : Tg} {K : PySem.W.Frag}
theorem ThAt.ty (h : ThAt n p H v t) : TyX K H v (.type t.ty) := by
  rcases h with ⟨h, _⟩ | ⟨a, xs, ts, rfl, rfl, hf, _⟩
  · exact h.ty
  · exact hf.ty
theorem ThAt.tupOf (h : ThAt n p H v t) (ht : t.isT = true) : ∃ a xs ts, v = .ref a ∧ t = .tup ts ∧ SqT K H a xs ∧ TgAll p H xs ts := by
  rcases h with ⟨h, _⟩ | ⟨a, xs, ts, rfl, rfl, hf, ha⟩
  · obtain ⟨a, xs, ts, rfl, rfl, e, ha⟩ := TgAt.tupOf h ht
    exact ⟨a, xs, ts, rfl, rfl, SqT.of e, ha⟩
  · exact ⟨a, xs, ts, rfl, rfl, hf.sq, ha⟩
theorem ThAt.ord (h : ThAt n p H v t) (ht : ordT n t = true) : ∃ a ns, v = .ref a ∧ t = .tup (ns.map Tg.int) ∧ FzT H a (ns.map V.int) ∧ OrdI n ns := by
  obtain ⟨ns, rfl, ho⟩ := ordT_of ht
  rcases h with ⟨_, h⟩ | ⟨a, xs, ts, rfl, e, hf, ha⟩
  · rw [ht] at h
    cases h
  · injection e with e
    subst e
    rw [TgAll.int_only ha] at hf
    exact ⟨a, ns, rfl, rfl, hf, ho⟩
theorem ThAt.same (h : ThAt n p H v t) (s : Same H H') : ThAt n p H' v t := by
  rcases h with ⟨h, e⟩ | ⟨a, xs, ts, rfl, rfl, hf, ha⟩
  · exact .inl ⟨TgAt.same s _ _ h, e⟩
  · exact .inr ⟨a, xs, ts, rfl, rfl, hf.same s, TgAll.same s _ _ ha⟩
theorem ThAt.kp (h : ThAt n p H v t) (k : Kp p H H') (P : PenAt H p) : ThAt n p H' v t := by
  rcases h with ⟨h, e⟩ | ⟨a, xs, ts, rfl, rfl, hf, ha⟩
  · exact .inl ⟨TgAt.kp k P _ _ h, e⟩
  · exact .inr ⟨a, xs, ts, rfl, rfl, hf.kp k P, TgAll.kp k P _ _ ha⟩
theorem FzT.relist {M a : Addr} {xs ys zs : List V} (h : FzT H a zs) (e : H M = some (.lst xs)) : FzT (upd H M (.lst ys)) a zs := by
  have n := h.ne e fun _ _ z => nomatch z
  obtain ⟨ob, e2, z⟩ := h
  exact ⟨ob, by rw [upd_ne n]; exact e2, z⟩
theorem ThAt.relist {M : Addr} {xs ys : List V} (h : ThAt n p H v t) (e : H M = some (.lst xs)) : ThAt n p (upd H M (.lst ys)) v t := by
  rcases h with ⟨h, e2⟩ | ⟨a, xs, ts, rfl, rfl, hf, ha⟩
  · exact .inl ⟨TgAt.relist e _ _ h, e2⟩
  · exact .inr ⟨a, xs, ts, rfl, rfl, hf.relist e, TgAll.relist e _ _ ha⟩
end
/-- is it so, in an order -/
def soB (ns : List Int) (w : Wd) : Bool := if w.1 = "at" then decide (ns.idxOf (w.2.1 : Int) = w.2.2) else if w.1 = "not" then !decide (ns.idxOf (w.2.1 : Int) = w.2.2) else decide (ns.idxOf (w.2.1 : Int) < ns.idxOf (w.2.2 : Int))
def fitB (n : Nat) (ws : List Wd) (t : Tg) : Bool := ordT n t && ws.all (soB (toIs t))
theorem ord_mem {n : Nat} {ns : List Int} (h : OrdI n ns) {k : Nat} (hk : k < n) : (k : Int) ∈ ns := by
  refine Classical.byContradiction fun hn => ?_
  have h1 : ((k : Int) :: ns).Nodup := List.nodup_cons.mpr ⟨hn, h.2.2⟩
  have h2 : ∀ x ∈ (k : Int) :: ns, x ∈ (List.range n).map fun j : Nat => (j : Int) := fun x hx => by
    rcases List.mem_cons.mp hx with z | z
    · rw [z]
      exact List.mem_map.mpr ⟨k, List.mem_range.mpr hk, rfl⟩
    · have := h.2.1 x z
      exact List.mem_map.mpr ⟨x.toNat, List.mem_range.mpr (by omega), by omega⟩
  have := nodup_len h1 h2
  rw [List.length_cons, List.length_map, List.length_range, h.1] at this
  omega
def ddp : List Int → List Int
  | [] => []
  | x :: r => if x ∈ r then ddp r else x :: ddp r
theorem ddp_mem : ∀ (l : List Int) (x : Int), x ∈ ddp l ↔ x ∈ l
  | [], _ => Iff.rfl
  | y :: r, x => by
    unfold ddp
    split
    · rename_i h
      rw [ddp_mem r x, List.mem_cons]
      exact ⟨.inr, fun z => z.elim (fun z => z ▸ h) id⟩
    · rw [List.mem_cons, List.mem_cons, ddp_mem r x]
theorem ddp_nd : ∀ l : List Int, (ddp l).Nodup
  | [] => List.nodup_nil
  | y :: r => by
    unfold ddp
    split
    · exact ddp_nd r
    · rename_i h
      exact List.nodup_cons.mpr ⟨fun z => h ((ddp_mem r y).mp z), ddp_nd r⟩
theorem ddp_len : ∀ l : List Int, (ddp l).length ≤ l.length ∧ ((ddp l).length = l.length ↔ l.Nodup)
  | [] => ⟨Nat.le_refl _, fun _ => List.nodup_nil, fun _ => rfl⟩
  | y :: r => by
    obtain ⟨h1, h2⟩ := ddp_len r
    unfold ddp
    split
    · rename_i h
      rw [List.length_cons, List.nodup_cons]
      exact ⟨by omega, fun e => by omega, fun z => absurd h z.1⟩
    · rename_i h
      rw [List.length_cons, List.length_cons, List.nodup_cons]
      exact ⟨by omega, fun e => ⟨h, h2.mp (by omega)⟩, fun z => by rw [h2.mpr z.2]⟩
end Deed

namespace Deed
open PySem PySem.Spec PySem.W PyProof.Rows L2 L2.DX LamX
/-! ### is an order, is so, fits -/
section
variable {P : Program} {w : World} {K : PySem.W.Frag} {mg : Str → Option Value} {base : Heap}
abbrev sIsOrder : Stmt := topS 13
abbrev nIsOrder : List Str := ["size", "thing", "deed"]
abbrev pIsOrder : List Str := ["size", "thing"]
theorem scIsOrder : FnScope nIsOrder pIsOrder (defScope sIsOrder) := ⟨rfl, rfl, rfl, by decide +kernel, rfl, by decide +kernel, by decide +kernel⟩
def spIsOrder : Sp := fun vs H Q _ => ∃ (p : Addr) (n : Nat) (v : V) (t : Tg), vs = [.int (n : Int), v] ∧ ThAt n p H v t ∧ n ≤ 7 ∧ ∀ H', Same H H' → Q (.bl (ordT n t)) H'
theorem ok_IsOrder {f : Addr} {fd : FuncData} {k : Nat} (F : Fun K "is_order" "is_order" sIsOrder f fd) (C_is_within : CallOk P w K mg base k "is_within" pIsWithin spWi) (m_isinstance : mg "isinstance" = none) (m_tuple : mg "tuple" = none) (m_len : mg "len" = none) (m_all : mg "all" = none) (m_set : mg "set" = none) : FnOk P w K mg base CX0 (k + 1) f fd pIsOrder spIsOrder := by
  refine F.ok scIsOrder (fun vs H Q E h => ?_) (fun cdv A outer s H vs Q E hr h => ?_)
  · obtain ⟨p, n, v, t, rfl, _⟩ := h
    rfl
  · obtain ⟨p, n, v, t, rfl, hT, n7, q⟩ := h
    have nd := scIsOrder.nd
    refine ⟨_, pss_cons (ps_if (PW.pt (pw_or (pt_not (pt_val (pe_callB call_isi (by rfl) m_isinstance (by decide +kernel) (pa_cons (pv 1) (pa_cons (pe_bltn (v := .ty "tuple") (by rfl) m_tuple (by decide +kernel) rfl) pa_nil))))) (pw_or1 (pt_cmpR op_ne (pe_callB call_len_seq (by rfl) m_len (by decide +kernel) (pa_cons (pv 1) pa_nil)) (pv 0) (nomark _))))) (pss_one (ps_ret pe_bl)) pss_nil)
      (pss_one (ps_ret (pe_and (pe_callB (cr_all rfl) (by rfl) m_all (by decide +kernel) (pa_cons (pe_lc (own := [("deed", 2)]) (g := gName 2) (by rfl) nd (pi_tup (pv 1)) (blkOk_by (own := [("deed", 2)]) (N := nIsOrder) (sc := defScope sIsOrder) (by decide +kernel)) (fun _ _ _ _ _ => (pg_name (i := 2) nd rfl (.inl rfl))) (fun _ _ _ _ _ => pts_nil)
          (fun _ _ _ _ _ => (pe_call C_is_within.ok hr (by rfl) C_is_within.g C_is_within.kp C_is_within.b .nil pass0 (pa_cons (pv 2) (pa_cons pe_int (pa_cons (pe_op op_sub (pv 0) pe_int) pa_nil)))))) pa_nil)) (pe_one (pe_cmpR op_eq (pe_callB (call_lenSet) (by rfl) m_len (by decide +kernel) (pa_cons (pe_callTy (cr_setTu rfl) (by rfl) m_set (by decide +kernel) (pa_cons (pv 1) pa_nil)) pa_nil)) (pv 0) (nomark _)))))), ?_⟩
    refine ⟨_, rfl, _, _, _, _, t.isT, rfl, .ty "tuple", hT.ty, kit_ty t.kT, _, rfl, ?_⟩
    cases hc : t.isT with
    | false =>
      refine iteT ?_
      have h := q _ (same_refl _)
      have e : ordT n t = false := by cases t <;> first | rfl | cases hc
      rw [e] at h
      exact h
    | true =>
    refine iteF ?_
    obtain ⟨a, xs, ts, rfl, rfl, hq, hts⟩ := hT.tupOf (K := K) hc
    have hlen := hts.length
    refine ⟨_, rfl, a, _, rfl, .inr hq, _, rfl, rfl, _, rfl, ?_⟩
    by_cases hn : ts.length = n
    rotate_left
    · rw [show (!decide (V.int ((xs.length : Nat) : Int) = V.int (n : Int))) = true from by
        rw [decide_eq_false (fun z => hn (by injection z with z; omega))]
        rfl]
      refine iteT ?_
      have h := q _ (same_refl _)
      rw [ordT_len hn] at h
      exact h
    rw [show (!decide (V.int ((xs.length : Nat) : Int) = V.int (n : Int))) = false from by
      rw [decide_eq_true (by rw [hlen, hn])]
      rfl]
    refine iteF ?_
    have q1 : ∀ H', Same H H' → Q (.bl (ts.all (Tg.within 0 ((n : Int) - 1)) && decide ((ts.map Tg.toI).Nodup))) H' := fun H' s => by
      have h := q H' s
      rw [show ordT n (.tup ts) = (decide (ts.length = n) && (ts.all (Tg.within 0 ((n : Int) - 1)) && decide ((ts.map Tg.toI).Nodup))) from rfl, decide_eq_true hn, Bool.true_and] at h
      exact h
    refine ⟨_, rfl, a, rfl, ⟨_, hq⟩, fun M nM => ?_⟩
    refine lc_sameM (walk_tup (xs := xs)) ts (fun y => .bl (Tg.within 0 ((n : Int) - 1) y)) hlen.symm (by omega) nM (fun H s => sqT_sm s hq) ?_ ?_
    · rintro i y x H2' H2 hy s2 ⟨rfl, hx⟩ Q1 q1'
      refine ⟨rfl, ?_⟩
      refine ⟨_, rfl, _, rfl, _, _, rfl, rfl, p, x, y, 0, _, rfl, TgAt.same s2 _ _ (hts.at hx hy), fun H3 s3 => q1' _ s3⟩
    intro H2 s2 eM
    refine ⟨M, ts.map (Tg.within 0 ((n : Int) - 1)), rfl, SqL.of (by rw [eM, List.map_map]; rfl), ?_⟩
    rw [all_map_id]
    refine ⟨_, rfl, ?_⟩
    cases hall : ts.all (Tg.within 0 ((n : Int) - 1)) with
    | false =>
      rw [hall, Bool.false_and] at q1
      exact iteF (q1 _ s2)
    | true =>
      rw [hall, Bool.true_and] at q1
      obtain ⟨e1, hx⟩ := within_toI hall
      obtain ⟨exs, _⟩ := TgAll.ofInts hts hall
      generalize hns : ts.map Tg.toI = ns at *
      subst exs
      have hnl : ns.length = n := by rw [← hns, List.length_map]; exact hn
      refine iteT ⟨_, rfl, a, ns, rfl, sqT_sm s2 hq, by unfold scanBound; omega, fun ps c np hc2 => ?_⟩
      refine ⟨ps, _, c, rfl, upd_same, by omega, fun hcnt => ?_⟩
      have hcl : (ddp ns).length = c := hcnt _ (ddp_nd ns) fun k => by rw [ddp_mem, decide_eq_true_iff]
      refine ⟨_, rfl, rfl, ?_⟩
      have e : decide (V.int ((c : Nat) : Int) = V.int (n : Int)) = decide (ns.Nodup) := decide_eq_decide.mpr ⟨fun z => (ddp_len ns).2.mp (by injection z with z; omega), fun z => by rw [← hcl, (ddp_len ns).2.mpr z, hnl]⟩
      rw [e]
      exact q1 _ (s2.trans (same_new np _))
abbrev sIsSo : Stmt := topS 14
abbrev nIsSo : List Str := ["order", "copy_word", "word", "deed", "other", "page"]
abbrev pIsSo : List Str := ["order", "copy_word"]
theorem scIsSo : FnScope nIsSo pIsSo (defScope sIsSo) := ⟨rfl, rfl, rfl, by decide +kernel, rfl, by decide +kernel, by decide +kernel⟩
def spIsSo : Sp := fun vs H Q _ => ∃ (a t : Addr) (n : Nat) (ns : List Int) (x : Wd), vs = [.ref a, .ref t] ∧ FzT H a (ns.map V.int) ∧ OrdI n ns ∧ WdAt H t x ∧ WdGood n x ∧ ∀ H', Same H H' → Q (.bl (soB ns x)) H'
theorem ok_IsSo {f : Addr} {fd : FuncData} {k : Nat} (F : Fun K "is_so" "is_so" sIsSo f fd) : FnOk P w K mg base CX0 (k + 1) f fd pIsSo spIsSo := by
  refine F.ok scIsSo (fun vs H Q E h => ?_) (fun cdv A outer s H vs Q E hr h => ?_)
  · obtain ⟨a, t, n, ns, x, rfl, _⟩ := h
    rfl
  · obtain ⟨a, t, n, ns, x, rfl, hf, ho, hw, hg, q⟩ := h
    have nd := scIsSo.nd
    refine ⟨_, pss_cons (ps_asg (pv 1) (pg_tup (by rfl) (pgs_cons (pg_name (i := 2) nd rfl (.inl rfl)) (pgs_cons (pg_name (i := 3) nd rfl (.inl rfl)) (pgs_cons (pg_name (i := 4) nd rfl (.inl rfl)) pgs_nil)))))
      (pss_cons (ps_set (i := 5) nd rfl (.inl rfl) (pe_bmF PySem.F.slot_tuple_index PySem.F.type_tuple_index mt_tupIx (pv 0) (pa_cons (pv 3) pa_nil)))
      (pss_cons (ps_if (pt_cmpR op_eq (pv 2) pe_str (nomark _)) (pss_one (ps_ret (pe_cmpR op_eq (pv 5) (pv 4) (nomark _)))) pss_nil)
      (pss_cons (ps_if (pt_cmpR op_eq (pv 2) pe_str (nomark _)) (pss_one (ps_ret (pe_cmpR op_ne (pv 5) (pv 4) (nomark _)))) pss_nil)
      (pss_one (ps_ret (pe_cmpR op_lt (pv 5) (pe_bmF PySem.F.slot_tuple_index PySem.F.type_tuple_index mt_tupIx (pv 0) (pa_cons (pv 4) pa_nil)) (nomark _))))))), ?_⟩
    obtain ⟨wd, d, o⟩ := x
    have m1 : ((d : Nat) : Int) ∈ ns := ord_mem ho hg.2.1
    have m2 : ((o : Nat) : Int) ∈ ns := ord_mem ho hg.2.2.1
    refine ⟨_, rfl, _, _, rfl, SqT.of hw, rfl, _, _, rfl, _, _, rfl, _, _, rfl, rfl, ?_⟩
    refine ⟨_, rfl, ⟨a, _, rfl, hf⟩, _, rfl, a, ns, _, rfl, rfl, hf.sq, m1, ?_⟩
    have h := q H (same_refl H)
    refine ⟨_, rfl, rfl, _, rfl, ite2 (fun c => ?_) (fun c => ?_)⟩
    · have c : wd = "at" := by injection of_decide_eq_true c
      refine ⟨_, rfl, _, rfl, rfl, ?_⟩
      rw [show soB ns (wd, d, o) = decide (ns.idxOf ((d : Nat) : Int) = o) from if_pos c] at h
      rw [show decide (V.int ((ns.idxOf ((d : Nat) : Int) : Nat) : Int) = V.int ((o : Nat) : Int)) = decide (ns.idxOf ((d : Nat) : Int) = o) from decide_eq_decide.mpr ⟨fun z => by injection z with z; omega, fun z => by rw [z]⟩]
      exact h
    · have n1 : ¬ wd = "at" := fun z => c (decide_eq_true (by rw [z]))
      refine ⟨_, rfl, rfl, _, rfl, ite2 (fun c2 => ?_) (fun c2 => ?_)⟩
      · have c2 : wd = "not" := by injection of_decide_eq_true c2
        refine ⟨_, rfl, _, rfl, rfl, ?_⟩
        rw [show soB ns (wd, d, o) = !decide (ns.idxOf ((d : Nat) : Int) = o) from (if_neg n1).trans (if_pos c2)] at h
        rw [show decide (V.int ((ns.idxOf ((d : Nat) : Int) : Nat) : Int) = V.int ((o : Nat) : Int)) = decide (ns.idxOf ((d : Nat) : Int) = o) from decide_eq_decide.mpr ⟨fun z => by injection z with z; omega, fun z => by rw [z]⟩]
        exact h
      · have n2 : ¬ wd = "not" := fun z => c2 (decide_eq_true (by rw [z]))
        refine ⟨_, rfl, _, rfl, ⟨a, _, rfl, hf⟩, _, rfl, a, ns, _, rfl, rfl, hf.sq, m2, _, _, rfl, rfl, ?_⟩
        rw [show soB ns (wd, d, o) = decide (ns.idxOf ((d : Nat) : Int) < ns.idxOf ((o : Nat) : Int)) from (if_neg n1).trans (if_neg n2)] at h
        rw [← show decide (((ns.idxOf ((d : Nat) : Int) : Nat) : Int) < ((ns.idxOf ((o : Nat) : Int) : Nat) : Int)) = decide (ns.idxOf ((d : Nat) : Int) < ns.idxOf ((o : Nat) : Int)) from decide_eq_decide.mpr (by omega)] at h
        exact h
abbrev sOrderFits : Stmt := topS 15
abbrev nOrderFits : List Str := ["size", "words", "thing", "word"]
abbrev pOrderFits : List Str := ["size", "words", "thing"]
theorem scOrderFits : FnScope nOrderFits pOrderFits (defScope sOrderFits) := ⟨rfl, rfl, rfl, by decide +kernel, rfl, by decide +kernel, by decide +kernel⟩
def spFits : Sp := fun vs H Q _ => ∃ (p a : Addr) (zs : List (Addr × Wd)) (n : Nat) (v : V) (t : Tg), vs = [.int (n : Int), .ref a, v] ∧ WsP H a zs ∧ (∀ z ∈ zs, WdGood n z.2) ∧ zs.length ≤ 8 ∧ 1 ≤ n ∧ n ≤ 7 ∧ ThAt n p H v t ∧ ∀ H', Same H H' → Q (.bl (fitB n (zs.map (·.2)) t)) H'
theorem ok_OrderFits {f : Addr} {fd : FuncData} {k : Nat} (F : Fun K "order_fits" "order_fits" sOrderFits f fd) (C_check_lost : CallOk P w K mg base k "check_lost" pCheckL (spG fun _ _ _ r _ => r = .non)) (C_is_order : CallOk P w K mg base k "is_order" pIsOrder spIsOrder) (C_is_so : CallOk P w K mg base k "is_so" pIsSo spIsSo) (m_all : mg "all" = none) : FnOk P w K mg base CX0 (k + 1) f fd pOrderFits spFits := by
  refine F.ok scOrderFits (fun vs H Q E h => ?_) (fun cdv A outer s H vs Q E hr h => ?_)
  · obtain ⟨p, a, zs, n, v, t, rfl, _⟩ := h
    rfl
  · obtain ⟨p, a, zs, n, v, t, rfl, hW, hg, h8, n1, n7, hT, q⟩ := h
    have nd := scOrderFits.nd
    refine ⟨_, pss_cons (ps_expr (pe_call C_check_lost.ok hr (by rfl) C_check_lost.g C_check_lost.kp C_check_lost.b .nil pass0 (pa_cons (pv 0) (pa_cons (pv 1) pa_nil))))
      (pss_one (ps_ret (pe_and (pe_call C_is_order.ok hr (by rfl) C_is_order.g C_is_order.kp C_is_order.b .nil pass0 (pa_cons (pv 0) (pa_cons (pv 2) pa_nil))) (pe_one (pe_callB (cr_all rfl) (by rfl) m_all (by decide +kernel) (pa_cons (pe_lc (own := [("word", 3)]) (g := gName 3) (by rfl) nd (pi_tup (pv 1)) (blkOk_by (own := [("word", 3)]) (N := nOrderFits) (sc := defScope sOrderFits) (by decide +kernel)) (fun _ _ _ _ _ => (pg_name (i := 3) nd rfl (.inl rfl))) (fun _ _ _ _ _ => pts_nil)
          (fun _ _ _ _ _ => (pe_call C_is_so.ok hr (by rfl) C_is_so.g C_is_so.kp C_is_so.b .nil pass0 (pa_cons (pv 2) (pa_cons (pv 3) pa_nil))))) pa_nil)))))), ?_⟩
    refine ⟨_, rfl, _, rfl, a, zs, n, rfl, hW, hg, h8, n1, n7, fun r1 H1 s1 _ => ?_⟩
    refine ⟨_, rfl, _, rfl, p, n, v, t, rfl, hT.same s1, n7, fun H2 s2 => ⟨_, rfl, ?_⟩⟩
    have s02 := s1.trans s2
    unfold fitB at q
    cases ht : ordT n t with
    | false =>
      rw [ht, Bool.false_and] at q
      exact iteF (q _ s02)
    | true =>
      rw [ht, Bool.true_and] at q
      obtain ⟨b, ns, rfl, rfl, hf, ho⟩ := (hT.same s02).ord ht
      have et : toIs (.tup (ns.map Tg.int)) = ns := toI_int ns
      rw [et] at q
      have hW2 := hW.same s02
      refine iteT ⟨_, rfl, a, rfl, ⟨_, SqT.of hW2.1⟩, fun M nM => ?_⟩
      refine lc_sameM (walk_tup (xs := zs.map fun z => V.ref z.1)) zs (fun z => .bl (soB ns z.2)) (by rw [List.length_map]) (by omega) nM (fun H s => SqT.of (s _ _ hW2.1)) ?_ ?_
      · rintro i y x H4 H5 hy s4 ⟨rfl, hx⟩ Q1 q1
        rw [List.getElem?_map, hy] at hx
        injection hx with hx
        subst hx
        have hm := List.mem_of_getElem? hy
        exact ⟨rfl, _, rfl, _, rfl, b, y.1, n, ns, y.2, rfl, hf.same s4, ho, s4 _ _ (hW2.2 y hm), hg y hm, fun H6 s6 => q1 _ s6⟩
      intro H4 s4 eM
      refine ⟨M, zs.map fun z => soB ns z.2, rfl, SqL.of (by rw [eM, List.map_map]; rfl), ?_⟩
      have h := q H4 (s02.trans s4)
      rw [List.all_map] at h
      rw [all_map_id]
      exact h
end
end Deed

namespace Deed
open PySem PySem.Spec PySem.W PyProof.Rows L2 L2.DX LamX
/-! ### the law's looks at orders -/
theorem isiK {X : Cx} {K : PySem.W.Frag} (h : X.K = K) : CallR X (.builtin "isinstance") (rIsi K) := h ▸ call_isi
theorem idx_at {ns : List Int} (nd : ns.Nodup) {o : Nat} (ho : o < ns.length) (d : Int) : ns[o] = d ↔ ns.idxOf d = o := by
  constructor
  · intro e
    subst e
    exact List.Nodup.idxOf_getElem nd o ho
  · intro e
    have hlt : ns.idxOf d < ns.length := by omega
    have := List.getElem_idxOf hlt
    simp only [e] at this
    exact this
theorem eqvA_ints : ∀ a b : List Int, PyData.eqvAll (a.map PyData.int) (b.map PyData.int) = decide (a = b)
  | [], [] => by simp [PyData.eqvAll]
  | [], _ :: _ => by simp [PyData.eqvAll]
  | _ :: _, [] => by simp [PyData.eqvAll]
  | x :: a, y :: b => by
    have ih := eqvA_ints a b
    simp only [List.map_cons, PyData.eqvAll, PyData.eqv, ih]
    by_cases h1 : x = y <;> by_cases h2 : a = b <;> simp [h1, h2]
theorem dpA_ints {K : PySem.W.Frag} {H : Hp} : ∀ a : List Int, DpAll K H (a.map V.int) (a.map PyData.int)
  | [] => .nil
  | x :: r => .cons (.int x) (dpA_ints r)
theorem pl_ints (a : List Int) : PyData.plain (.list (a.map PyData.int)) = true := by simp only [PyData.plain]; exact plainAll_of (fun x => by simp [PyData.plain]) a
theorem de_ints (a : List Int) : PyData.depth (.list (a.map PyData.int)) ≤ 8 := by
  have := depthAll_of (f := PyData.int) (m := 1) (fun x => by simp [PyData.depth]) a
  simp only [PyData.depth]
  omega
theorem ev_ints (a b : List Int) : PyData.eqv (.list (a.map PyData.int)) (.list (b.map PyData.int)) = decide (a = b) := by simp only [PyData.eqv]; exact eqvA_ints a b
def rgI (n : Nat) : List Int := (List.range n).map fun k : Nat => (k : Int)
theorem ord_sorted {n : Nat} {ns zs : List Int} (pm : zs.Perm ns) (pw : zs.Pairwise (· ≤ ·)) : zs = rgI n ↔ OrdI n ns := by
  constructor
  · intro e
    subst e
    refine ⟨by rw [← pm.length_eq]; simp [rgI], fun x hx => ?_, pm.nodup_iff.mp ?_⟩
    · obtain ⟨k, hk, rfl⟩ := List.mem_map.mp (pm.mem_iff.mpr hx)
      have := List.mem_range.mp hk
      omega
    · exact List.pairwise_map.mpr (List.nodup_range.imp fun h => by omega)
  · intro ho
    have nz : zs.Nodup := pm.nodup_iff.mpr ho.2.2
    have st : zs.Pairwise (· < ·) := (List.Pairwise.and pw nz).imp fun h => by omega
    have sr : (rgI n).Pairwise (· < ·) := List.pairwise_map.mpr (List.pairwise_lt_range.imp fun h => by omega)
    refine rising_oneG st sr fun x => ?_
    rw [pm.mem_iff]
    constructor
    · intro hx
      have := ho.2.1 x hx
      exact List.mem_map.mpr ⟨x.toNat, List.mem_range.mpr (by omega), by omega⟩
    · intro hx
      obtain ⟨k, hk, rfl⟩ := List.mem_map.mp hx
      exact ord_mem ho (List.mem_range.mp hk)
theorem ordT_int {n : Nat} {ns : List Int} : ordT n (.tup (ns.map Tg.int)) = true ↔ OrdI n ns := by
  refine ⟨fun h => ?_, ordT_tup⟩
  obtain ⟨ms, e, ho⟩ := ordT_of h
  injection e with e
  have := congrArg (List.map Tg.toI) e
  rw [toI_int, toI_int] at this
  rw [this]
  exact ho
section
variable {P : Program} {w : World} {K : PySem.W.Frag} {mg : Str → Option Value} {base : Heap}
abbrev sLIsSo : Stmt := topS 25
abbrev nLIsSo : List Str := ["_law_told_here", "_law_order", "_law_word", "_law_one", "_law_other"]
abbrev pLIsSo : List Str := ["_law_told_here", "_law_order"]
theorem scLIsSo : FnScope nLIsSo pLIsSo (defScope sLIsSo) := ⟨rfl, rfl, rfl, by decide +kernel, rfl, by decide +kernel, by decide +kernel⟩
def spLIsSo : Sp := fun vs H Q _ => ∃ (a t : Addr) (n : Nat) (ns : List Int) (x : Wd), vs = [.ref t, .ref a] ∧ FzT H a (ns.map V.int) ∧ OrdI n ns ∧ WdAt H t x ∧ WdGood n x ∧ ∀ H', Same H H' → Q (.bl (soB ns x)) H'
theorem ok_LIsSo {f : Addr} {fd : FuncData} {k : Nat} (F : Fun K "_law_is_so" "_law_is_so" sLIsSo f fd) : FnOk P w K mg base CX0 (k + 1) f fd pLIsSo spLIsSo := by
  refine F.ok scLIsSo (fun vs H Q E h => ?_) (fun cdv A outer s H vs Q E hr h => ?_)
  · obtain ⟨a, t, n, ns, x, rfl, _⟩ := h
    rfl
  · obtain ⟨a, t, n, ns, x, rfl, hf, ho, hw, hg, q⟩ := h
    have nd := scLIsSo.nd
    refine ⟨_, pss_cons (ps_asg (pv 0) (pg_tup (by rfl) (pgs_cons (pg_name (i := 2) nd rfl (.inl rfl)) (pgs_cons (pg_name (i := 3) nd rfl (.inl rfl)) (pgs_cons (pg_name (i := 4) nd rfl (.inl rfl)) pgs_nil)))))
      (pss_cons (ps_if (pt_cmpR op_eq (pv 2) pe_str (nomark _)) (pss_one (ps_ret (pe_cmpR op_lt (pe_bmF PySem.F.slot_tuple_index PySem.F.type_tuple_index mt_tupIx (pv 1) (pa_cons (pv 3) pa_nil)) (pe_bmF PySem.F.slot_tuple_index PySem.F.type_tuple_index mt_tupIx (pv 1) (pa_cons (pv 4) pa_nil)) (nomark _)))) pss_nil)
      (pss_one (ps_ret (pe_cmpR op_eq (pe_cmpR op_eq (pe_ix ix_tup (pv 1) (pv 4) (fun _ _ => rfl)) (pv 3) (nomark _)) (pe_cmpR op_eq (pv 2) pe_str (nomark _)) (nomark _))))), ?_⟩
    obtain ⟨wd, d, o⟩ := x
    have m1 : ((d : Nat) : Int) ∈ ns := ord_mem ho hg.2.1
    have m2 : ((o : Nat) : Int) ∈ ns := ord_mem ho hg.2.2.1
    have h := q H (same_refl H)
    refine ⟨_, rfl, _, _, rfl, SqT.of hw, rfl, _, _, rfl, _, _, rfl, _, _, rfl, rfl, ?_⟩
    refine ⟨_, rfl, rfl, _, rfl, ite2 (fun c => ?_) (fun c => ?_)⟩
    · have c : wd = "ahead" := by injection of_decide_eq_true c
      refine ⟨_, rfl, ⟨a, _, rfl, hf⟩, _, rfl, a, ns, _, rfl, rfl, hf.sq, m1, _, rfl, ⟨a, _, rfl, hf⟩, _, rfl, a, ns, _, rfl, rfl, hf.sq, m2, _, _, rfl, rfl, ?_⟩
      rw [show soB ns (wd, d, o) = decide (ns.idxOf ((d : Nat) : Int) < ns.idxOf ((o : Nat) : Int)) from (if_neg (by rw [show (wd, d, o).1 = wd from rfl, c]; decide)).trans (if_neg (by rw [show (wd, d, o).1 = wd from rfl, c]; decide))] at h
      rw [← show decide (((ns.idxOf ((d : Nat) : Int) : Nat) : Int) < ((ns.idxOf ((o : Nat) : Int) : Nat) : Int)) = decide (ns.idxOf ((d : Nat) : Int) < ns.idxOf ((o : Nat) : Int)) from decide_eq_decide.mpr (by omega)] at h
      exact h
    · have nah : ¬ wd = "ahead" := fun z => c (decide_eq_true (by rw [z]))
      have hol : o < ns.length := by rw [ho.1]; exact hg.2.2.1
      refine ⟨_, rfl, _, rfl, _, _, _, _, rfl, rfl, hf.sq, atI_nat (j := o) (v := .int ns[o]) (by rw [List.getElem?_map, List.getElem?_eq_getElem hol]; rfl), _, rfl, rfl, _, rfl, rfl, rfl, ?_⟩
      have e1 : decide (V.int ns[o] = V.int ((d : Nat) : Int)) = decide (ns.idxOf ((d : Nat) : Int) = o) := decide_eq_decide.mpr ⟨fun z => (idx_at ho.2.2 hol _).mp (by injection z), fun z => by rw [(idx_at ho.2.2 hol _).mpr z]⟩
      have hin : wd = "at" ∨ wd = "not" := by
        rcases List.mem_cons.mp (show wd ∈ (("at" : Str) :: ["not", "ahead"]) from hg.1) with h | h
        · exact .inl h
        rcases List.mem_cons.mp h with h | h
        · exact .inr h
        · exact absurd (List.mem_singleton.mp h) nah
      have e2 : decide (V.bl (decide (V.int ns[o] = V.int ((d : Nat) : Int))) = V.bl (decide (V.str wd = V.str "at"))) = soB ns (wd, d, o) := by
        rw [e1]
        rcases hin with rfl | rfl
        · rw [show soB ns ("at", d, o) = decide (ns.idxOf ((d : Nat) : Int) = o) from if_pos rfl]
          cases decide (ns.idxOf ((d : Nat) : Int) = o) <;> rfl
        · rw [show soB ns ("not", d, o) = !decide (ns.idxOf ((d : Nat) : Int) = o) from (if_neg (show ¬ ("not" : Str) = "at" by decide)).trans (if_pos rfl)]
          cases decide (ns.idxOf ((d : Nat) : Int) = o) <;> decide
      rw [← e2] at h
      exact h
abbrev sLGood : Stmt := topS 26
abbrev nLGood : List Str := ["_law_size", "_law_words", "_law_thing_here", "_law_one", "_law_told_here"]
abbrev pLGood : List Str := ["_law_size", "_law_words", "_law_thing_here"]
theorem scLGood : FnScope nLGood pLGood (defScope sLGood) := ⟨rfl, rfl, rfl, by decide +kernel, rfl, by decide +kernel, by decide +kernel⟩
theorem ok_LGood {f : Addr} {fd : FuncData} {k : Nat} (F : Fun K "_law_good" "_law_good" sLGood f fd) (C__law_is_so : CallOk P w K mg base k "_law_is_so" pLIsSo spLIsSo) (m_isinstance : mg "isinstance" = none) (m_tuple : mg "tuple" = none) (m_int : mg "int" = none) (m_bool : mg "bool" = none) (m_len : mg "len" = none) (m_sorted : mg "sorted" = none) (m_list : mg "list" = none) (m_range : mg "range" = none) : FnOk P w K mg base CX0 (k + 1) f fd pLGood spFits := by
  refine F.ok scLGood (fun vs H Q E h => ?_) (fun cdv A outer s H vs Q E hr h => ?_)
  · obtain ⟨p, a, zs, n, v, t, rfl, _⟩ := h
    rfl
  · obtain ⟨p, a, zs, n, v, t, rfl, hW, hg, h8, n1, n7, hT, q⟩ := h
    have nd := scLGood.nd
    have hu := hu_of hr
    refine ⟨_, pss_cons (ps_if (PW.pt (pw_or (pt_not (pt_val (pe_callB call_isi (by rfl) m_isinstance (by decide +kernel) (pa_cons (pv 2) (pa_cons (pe_bltn (v := .ty "tuple") (by rfl) m_tuple (by decide +kernel) rfl) pa_nil))))) (pw_or1 (pt_cmpR op_ne (pe_callB call_len_seq (by rfl) m_len (by decide +kernel) (pa_cons (pv 2) pa_nil)) (pv 0) (nomark _))))) (pss_one (ps_ret pe_bl)) pss_nil)
      (pss_cons (ps_if (pt_cmpR (op_neLEK (K := K) (by rfl) hr.units) (pe_lc (own := [("_law_one", 3)]) (g := gName 3) (by rfl) nd (pi_tup (pv 2)) (blkOk_by (own := [("_law_one", 3)]) (N := nLGood) (sc := defScope sLGood) (by decide +kernel)) (fun _ _ _ _ _ => (pg_name (i := 3) nd rfl (.inl rfl))) (fun _ _ _ _ _ => (pts_one (PW.pt (pw_or (pt_not (pt_val (pe_callB (isiK (K := K) (by rfl)) (by rfl) m_isinstance (by decide +kernel) (pa_cons (pv 3) (pa_cons (pe_bltn (v := .ty "int") (by rfl) m_int (by decide +kernel) rfl) pa_nil))))) (pw_or1 (pt_val (pe_callB (isiK (K := K) (by rfl)) (by rfl) m_isinstance (by decide +kernel) (pa_cons (pv 3) (pa_cons (pe_bltn (v := .ty "bool") (by rfl) m_bool (by decide +kernel) rfl) pa_nil)))))))))
          (fun _ _ _ _ _ => (pv 3))) (pe_lst pa_nil) (nomark _)) (pss_one (ps_ret pe_bl)) pss_nil)
      (pss_cons (ps_if (pt_cmpR (op_neP (K := K) (by rfl) hr.units) (pe_callB cr_sortedTu (by rfl) m_sorted (by decide +kernel) (pa_cons (pv 2) pa_nil)) (pe_listRg (by rfl) (by rfl) m_list (prg_1 (by rfl) m_range (pv 0))) (nomark _)) (pss_one (ps_ret pe_bl)) pss_nil)
      (pss_one (ps_ret (pe_cmpR (op_eqLEK (K := K) (by rfl) hr.units) (pe_lc (own := [("_law_told_here", 4)]) (g := gName 4) (by rfl) nd (pi_tup (pv 1)) (blkOk_by (own := [("_law_told_here", 4)]) (N := nLGood) (sc := defScope sLGood) (by decide +kernel)) (fun _ _ _ _ _ => (pg_name (i := 4) nd rfl (.inl rfl))) (fun _ _ _ _ _ => (pts_one (pt_not (pt_val (pe_call C__law_is_so.ok hr (by rfl) C__law_is_so.g C__law_is_so.kp C__law_is_so.b .nil pass0 (pa_cons (pv 4) (pa_cons (pv 2) pa_nil)))))))
          (fun _ _ _ _ _ => (pv 4))) (pe_lst pa_nil) (nomark _)))))), ?_⟩
    have fls : ∀ H', Same H H' → ordT n t = false → Q (.bl false) H' := fun H' s e => by
      have h := q H' s
      unfold fitB at h
      rw [e] at h
      exact h
    refine ⟨_, rfl, _, _, _, _, t.isT, rfl, .ty "tuple", hT.ty, kit_ty t.kT, _, rfl, ?_⟩
    cases hc : t.isT with
    | false => exact iteT (fls _ (same_refl _) (by cases t <;> first | rfl | cases hc))
    | true =>
    refine iteF ?_
    obtain ⟨b, xs, ts, rfl, rfl, hq, hts⟩ := hT.tupOf (K := K) hc
    have hlen := hts.length
    refine ⟨_, rfl, b, _, rfl, .inr hq, _, rfl, rfl, _, rfl, ?_⟩
    by_cases hn : ts.length = n
    rotate_left
    · rw [show (!decide (V.int ((xs.length : Nat) : Int) = V.int (n : Int))) = true from by
        rw [decide_eq_false (fun z => hn (by injection z with z; omega))]
        rfl]
      exact iteT (fls _ (same_refl _) (ordT_len hn))
    rw [show (!decide (V.int ((xs.length : Nat) : Int) = V.int (n : Int))) = false from by
      rw [decide_eq_true (by rw [hlen, hn])]
      rfl]
    refine iteF ?_
    refine ⟨_, rfl, b, rfl, ⟨_, hq⟩, fun M nM => ?_⟩
    refine lc_sameV (walk_tup (xs := xs)) (xs.zip ts) (fun y => !y.2.isI || y.2.isB) (fun y => y.1) (by rw [List.length_zip]; omega) (by rw [List.length_zip]; omega) nM (fun H s => sqT_sm s hq) ?_ ?_
    · rintro i y x H2' H2 hy s2 ⟨rfl, hx⟩ Q1 Q0 q1 q0
      obtain ⟨y1, y2⟩ := y
      rw [List.getElem?_zip_eq_some] at hy
      obtain ⟨hy1, hy2⟩ := hy
      rw [hy1] at hx
      injection hx with hx
      subst hx
      have hat := TgAt.same s2 _ _ (hts.at hy1 hy2)
      refine ⟨rfl, ?_⟩
      refine ⟨_, rfl, _, _, _, _, y2.isI, rfl, .ty "int", hat.ty, kit_ty y2.kI, _, rfl, ?_⟩
      cases c1 : y2.isI with
      | false => exact iteT (iteT ⟨_, rfl, q1 (by rw [c1]; rfl) _ (same_refl _)⟩)
      | true =>
        refine iteF ⟨_, rfl, _, _, _, _, y2.isB, rfl, .ty "bool", hat.ty, kit_ty y2.kB, _, rfl, ?_⟩
        cases c2 : y2.isB with
        | true => exact iteT ⟨_, rfl, q1 (by rw [c2, Bool.or_true]) _ (same_refl _)⟩
        | false => exact iteF (q0 (by rw [c1, c2]; rfl) _ (same_refl _))
    intro H2 s2 eM
    refine ⟨Nat.zero_le _, fun l2 nl2 => ?_⟩
    have s3 := same_new nl2 (.lst [])
    refine ⟨M, l2, _, rfl, rfl, SqL.of (s3 _ _ eM), SqL.of upd_same, _, rfl, ?_⟩
    have hflt : ((xs.zip ts).filter fun y => !y.2.isI || y.2.isB) = [] ↔ ts.all Tg.isW = true := by
      rw [List.filter_eq_nil_iff, List.all_eq_true]
      have hw : ∀ t : Tg, ¬ (!t.isI || t.isB) = true ↔ t.isW = true := fun t => by cases t <;> simp [Tg.isI, Tg.isB, Tg.isW]
      constructor
      · intro h t ht
        obtain ⟨i, hi, e⟩ := List.getElem_of_mem ht
        have hi2 : i < xs.length := by omega
        have := h (xs[i], ts[i]) (List.mem_of_getElem? (i := i) (by rw [List.getElem?_zip_eq_some]; exact ⟨List.getElem?_eq_getElem hi2, List.getElem?_eq_getElem hi⟩))
        rw [e] at this
        exact (hw t).mp this
      · rintro h ⟨x, t⟩ hm
        exact (hw t).mpr (h t (List.of_mem_zip hm).2)
    rw [List.isEmpty_map]
    cases hE : ((xs.zip ts).filter fun y => !y.2.isI || y.2.isB).isEmpty with
    | false =>
      refine iteT (fls _ (s2.trans s3) ?_)
      cases ho : ordT n (.tup ts) with
      | false => rfl
      | true =>
        obtain ⟨ns, e, _⟩ := ordT_of ho
        injection e with e
        have : ts.all Tg.isW = true := by
          rw [e, List.all_eq_true]
          intro t ht
          obtain ⟨x, _, rfl⟩ := List.mem_map.mp ht
          rfl
        rw [hflt.mpr this] at hE
        cases hE
    | true =>
    have hw := hflt.mp (List.isEmpty_iff.mp hE)
    refine iteF ?_
    have ets : ts = (ts.map Tg.toI).map Tg.int := by
      rw [List.map_map]
      refine (List.map_id ts).symm.trans (List.map_congr_left fun t ht => ?_)
      have := List.all_eq_true.mp hw t ht
      cases t with
      | int i => rfl
      | _ => cases this
    generalize ts.map Tg.toI = ns at ets
    subst ets
    have exs := TgAll.int_only hts
    subst exs
    have s03 := s2.trans s3
    generalize (upd H2 l2 (.lst [])) = H3 at s3 s03
    have hnn : ns.length = n := by rw [← hn, List.length_map]
    refine ⟨_, rfl, b, ns, rfl, sqT_sm s03 hq, by omega, fun zs2 l4 pm pw nl4 => ?_⟩
    have s4 := same_new nl4 (.lst (zs2.map V.int))
    refine ⟨_, rfl, _, rfl, RgOk.of_le (by decide) (by omega) (by decide) (by omega), fun l5 nl5 => ?_⟩
    have s5 := same_new nl5 (.lst (rgV 0 (n : Int)))
    rw [rg_nI, nI_ints] at s5 ⊢
    have e5 : (upd (upd H3 l4 (.lst (zs2.map V.int))) l5 (.lst ((rgI n).map V.int))) l5 = some (.lst ((rgI n).map V.int)) := upd_same
    have e45 := s5 _ _ (show (upd H3 l4 (.lst (zs2.map V.int))) l4 = some (.lst (zs2.map V.int)) from upd_same)
    have s05 := s03.trans (s4.trans s5)
    show ∃ d e, _
    refine ⟨_, _, .lst (SqL.of e45) (dpA_ints zs2), .lst (SqL.of e5) (dpA_ints (rgI n)), pl_ints _, pl_ints _, de_ints _, _, rfl, ?_⟩
    rw [ev_ints]
    by_cases hz : zs2 = rgI n
    rotate_left
    · rw [decide_eq_false hz]
      refine iteT (fls _ s05 ?_)
      cases ho : ordT n (.tup (ns.map Tg.int)) with
      | false => rfl
      | true => exact absurd ((ord_sorted pm pw).mpr (ordT_int.mp ho)) hz
    rw [decide_eq_true hz]
    refine iteF ?_
    have ho := (ord_sorted pm pw).mp hz
    obtain ⟨b', ns', eb, en, hf, _⟩ := hT.ord (ordT_int.mpr ho)
    injection eb with eb
    subst eb
    have : ns' = ns := by
      injection en with en
      have := congrArg (List.map Tg.toI) en
      rw [toI_int, toI_int] at this
      exact this.symm
    subst this
    have hW5 := hW.same s05
    have hf5 := hf.same s05
    generalize (upd (upd H3 l4 (.lst (zs2.map V.int))) l5 (.lst ((rgI n).map V.int))) = H5 at s05 hW5 hf5
    refine ⟨_, rfl, a, rfl, ⟨_, SqT.of hW5.1⟩, fun M6 nM6 => ?_⟩
    refine lc_sameV (walk_tup (xs := zs.map fun z => V.ref z.1)) zs (fun z => !soB ns' z.2) (fun z => .ref z.1) (by rw [List.length_map]) (by omega) nM6 (fun H s => SqT.of (s _ _ hW5.1)) ?_ ?_
    · rintro i y x H6 H7 hy s6 ⟨rfl, hx⟩ Q1 Q0 q1 q0
      rw [List.getElem?_map, hy] at hx
      injection hx with hx
      subst hx
      have hm := List.mem_of_getElem? hy
      refine ⟨rfl, _, rfl, _, rfl, b, y.1, n, ns', y.2, rfl, hf5.same s6, ho, s6 _ _ (hW5.2 y hm), hg y hm, fun H8 s8 => ⟨_, rfl, ?_⟩⟩
      cases hs : soB ns' y.2 with
      | true => exact iteF (q0 (by rw [hs]; rfl) _ s8)
      | false => exact iteT ⟨_, rfl, q1 (by rw [hs]; rfl) _ s8⟩
    intro H6 s6 eM6
    refine ⟨Nat.zero_le _, fun l7 nl7 => ?_⟩
    have s7 := same_new nl7 (.lst [])
    refine ⟨M6, l7, _, rfl, rfl, SqL.of (s7 _ _ eM6), SqL.of upd_same, ?_⟩
    have h := q _ (s05.trans (s6.trans s7))
    unfold fitB at h
    rw [ordT_int.mpr ho, Bool.true_and, show toIs (.tup (ns'.map Tg.int)) = ns' from toI_int ns'] at h
    rw [List.isEmpty_map]
    have e : ((zs.filter fun z => !soB ns' z.2).isEmpty) = (zs.map (·.2)).all (soB ns') := by
      rw [List.all_map, Bool.eq_iff_iff, List.isEmpty_iff, List.filter_eq_nil_iff, List.all_eq_true]
      refine forall_congr' fun z => forall_congr' fun _ => ?_
      show ¬ (!soB ns' z.2) = true ↔ soB ns' z.2 = true
      cases soB ns' z.2 <;> decide
    rw [← e] at h
    exact h
end
end Deed

namespace Deed
open PySem PySem.Spec PySem.W PyProof.Rows L2 LamX
/-! ### a thing drawn, the object of a tuple known -/
theorem PenAt.sm {p : Addr} {H H' : Hp} (h : PenAt H p) (s : Same H H') : PenAt H' p := by
  obtain ⟨x1, x2, x3, x4, z1, z2⟩ := h
  exact ⟨x1, x2, x3, x4, s _ _ z1, z2⟩
theorem ordT_nil {n : Nat} (h : 1 ≤ n) : ordT n (.tup []) = false := ordT_len (by show 0 ≠ n; omega)
section
variable {P : Program} {w : World} {K : PySem.W.Frag} {mg : Str → Option Value} {base : Heap}
def spLThingF : Sp := fun vs H Q _ => ∃ (p : Addr) (deep : Int) (m : Nat), vs = [.ref p, .int deep] ∧ PenAt H p ∧ 0 ≤ deep ∧ deep < 4 ∧ 1 ≤ m ∧ ∀ v H', Kp p H H' → PenAt H' p → (∃ t, ThAt m p H' v t) → Q v H'
theorem ok_LThingF {f : Addr} {fd : FuncData} {k : Nat} (D : Df K mg "_law_thing" sLThing pLThing f fd) (C__law_draw : CDrw P w K mg base k) (C__law_thing : CallOk P w K mg base k "_law_thing" pLThing (spLThing 3)) (m_range : mg "range" = none) (m_tuple : mg "tuple" = none) : FnOk P w K mg base CX0 (k + 1) f fd pLThing spLThingF := by
  refine D.F.ok scLThing (fun vs H Q E h => ?_) (fun cdv A outer s H vs Q E hr h => ?_)
  · obtain ⟨p, deep, m, rfl, _⟩ := h
    rfl
  · obtain ⟨p, deep, n, rfl, hP, h0, h1, hn1, q⟩ := h
    have o0 := ordT_nil hn1
    have nd := scLThing.nd
    refine ⟨_, pss_cons (ps_set (i := 2) nd rfl (.inl rfl) (pe_call C__law_draw.ok hr (by rfl) C__law_draw.g C__law_draw.kp C__law_draw.b .nil pass0 (pa_cons (pv 0) (pa_cons pe_int pa_nil))))
    (pss_cons (ps_if (PW.pt (pw_or (pt_cmpR op_lt (pv 2) pe_int (nomark _)) (pw_or1 (pt_cmpR op_eq (pv 1) pe_int (nomark _))))) (pss_one (ps_ret (pe_ix ix_list (pe_lst (pa_cons pe_non (pa_cons pe_bl (pa_cons pe_bl (pa_cons pe_int (pa_cons pe_int (pa_cons (pe_un un_neg pe_int) (pa_cons pe_int (pa_cons (pe_op op_pow pe_int pe_int) (pa_cons pe_str (pa_cons pe_str (pa_cons (pe_tup pa_nil) (pa_cons (pe_lst pa_nil) pa_nil))))))))))))) (pe_call C__law_draw.ok hr (by rfl) C__law_draw.g C__law_draw.kp C__law_draw.b .nil pass0 (pa_cons (pv 0) (pa_cons pe_int pa_nil))) (fun _ _ => rfl)))) pss_nil)
    (pss_cons (ps_setLc (i := 3) (own := [("_law_k", 4)]) (g := gName 4) (by rfl) nd rfl rfl (sw_true rfl rfl rfl (by decide +kernel)) (pi_range1 rfl m_range (pa_cons (pe_call C__law_draw.ok hr (by rfl) C__law_draw.g C__law_draw.kp C__law_draw.b .nil pass0 (pa_cons (pv 0) (pa_cons pe_int pa_nil))) pa_nil)) (blkOk_by (own := [("_law_k", 4)]) (N := nLThing) (sc := defScope sLThing) (by decide +kernel)) (fun _ _ _ _ _ => (pg_name (i := 4) nd rfl (.inl rfl))) (fun _ _ _ _ _ => pts_nil)
        (fun _ _ _ _ _ => (pe_call C__law_thing.ok hr (by rfl) C__law_thing.g C__law_thing.kp C__law_thing.b .nil pass0 (pa_cons (pv 0) (pa_cons (pe_op op_sub (pv 1) pe_int) pa_nil)))))
    (pss_cons (ps_if (pt_cmpR op_eq (pv 2) pe_int (nomark _)) (pss_one (ps_ret (pv 3))) pss_nil)
    (pss_cons (ps_if (pt_cmpR op_eq (pv 2) pe_int (nomark _)) (pss_one (ps_ret (pe_disp (pps_cons pe_str (pv 3) pps_nil) rfl rfl (by simp) (by decide)))) pss_nil)
    (pss_one (ps_ret (pe_callTy (cr_tupF (K := K) (by rfl)) (by rfl) m_tuple (by decide +kernel) (pa_cons (pv 3) pa_nil)))))))), ?_⟩
    refine ⟨_, rfl, p, 12, rfl, hP, by decide, by decide, fun way H1 k1 P1 a1 b1 => ?_⟩
    refine ⟨_, rfl, _, _, rfl, rfl, _, rfl, ?_⟩
    refine ite2 (fun c => ?_) (fun c => ⟨_, rfl, rfl, _, rfl, ite2 (fun c2 => ?_) (fun c2 => ?_)⟩)
    rotate_right 1
    · have hd : deep ≠ 0 := fun h => c2 (decide_eq_true (congrArg V.int h))
      refine ⟨_, rfl, p, 4, rfl, P1, by decide, by decide, fun m H2 k2 P2 a2 b2 => ?_⟩
      refine ⟨_, rfl, by omega, by omega, fun M nM => ?_⟩
      have nMp : M ≠ p := P2.free nM
      refine lc_range (lo := 0) (n := m.toNat) (fun i H' => ∃ (xs : List V) (ts : List Tg), H' M = some (.lst xs) ∧ Kp p H2 H' ∧ PenAt H' p ∧ xs.length = i ∧ TgAll p H' xs ts) ⟨[], [], upd_same, Kp.new nM _, P2.new nM _, rfl, .nil⟩ ?_ ?_
      · rintro i H3 hi ⟨xs, ts, eM, k3, P3, hl, hts⟩
        refine ⟨rfl, ?_⟩
        unfold tYes
        dsimp only
        rw [if_pos rfl]
        refine ⟨_, rfl, _, rfl, _, _, rfl, rfl, p, deep - 1, rfl, P3, by omega, by omega, fun v H4 k4 P4 ⟨t, hv⟩ => ?_⟩
        have eM4 := k4 _ _ nMp eM
        have hxs4 : ∀ x ∈ xs ++ [v], ∃ t, TgAt p (upd H4 M (.lst (xs ++ [v]))) x t := fun x hx => by
          have h5 : ∃ t, TgAt p H4 x t := by
            rcases List.mem_append.mp hx with hx | hx
            · obtain ⟨t', _, ht'⟩ := hts.mem hx
              exact ⟨t', TgAt.kp k4 P3 _ _ ht'⟩
            · rw [List.mem_singleton.mp hx]
              exact ⟨t, hv⟩
          obtain ⟨t5, h5⟩ := h5
          exact ⟨t5, TgAt.relist eM4 t5 x h5⟩
        obtain ⟨ts', hts'⟩ := TgAll.mk hxs4
        exact ⟨_, eM4, small1000 (by omega), xs ++ [v], ts', upd_same, (k3.trans k4).over nM _, P4.put nMp _, by rw [List.length_append, hl]; rfl, hts'⟩
      rintro H3 ⟨xs, ts, eM, k3, P3, hl, hts⟩
      have k03 := k1.trans (k2.trans k3)
      refine ⟨_, rfl, rfl, _, rfl, ite2 (fun c => ⟨_, rfl, q _ H3 k03 P3 ⟨_, .inl ⟨.lst nMp eM, rfl⟩⟩⟩) (fun c => ⟨_, rfl, rfl, _, rfl, ite2 (fun c => ?_) (fun c => ?_)⟩)⟩
      · intro d nd'
        have ndp : d ≠ p := P3.free nd'
        exact ⟨_, rfl, upd_same, [(Sum.inr "a", .ref M)], rfl, (by show 1 ≤ 15; omega), q _ _ ((k03.trans (Kp.new nd' _)).over (k03.noneG ndp nd') _) ((P3.new nd' _).put ndp _) ⟨_, .inl ⟨.dct ndp upd_same, rfl⟩⟩⟩
      · exact ⟨_, rfl, M, _, rfl, SqL.of eM, fun t nt H4 s4 _ hf => q _ _ (k03.trans (Kp.same s4)) (PenAt.sm P3 s4) ⟨_, .inr ⟨t, _, _, rfl, rfl, hf, TgAll.same s4 _ _ hts⟩⟩⟩
    all_goals
      refine ⟨_, rfl, _, _, rfl, rfl, ⟨by decide, by decide, by decide⟩, Nat.zero_le _, fun t1 nt1 => ?_⟩
      have P2 := P1.new nt1 (.tup [])
      have k2 : Kp p H1 (upd H1 t1 (.tup [])) := Kp.new nt1 _
      have e2 : (upd H1 t1 (.tup [])) t1 = some (.tup []) := upd_same
      generalize (upd H1 t1 (.tup [])) = H2 at P2 k2 e2
      refine ⟨Nat.zero_le _, fun l2 nl2 => ?_⟩
      have P3 := P2.new nl2 (.lst [])
      have k3 : Kp p H2 (upd H2 l2 (.lst [])) := Kp.new nl2 _
      have s3 := same_new nl2 (.lst [])
      have e3 : (upd H2 l2 (.lst [])) l2 = some (.lst []) := upd_same
      have np2 : l2 ≠ p := P2.free nl2
      generalize (upd H2 l2 (.lst [])) = H3 at P3 k3 s3 e3
      refine ⟨(by show 12 ≤ sizeLine; decide), fun l3 nl3 => ?_⟩
      have np3 : l3 ≠ p := P3.free nl3
      have s4 := same_new nl3 (.lst [.non, .bl true, .bl false, .int 0, .int 1, .int (-1), .int 9, .int (10 ^ (39 : Int).toNat), .str "", .str "a", .ref t1, .ref l2])
      refine ⟨_, rfl, p, 12, rfl, P3.new nl3 _, by decide, by decide, fun u H5 k5 P5 a5 b5 => ?_⟩
      obtain ⟨v, gv, hv⟩ := pick (xs := [.non, .bl true, .bl false, .int 0, .int 1, .int (-1), .int 9, .int (10 ^ (39 : Int).toNat), .str "", .str "a", .ref t1, .ref l2]) (fun v => ∃ o, ThAt n p H5 v o) a5 b5 (am1 ⟨_, .inl ⟨.non, rfl⟩⟩ (am1 ⟨_, .inl ⟨.bl _, rfl⟩⟩ (am1 ⟨_, .inl ⟨.bl _, rfl⟩⟩ (am1 ⟨_, .inl ⟨.int _, rfl⟩⟩ (am1 ⟨_, .inl ⟨.int _, rfl⟩⟩ (am1 ⟨_, .inl ⟨.int _, rfl⟩⟩ (am1 ⟨_, .inl ⟨.int _, rfl⟩⟩ (am1 ⟨_, .inl ⟨.int _, rfl⟩⟩ (am1 ⟨_, .inl ⟨.str _, rfl⟩⟩ (am1 ⟨_, .inl ⟨.str _, rfl⟩⟩ (am1 ⟨_, .inl ⟨.tup (k5.tup (P3.new nl3 _) _ _ (s4 _ _ (s3 _ _ e2))) .nil, o0⟩⟩ (am1 ⟨_, .inl ⟨.lst np2 (k5 _ _ np2 (s4 _ _ e3)), rfl⟩⟩ am0))))))))))))
      exact ⟨l3, _, u, v, rfl, rfl, SqL.of (k5 _ _ np3 upd_same), gv, q v H5 (k1.trans (k2.trans (k3.trans ((Kp.new nl3 _).trans k5)))) P5 hv⟩
end
end Deed

namespace Deed
open PySem PySem.Spec PySem.W PyProof.Rows L2 LamX
/-! ### an order spoilt, the object of a tuple known -/
theorem lenLast {xs : List V} (h : 1 ≤ xs.length) : (cutV xs (some (-1)) none).length = 1 := by
  unfold cutV
  rw [List.length_take, List.length_drop, HT.sIx_none, show HT.sIx xs.length 0 (some (-1)) = xs.length - 1 from by
    show (if (-1 : Int) < 0 then ((-1 : Int) + (xs.length : Int)).toNat else min (-1 : Int).toNat xs.length) = _
    rw [if_pos (by decide)]
    omega]
  omega
theorem lenInit {xs : List V} (h : 1 ≤ xs.length) : (cutV xs none (some (-1))).length = xs.length - 1 := by
  unfold cutV
  rw [List.length_take, List.length_drop, HT.sIx_none, show HT.sIx xs.length xs.length (some (-1)) = xs.length - 1 from by
    show (if (-1 : Int) < 0 then ((-1 : Int) + (xs.length : Int)).toNat else min (-1 : Int).toNat xs.length) = _
    rw [if_pos (by decide)]
    omega]
  omega
theorem catF_any {K : PySem.W.Frag} {H : Hp} {a b : Addr} {xs ys : List V} {Q : VK} (ha : SqT K H a xs) (hb : SqT K H b ys) (hl : xs.length + ys.length ≤ 1000) (fa : xs ≠ [] → ys = [] → FzT H a xs) (fb : xs = [] → FzT H b ys) (q : ∀ t H', Same H H' → FzT H' t (xs ++ ys) → Q (.ref t) H') : rCatF K (.ref a) (.ref b) H Q := by
  refine ⟨a, b, xs, ys, rfl, rfl, ha, hb, Nat.le_of_lt (small1000 hl), fun e => ?_, fun n e => ?_, fun _ _ t nt H2 s2 _ hf => q t H2 s2 hf⟩
  · have := q b H (same_refl _)
    rw [e] at this
    exact this (by rw [List.nil_append]; exact fb e)
  · have := q a H (same_refl _)
    rw [e, List.append_nil] at this
    exact this (fa n e)
section
variable {P : Program} {w : World} {K : PySem.W.Frag} {mg : Str → Option Value} {base : Heap}
def spLSpoiltF : Sp := fun vs H Q _ => ∃ (p a : Addr) (n : Nat) (ns : List Int), vs = [.ref p, .ref a] ∧ PenAt H p ∧ H a = some (.tup (ns.map V.int)) ∧ OrdI n ns ∧ 1 ≤ n ∧ n ≤ 7 ∧ ∀ v H', Kp p H H' → PenAt H' p → (∃ t, ThAt n p H' v t) → Q v H'
theorem ok_LSpoiltF {f : Addr} {fd : FuncData} {k : Nat} (F : Fun K "_law_spoilt" "_law_spoilt" sLSpoilt f fd) (C__law_draw : CDrw P w K mg base k) (C__law_thing : CallOk P w K mg base k "_law_thing" pLThing spLThingF) (C__law_spoilt : CallOk P w K mg base k "_law_spoilt" pLSpoilt (spLSpoilt 3)) (m_isinstance : mg "isinstance" = none) (m_tuple : mg "tuple" = none) (m_len : mg "len" = none) (m_list : mg "list" = none) (m_int : mg "int" = none) (m_str : mg "str" = none) : FnOk P w K mg base CX0 (k + 1) f fd pLSpoilt spLSpoiltF := by
  refine F.ok scLSpoilt (fun vs H Q E h => ?_) (fun cdv A outer s H vs Q E hr h => ?_)
  · obtain ⟨p, a, n, ns, rfl, _⟩ := h
    rfl
  · obtain ⟨p, a, n, ns, rfl, hP, ea, ho, n1, n7, q⟩ := h
    have nd := scLSpoilt.nd
    refine ⟨_, C8.pss_cut (ps_if (PW.pt (pw_and (pt_val (pe_callB call_isi (by rfl) m_isinstance (by decide +kernel) (pa_cons (pv 1) (pa_cons (pe_bltn (v := .ty "tuple") (by rfl) m_tuple (by decide +kernel) rfl) pa_nil)))) (pw_and (pt_cmpR (op_neTE hr.units) (pv 1) (pe_tup pa_nil) (nomark _)) (pw_and1 (pt_cmpR op_gt (pe_call C__law_draw.ok hr (by rfl) C__law_draw.g C__law_draw.kp C__law_draw.b .nil pass0 (pa_cons (pv 0) (pa_cons pe_int pa_nil))) pe_int (nomark _)))))) (pss_cons (ps_set (i := 2) nd rfl (.inl rfl) (pe_call C__law_draw.ok hr (by rfl) C__law_draw.g C__law_draw.kp C__law_draw.b .nil pass0 (pa_cons (pv 0) (pa_cons (pe_callB call_len_seq (by rfl) m_len (by decide +kernel) (pa_cons (pv 1) pa_nil)) pa_nil))))
      (pss_one (ps_ret (pe_op (op_catF (K := K) (by rfl)) (pe_op (op_catF (K := K) (by rfl)) (pe_slice sl_tupA (pv 1) po_none (po_some (pv 2))) (pe_tupF (pa_cons (pe_call C__law_spoilt.ok hr (by rfl) C__law_spoilt.g C__law_spoilt.kp C__law_spoilt.b .nil pass0 (pa_cons (pv 0) (pa_cons (pe_ix ix_tup (pv 1) (pv 2) (fun _ _ => rfl)) pa_nil))) pa_nil))) (pe_slice sl_tupA (pv 1) (po_some (pe_op op_add (pv 2) pe_int)) po_none))))) pss_nil)
      (pss_cons (ps_set (i := 3) nd rfl (.inl rfl) (pe_call C__law_draw.ok hr (by rfl) C__law_draw.g C__law_draw.kp C__law_draw.b .nil pass0 (pa_cons (pv 0) (pa_cons pe_int pa_nil))))
      (C8.pss_cut (ps_if (PW.pt (pw_and (pt_val (pe_callB call_isi (by rfl) m_isinstance (by decide +kernel) (pa_cons (pv 1) (pa_cons (pe_bltn (v := .ty "tuple") (by rfl) m_tuple (by decide +kernel) rfl) pa_nil)))) (pw_and1 (pt_cmpR op_lt (pv 3) pe_int (nomark _))))) (pss_one (ps_ret (pe_ix ix_list (pe_lst (pa_cons (pe_op op_catA (pv 1) (pe_slice sl_tupA (pv 1) (po_some (pe_un un_neg pe_int)) po_none)) (pa_cons (pe_slice sl_tupA (pv 1) po_none (po_some (pe_un un_neg pe_int))) (pa_cons (pe_callTy call_list_of (by rfl) m_list (by decide +kernel) (pa_cons (pv 1) pa_nil)) (pa_cons (pe_revF (K := K) (by rfl) (pv 1)) pa_nil))))) (pv 3) (fun _ _ => rfl)))) pss_nil)
      (pss_cons (ps_if (PW.pt (pw_and (pt_val (pe_callB call_isi (by rfl) m_isinstance (by decide +kernel) (pa_cons (pv 1) (pa_cons (pe_bltn (v := .ty "int") (by rfl) m_int (by decide +kernel) rfl) pa_nil)))) (pw_and1 (pt_cmpR op_lt (pv 3) pe_int (nomark _))))) pss_never pss_nil)
      (pss_cons (ps_if (PW.pt (pw_and (pt_val (pe_callB call_isi (by rfl) m_isinstance (by decide +kernel) (pa_cons (pv 1) (pa_cons (pe_bltn (v := .ty "str") (by rfl) m_str (by decide +kernel) rfl) pa_nil)))) (pw_and1 (pt_cmpR op_lt (pv 3) pe_int (nomark _))))) pss_never pss_nil)
      (pss_one (ps_ret (pe_call C__law_thing.ok hr (by rfl) C__law_thing.g C__law_thing.kp C__law_thing.b .nil pass0 (pa_cons (pv 0) (pa_cons pe_int pa_nil))))))))), ?_⟩
    have hxl : (ns.map V.int).length = n := by rw [List.length_map]; exact ho.1
    have hts0 : TgAll p H (ns.map V.int) (ns.map Tg.int) := by
      clear ea hxl ho
      induction ns with
      | nil => exact .nil
      | cons x r ih => exact .cons (.int x) ih
    have htl : (ns.map Tg.int).length = n := by rw [List.length_map]; exact ho.1
    have hfi : ∀ t ∈ ns.map Tg.int, FitsN 3 t := fun t ht => by
      obtain ⟨x, hx, rfl⟩ := List.mem_map.mp ht
      have := ho.2.1 x hx
      exact log_small (show x.natAbs < 2 ^ 64 by omega)
    generalize hxs : ns.map V.int = xs at *
    generalize hts' : ns.map Tg.int = ts at *
    have hT : TgAt p H (.ref a) (.tup ts) := .tup ea hts0
    refine ⟨fun σ' H' => ∃ y2, σ' = [some (.ref p), some (.ref a), y2, none] ∧ Kp p H H' ∧ PenAt H' p, ?_, ?_⟩
    · refine ⟨_, rfl, _, _, _, _, true, rfl, .ty "tuple", hT.ty, kit_ty (Tg.tup ts).kT, _, rfl, ?_⟩
      refine iteT ⟨_, rfl, Nat.zero_le _, fun t1 nt1 => ?_⟩
      have s1 := same_new nt1 (.tup [])
      have e1 : (upd H t1 (.tup [])) t1 = some (.tup []) := upd_same
      have P1 := hP.new nt1 (.tup [])
      generalize (upd H t1 (.tup [])) = H1 at s1 e1 P1
      refine ⟨a, t1, xs, rfl, rfl, SqT.of (s1 _ _ ea), SqT.of e1, _, rfl, ?_⟩
      refine ite2 (fun c1 => ?_) (fun c1 => ⟨_, rfl, Kp.same s1, P1⟩)
      refine ⟨_, rfl, p, 6, rfl, P1, by decide, by decide, fun u H2 k2 P2 a2 b2 => ⟨_, _, rfl, rfl, _, rfl, ?_⟩⟩
      have k02 : Kp p H H2 := (Kp.same s1).trans k2
      refine ite2 (fun c2 => ?_) (fun c2 => ⟨_, rfl, k02, P2⟩)
      have ea2 := k02.tup hP _ _ ea
      have hts2 := TgAll.kp k02 hP _ _ hts0
      refine ⟨_, rfl, _, rfl, a, _, rfl, .inr (SqT.of ea2), p, _, rfl, P2, by omega, by omega, fun at_ H3 k3 P3 a3 b3 => ?_⟩
      have ea3 := k3.tup P2 _ _ ea2
      have hts3 := TgAll.kp k3 P2 _ _ hts2
      refine ⟨_, rfl, _, rfl, _, rfl, slA_same ea3 fun t4 H4 s4 e4 => ?_⟩
      have P4 := PenAt.sm P3 s4
      have hix : at_.toNat < xs.length := by omega
      have hv : xs[at_.toNat]? = some xs[at_.toNat] := List.getElem?_eq_getElem hix
      obtain ⟨tv, htv, hatv⟩ := (TgAll.same s4 _ _ hts3).get hv
      refine ⟨_, rfl, _, rfl, _, rfl, a, _, at_, xs[at_.toNat], rfl, rfl, SqT.of (s4 _ _ ea3), at_of (j := at_.toNat) (by omega) hv, p, _, tv, rfl, P4, hatv, hfi tv (List.mem_of_getElem? htv), fun v5 H5 k5 P5 ⟨t5, h5⟩ => ?_⟩
      refine ⟨(by show 1 ≤ sizeLine; decide), fun t6 nt6 H6 s6 _ f6 => ?_⟩
      have P6 := PenAt.sm P5 s6
      have k46 : Kp p H4 H6 := k5.trans (Kp.same s6)
      have hc4 := cutV_le xs none (some at_)
      refine catF_any (SqT.of (k46.tup P4 _ _ e4)) f6.sq (by show _ + 1 ≤ 1000; omega) (fun _ z => by cases z) (fun _ => f6) fun t7 H7 s7 f7 => ?_
      have k37 : Kp p H3 H7 := (Kp.same s4).trans (k46.trans (Kp.same s7))
      refine ⟨_, rfl, _, rfl, _, _, rfl, rfl, _, rfl, ?_⟩
      dsimp only [tNoPart]
      refine slA_same (k37.tup P3 _ _ ea3) fun t8 H8 s8 e8 => ?_
      have hc8 := cutV_le xs (some (at_ + 1)) none
      refine catF_any (f7.same s8).sq (SqT.of e8) (by rw [List.length_append]; show _ + 1 + _ ≤ 1000; omega) (fun _ _ => f7.same s8) (fun z => by simp at z) fun t9 H9 s9 f9 => ?_
      have s69 := s7.trans (s8.trans s9)
      have k39 : Kp p H3 H9 := k37.trans (Kp.same (s8.trans s9))
      have P9 := PenAt.sm P6 s69
      have hts9 := TgAll.kp k39 P3 _ _ hts3
      obtain ⟨u1, hu1⟩ := hts9.cut none (some at_)
      obtain ⟨u2, hu2⟩ := hts9.cut (some (at_ + 1)) none
      exact q _ H9 (k02.trans (k3.trans k39)) P9 ⟨_, .inr ⟨t9, _, _, rfl, rfl, f9, (hu1.append (.cons (TgAt.same (s6.trans s69) _ _ h5) .nil)).append hu2⟩⟩
    rintro _ H1 ⟨y2, rfl, k1, P1⟩
    have hT1 := TgAt.kp k1 hP _ _ hT
    refine ⟨_, rfl, p, 8, rfl, P1, by decide, by decide, fun way H2 k2 P2 a2 b2 => ?_⟩
    have hT2 := TgAt.kp k2 P1 _ _ hT1
    have k02 := k1.trans k2
    refine ⟨fun σ' H' => σ' = [some (.ref p), some (.ref a), y2, some (.int way)] ∧ H' = H2, ?_, ?_⟩
    · refine ⟨_, rfl, _, _, _, _, true, rfl, .ty "tuple", hT2.ty, kit_ty (Tg.tup ts).kT, _, rfl, iteT ?_⟩
      refine ⟨_, rfl, _, _, rfl, rfl, _, rfl, ?_⟩
      refine ite2 (fun c1 => ?_) (fun c1 => ⟨rfl, rfl⟩)
      have hw4 : way < 4 := of_decide_eq_true c1
      have ea := k02.tup hP _ _ ea
      have hts := TgAll.kp k02 hP _ _ hts0
      refine ⟨_, rfl, _, rfl, _, rfl, _, rfl, ?_⟩
      dsimp only [tNoPart]
      refine slA_same ea fun t3 H3 s3 e3 => ?_
      have hc3 := cutV_le xs (some (-1)) none
      refine catA_same (s3 _ _ ea) e3 (by omega) fun t4 H4 s4 e4 => ?_
      have s24 := s3.trans s4
      refine ⟨_, rfl, _, rfl, _, rfl, slA_same (s24 _ _ ea) fun t5 H5 s5 e5 => ?_⟩
      have s25 := s24.trans s5
      refine ⟨_, rfl, a, _, rfl, .inr (SqT.of (s25 _ _ ea)), fun l6 nl6 => ?_⟩
      have s6 := same_new nl6 (.lst xs)
      have e6 : (upd H5 l6 (.lst xs)) l6 = some (.lst xs) := upd_same
      have nlp : l6 ≠ p := (PenAt.sm P2 s25).free nl6
      generalize (upd H5 l6 (.lst xs)) = H6 at s6 e6
      have s26 := s25.trans s6
      refine ⟨_, rfl, a, _, rfl, SqT.of (s26 _ _ ea), fun t7 nt7 H7 s7 _ f7 => ?_⟩
      have s27 := s26.trans s7
      refine ⟨(by show 4 ≤ sizeLine; decide), fun l8 nl8 => ?_⟩
      have s8 := same_new nl8 (.lst [.ref t4, .ref t5, .ref l6, .ref t7])
      have e8 : (upd H7 l8 (.lst [.ref t4, .ref t5, .ref l6, .ref t7])) l8 = some (.lst [.ref t4, .ref t5, .ref l6, .ref t7]) := upd_same
      generalize (upd H7 l8 (.lst [.ref t4, .ref t5, .ref l6, .ref t7])) = H8 at s8 e8
      have s28 := s27.trans s8
      have hts8 := TgAll.same s28 _ _ hts
      obtain ⟨u1, hu1⟩ := hts8.cut (some (-1)) none
      obtain ⟨u2, hu2⟩ := hts8.cut none (some (-1))
      have lu1 := hu1.length
      have lu2 := hu2.length
      rw [lenLast (by omega)] at lu1
      rw [lenInit (by omega)] at lu2
      obtain ⟨vv, gv, hv⟩ := pick (i := way) (xs := [.ref t4, .ref t5, .ref l6, .ref t7]) (fun v => ∃ o, ThAt n p H8 v o) a2 (by show way < 4; exact hw4) (am1 ⟨_, .inl ⟨.tup ((s5.trans (s6.trans (s7.trans s8))) _ _ e4) (hts8.append hu1), ordT_len (by rw [List.length_append]; omega)⟩⟩ (am1 ⟨_, .inl ⟨.tup ((s6.trans (s7.trans s8)) _ _ e5) hu2, ordT_len (by omega)⟩⟩ (am1 ⟨_, .inl ⟨.lst nlp ((s7.trans s8) _ _ e6), rfl⟩⟩ (am1 ⟨_, .inr ⟨t7, _, _, rfl, rfl, f7.same s8, hts8.reverse⟩⟩ am0))))
      exact ⟨_, rfl, l8, _, way, vv, rfl, rfl, SqL.of e8, gv, q vv H8 (k02.trans (Kp.same s28)) (PenAt.sm P2 s28) hv⟩
    rintro _ H2' ⟨rfl, eH⟩
    rw [eH]
    clear eH H2'
    refine ⟨_, rfl, _, _, _, _, false, rfl, .ty "int", hT2.ty, kit_ty (Tg.tup ts).kI, _, rfl, iteF ?_⟩
    refine ⟨_, rfl, _, _, _, _, false, rfl, .ty "str", hT2.ty, kit_ty (Tg.tup ts).kS, _, rfl, iteF ?_⟩
    exact ⟨_, rfl, p, 2, n, rfl, P2, by decide, by decide, n1, fun v' H' k' P' hv => q v' H' (k02.trans k') P' hv⟩
end
end Deed

namespace Deed
open PySem PySem.Spec PySem.W PyProof.Rows L2 L2.DX LamX
/-! ### the law of k62 -/
theorem turns2C (m : Nat) : ∃ tn : Int, (if (if 2 < (m : Int) then 2 else (m : Int)) > 1 then (if 2 < (m : Int) then 2 else (m : Int)) else 1) = tn ∧ 0 ≤ tn ∧ tn ≤ 2 := ⟨_, rfl, by split <;> split <;> omega, by split <;> split <;> omega⟩
theorem tYes_ap {σ : L2.St} {H : Hp} {Q : Bool → Hp → Prop} : tYes σ H Q = Q true H := rfl
theorem ints_tg {p : Addr} {H : Hp} : ∀ os : List Nat, TgAll p H (nI os) (os.map fun k : Nat => Tg.int (k : Int))
  | [] => .nil
  | k :: r => .cons (.int _) (ints_tg r)
theorem ord_perm {n : Nat} {os : List Nat} (h : os.Perm (List.range n)) : OrdI n (os.map fun k : Nat => (k : Int)) := by
  refine ⟨by rw [List.length_map, h.length_eq, List.length_range], fun x hx => ?_, ?_⟩
  · obtain ⟨k, hk, rfl⟩ := List.mem_map.mp hx
    have := List.mem_range.mp (h.mem_iff.mp hk)
    omega
  · exact List.pairwise_map.mpr ((h.nodup_iff.mpr List.nodup_range).imp fun h => by omega)
def ThAll (n : Nat) (p : Addr) (H : Hp) (vs : List V) : Prop := ∀ v ∈ vs, ∃ t, ThAt n p H v t
section
variable {n : Nat} {p : Addr} {H H' : Hp} {vs us : List V}
theorem ThAll.same (h : ThAll n p H vs) (s : Same H H') : ThAll n p H' vs := fun v hv => (h v hv).imp fun _ z => z.same s
theorem ThAll.kp (h : ThAll n p H vs) (k : Kp p H H') (P : PenAt H p) : ThAll n p H' vs := fun v hv => (h v hv).imp fun _ z => z.kp k P
theorem ThAll.relist {M : Addr} {xs ys : List V} (h : ThAll n p H vs) (e : H M = some (.lst xs)) : ThAll n p (upd H M (.lst ys)) vs := fun v hv => (h v hv).imp fun _ z => z.relist e
theorem ThAll.app (h : ThAll n p H vs) (h2 : ThAll n p H us) : ThAll n p H (vs ++ us) := fun v hv => (List.mem_append.mp hv).elim (h v) (h2 v)
theorem thAll0 : ThAll n p H [] := fun _ h => nomatch h
theorem ThAll.cons {v : V} {t : Tg} (h : ThAt n p H v t) (h2 : ThAll n p H vs) : ThAll n p H (v :: vs) := fun x hx => by
  rcases List.mem_cons.mp hx with z | z
  · rw [z]
    exact ⟨t, h⟩
  · exact h2 x z
end
theorem th_fz {n : Nat} {p a : Addr} {H : Hp} {xs : List V} {ts : List Tg} (f : FzT H a xs) (h : TgAll p H xs ts) : ThAt n p H (.ref a) (.tup ts) := .inr ⟨a, xs, ts, rfl, rfl, f, h⟩
theorem zeros_no {n : Nat} (h : 2 ≤ n) : ordT n (.tup (List.replicate n (Tg.int 0))) = false := by
  cases ho : ordT n (.tup (List.replicate n (Tg.int 0))) with
  | false => rfl
  | true =>
    obtain ⟨ns, e, _, _, nd⟩ := ordT_of ho
    injection e with e
    have := congrArg (List.map Tg.toI) e
    rw [toI_int, List.map_replicate] at this
    rw [← this, show n = (n - 2) + 1 + 1 by omega, List.replicate_succ, List.replicate_succ] at nd
    exact absurd List.mem_cons_self (List.nodup_cons.mp nd).1
theorem zeros_tg {p : Addr} {H : Hp} : ∀ k : Nat, TgAll p H (List.replicate k [V.int 0]).flatten (List.replicate k (Tg.int 0))
  | 0 => .nil
  | k + 1 => .cons (.int 0) (zeros_tg k)
theorem repZ {K : PySem.W.Frag} {n : Nat} {p tz : Addr} {H : Hp} {Q : VK} (n1 : 1 ≤ n) (n7 : n ≤ 7) (f : FzT H tz [.int 0]) (q : ∀ x H', Same H H' → (∃ t, ThAt n p H' x t) → Q x H') : rRepA K (.ref tz) (.int (n : Int)) H Q := by
  refine ⟨tz, (n : Int), _, rfl, rfl, f.sq, (by simp), by omega, by omega, (by decide), fun e1 => ?_, fun e2 tr ntr => ?_⟩
  · exact q _ H (same_refl _) ⟨_, th_fz f (.cons (.int 0) .nil)⟩
  · rw [Int.toNat_natCast]
    exact q _ _ (same_new ntr _) ⟨_, .inl ⟨.tup upd_same (zeros_tg n), zeros_no (by omega)⟩⟩
def mixV (o : Nat) : V := if (o : Int) < 2 then .bl (decide (V.int (o : Int) = V.int 1)) else .int (o : Int)
theorem mix_tg {p : Addr} {H : Hp} : ∀ os : List Nat, ∃ ts, TgAll p H (os.map mixV) ts
  | [] => ⟨[], .nil⟩
  | o :: r => by
    obtain ⟨ts, h⟩ := mix_tg (p := p) (H := H) r
    show ∃ ts, TgAll p H (mixV o :: r.map mixV) ts
    unfold mixV
    split
    · exact ⟨_, .cons (.bl _) h⟩
    · exact ⟨_, .cons (.int _) h⟩
section
variable {P : Program} {w : World} {K : PySem.W.Frag} {mg : Str → Option Value} {base : Heap}
abbrev sLaw : Stmt := topS 27
abbrev nLaw : List Str := ["_law_script", "_law_k", "_law_pen_here", "_law_turn", "_law_size", "_law_order", "_law_words", "_law_things", "_law_thing_here", "_law_more", "_law_one"]
abbrev pLaw : List Str := ["_law_script"]
theorem scLaw : FnScope nLaw pLaw (defScope sLaw) := ⟨rfl, rfl, rfl, by decide +kernel, rfl, by decide +kernel, by decide +kernel⟩
def spLaw (K : PySem.W.Frag) : Sp := fun vs H Q _ => ∃ (a : Addr) (ns : List Int), vs = [.ref a] ∧ SqL K H a (ns.map V.int) ∧ ns.length ≤ 63 ∧ ∀ H', Q (.bl true) H'
theorem ok_law {f : Addr} {fd : FuncData} {k : Nat} (F : Fun K "law" "law" sLaw f fd) (C__law_cell_at : CallOk P w K mg base k "_law_cell_at" ["_law_script", "_law_k"] (spCell K)) (C__law_pen : CallOk P w K mg base k "_law_pen" ["_law_cell"] spPen) (C__law_draw : CDrw P w K mg base k) (C__law_mixed : CallOk P w K mg base k "_law_mixed" ["_law_pen_here", "_law_some"] (spMixed K)) (C__law_true : CallOk P w K mg base k "_law_true" pLTrue spLTrue) (C__law_told : CallOk P w K mg base k "_law_told" pLTold spLTold) (C__law_thing : CallOk P w K mg base k "_law_thing" pLThing spLThingF) (C__law_spoilt : CallOk P w K mg base k "_law_spoilt" pLSpoilt spLSpoiltF) (C_order_fits : CallOk P w K mg base k "order_fits" pOrderFits spFits) (C__law_good : CallOk P w K mg base k "_law_good" pLGood spFits) (m_len : mg "len" = none) (m_min : mg "min" = none) (m_max : mg "max" = none) (m_range : mg "range" = none) (m_list : mg "list" = none) (m_tuple : mg "tuple" = none) (m_int : mg "int" = none) : FnOk P w K mg base CX0 (k + 1) f fd pLaw (spLaw K) := by
  refine F.ok scLaw (fun vs H Q E h => ?_) (fun cdv A outer s H vs Q E hr h => ?_)
  · obtain ⟨a, ns, rfl, _⟩ := h
    rfl
  · obtain ⟨a, ns, rfl, hS, h63, q⟩ := h
    have nd := scLaw.nd
    have hu := hu_of hr
    refine ⟨_, pss_cons (ps_for PassesOwn.never rfl (pi_range1 rfl m_range (pa_cons (pe_callB (call_max2 rfl) (by rfl) m_max (by decide +kernel) (pa_cons pe_int (pa_cons (pe_callB (call_min2 rfl) (by rfl) m_min (by decide +kernel) (pa_cons (pe_callB call_len_seq (by rfl) m_len (by decide +kernel) (pa_cons (pv 0) pa_nil)) (pa_cons pe_int pa_nil))) pa_nil))) pa_nil)) (pg_name (i := 1) nd rfl (.inl rfl))
        (pss_cons (ps_set (i := 2) nd rfl (.inr rfl) (pe_call C__law_pen.ok hr (by rfl) C__law_pen.g C__law_pen.kp C__law_pen.b .nil pass0 (pa_cons (pe_call C__law_cell_at.ok hr (by rfl) C__law_cell_at.g C__law_cell_at.kp C__law_cell_at.b .nil pass0 (pa_cons (pv 0) (pa_cons (pv 1) pa_nil))) pa_nil)))
      (pss_one (ps_for PassesOwn.never rfl (pi_range1 rfl m_range (pa_cons pe_int pa_nil)) (pg_name (i := 3) nd rfl (.inl rfl))
        (pss_cons (ps_set (i := 4) nd rfl (.inl rfl) (pe_op op_add pe_int (pe_call C__law_draw.ok hr (by rfl) C__law_draw.g C__law_draw.kp C__law_draw.b .nil pass0 (pa_cons (pv 2) (pa_cons pe_int pa_nil)))))
      (pss_cons (ps_set (i := 5) nd rfl (.inr rfl) (pe_call C__law_mixed.ok hr (by rfl) C__law_mixed.g C__law_mixed.kp C__law_mixed.b .nil pass0 (pa_cons (pv 2) (pa_cons (pe_listRg (by rfl) (by rfl) m_list (prg_1 (by rfl) m_range (pv 4))) pa_nil))))
      (pss_cons (ps_set (i := 6) nd rfl (.inl rfl) (pe_callTy call_tuple_of (by rfl) m_tuple (by decide +kernel) (pa_cons (pe_lc (own := [("_law_more", 9)]) (g := gName 9) (by rfl) nd (pi_range1 rfl m_range (pa_cons (pe_call C__law_draw.ok hr (by rfl) C__law_draw.g C__law_draw.kp C__law_draw.b .nil pass0 (pa_cons (pv 2) (pa_cons pe_int pa_nil))) pa_nil)) (blkOk_by (own := [("_law_more", 9)]) (N := nLaw) (sc := defScope sLaw) (by decide +kernel)) (fun _ _ _ _ _ => (pg_name (i := 9) nd rfl (.inl rfl))) (fun _ _ _ _ _ => pts_nil)
          (fun _ _ _ _ _ => (pe_call C__law_true.ok hr (by rfl) C__law_true.g C__law_true.kp C__law_true.b .nil pass0 (pa_cons (pv 2) (pa_cons (pv 5) pa_nil))))) pa_nil)))
      (C8.pss_cut (ps_if (pt_cmpR op_eq (pe_call C__law_draw.ok hr (by rfl) C__law_draw.g C__law_draw.kp C__law_draw.b .nil pass0 (pa_cons (pv 2) (pa_cons pe_int pa_nil))) pe_int (nomark _)) (pss_one (ps_set (i := 6) nd rfl (.inl rfl) (pe_op op_catA (pv 6) (pe_tup (pa_cons (pe_call C__law_told.ok hr (by rfl) C__law_told.g C__law_told.kp C__law_told.b .nil pass0 (pa_cons (pv 2) (pa_cons (pv 4) pa_nil))) pa_nil))))) pss_nil)
      (pss_cons (ps_set (i := 7) nd rfl (.inl rfl) (pe_lst (pa_cons (pe_callTy (cr_tupF (K := K) (by rfl)) (by rfl) m_tuple (by decide +kernel) (pa_cons (pv 5) pa_nil)) (pa_cons (pv 5) (pa_cons (pe_callTy (cr_tupF (K := K) (by rfl)) (by rfl) m_tuple (by decide +kernel) (pa_cons (pe_slice sl_list (pv 5) (po_some pe_int) po_none) pa_nil)) (pa_cons (pe_callTy (cr_tupF (K := K) (by rfl)) (by rfl) m_tuple (by decide +kernel) (pa_cons (pe_op op_cat (pv 5) (pe_lst (pa_cons pe_int pa_nil))) pa_nil)) (pa_cons (pe_op op_repA (pe_tupF (pa_cons pe_int pa_nil)) (pv 4)) (pa_cons (pe_tupRgF (by rfl) (by rfl) m_tuple (prg_1 (by rfl) m_range (pv 4))) pa_nil))))))))
      (pss_cons (ps_set (i := 7) nd rfl (.inl rfl) (pe_op op_cat (pe_op op_cat (pv 7) (pe_lc (own := [("_law_more", 9)]) (g := gName 9) (by rfl) nd (pi_range1 rfl m_range (pa_cons pe_int pa_nil)) (blkOk_by (own := [("_law_more", 9)]) (N := nLaw) (sc := defScope sLaw) (by decide +kernel)) (fun _ _ _ _ _ => (pg_name (i := 9) nd rfl (.inl rfl))) (fun _ _ _ _ _ => pts_nil)
          (fun _ _ _ _ _ => (pe_callTy (cr_tupF (K := K) (by rfl)) (by rfl) m_tuple (by decide +kernel) (pa_cons (pe_call C__law_mixed.ok hr (by rfl) C__law_mixed.g C__law_mixed.kp C__law_mixed.b .nil pass0 (pa_cons (pv 2) (pa_cons (pv 5) pa_nil))) pa_nil))))) (pe_lst (pa_cons (pe_tup pa_nil) (pa_cons pe_non (pa_cons (pe_call C__law_thing.ok hr (by rfl) C__law_thing.g C__law_thing.kp C__law_thing.b .nil pass0 (pa_cons (pv 2) (pa_cons pe_int pa_nil))) pa_nil))))))
      (pss_cons (ps_expr (pe_bm PySem.F.plainAttrs_list PySem.F.slot_list_append PySem.F.type_list_append mt_append (pv 7) (pa_cons (pe_callTy (cr_tupF (K := K) (by rfl)) (by rfl) m_tuple (by decide +kernel) (pa_cons (pe_lc (own := [("_law_one", 10)]) (g := gName 10) (by rfl) nd (pi_list (pv 5)) (blkOk_by (own := [("_law_one", 10)]) (N := nLaw) (sc := defScope sLaw) (by decide +kernel)) (fun _ _ _ _ _ => (pg_name (i := 10) nd rfl (.inl rfl))) (fun _ _ _ _ _ => pts_nil)
          (fun _ _ _ _ _ => (pe_ix (ix_listK (K := K) (by rfl)) (pe_lst (pa_cons (pv 10) (pa_cons (pe_cmpR op_eq (pv 10) pe_int (nomark _)) pa_nil))) (pe_callTy call_int1 (by rfl) m_int (by decide +kernel) (pa_cons (pe_cmpR op_lt (pv 10) pe_int (nomark _)) pa_nil)) (fun _ _ => rfl)))) pa_nil)) pa_nil)))
      (pss_cons (ps_expr (pe_bm PySem.F.plainAttrs_list PySem.F.slot_list_append PySem.F.type_list_append mt_append (pv 7) (pa_cons (pe_call C__law_spoilt.ok hr (by rfl) C__law_spoilt.g C__law_spoilt.kp C__law_spoilt.b .nil pass0 (pa_cons (pv 2) (pa_cons (pe_callTy call_tuple_of (by rfl) m_tuple (by decide +kernel) (pa_cons (pv 5) pa_nil)) pa_nil))) pa_nil)))
      (pss_one (ps_for PassesOwn.never rfl (pi_list (pv 7)) (pg_name (i := 8) nd rfl (.inl rfl))
        (pss_one (ps_if (pt_cmpR op_ne (pe_call C_order_fits.ok hr (by rfl) C_order_fits.g C_order_fits.kp C_order_fits.b .nil pass0 (pa_cons (pv 4) (pa_cons (pv 6) (pa_cons (pv 8) pa_nil)))) (pe_call C__law_good.ok hr (by rfl) C__law_good.g C__law_good.kp C__law_good.b .nil pass0 (pa_cons (pv 4) (pa_cons (pv 6) (pa_cons (pv 8) pa_nil)))) (nomark _)) (pss_one (ps_ret pe_bl)) pss_nil))))))))))))))))
      (pss_one (ps_ret pe_bl)), ?_⟩
    have hl : (ns.map V.int).length = ns.length := List.length_map _
    refine ⟨_, rfl, a, _, rfl, .inl hS, _, _, rfl, _, _, rfl, ?_⟩
    rw [hl]
    obtain ⟨tn, etn, ht0, ht3⟩ := turns2C ns.length
    rw [etn]
    refine ⟨_, rfl, by omega, by omega, ?_⟩
    refine for_range (lo := 0) (n := tn.toNat) (fun i σ H' => ∃ y1 y2 y3 y4 y5 y6 y7 y8, σ = [some (.ref a), y1, y2, y3, y4, y5, y6, y7, y8, none, none] ∧ Same H H') ⟨_, _, _, _, _, _, _, _, rfl, same_refl H⟩ ?_ ?_
    rotate_left
    · rintro σ H' ⟨y1, y2, y3, y4, y5, y6, y7, y8, rfl, s0⟩
      exact q _
    rintro i σ H' hi ⟨y1, y2, y3, y4, y5, y6, y7, y8, rfl, s0⟩
    refine ⟨_, rfl, _, rfl, a, ns, _, rfl, sqL_sm s0 hS, by omega, fun cv => ?_⟩
    refine ⟨cv, rfl, fun p H1 s1 np P1 => ?_⟩
    have npH : H p = none := none_back s0 np
    refine ⟨_, rfl, by decide, by decide, ?_⟩
    refine for_range (fun j σ H3 => ∃ y3 y4 y5 y6 y7 y8, σ = [some (.ref a), some (.int (0 + (i : Int))), some (.ref p), y3, y4, y5, y6, y7, y8, none, none] ∧ Kp p H1 H3 ∧ PenAt H3 p) ⟨_, _, _, _, _, _, rfl, Kp.refl _ _, P1⟩ ?_ ?_
    rotate_left
    · rintro σ H3 ⟨z3, z4, z5, z6, z7, z8, rfl, k3, P3⟩
      refine ⟨_, _, _, _, _, _, _, _, rfl, fun b u e => ?_⟩
      exact k3 b u (fun z => by rw [z, npH] at e; cases e) (s1 _ _ (s0 _ _ e))
    rintro j σ H3 hj ⟨z3, z4, z5, z6, z7, z8, rfl, k3, P3⟩
    refine ⟨_, rfl, p, 7, rfl, P3, by decide, by decide, fun v4 H4 k4 P4 a4 b4 => ⟨_, _, rfl, rfl, ?_⟩⟩
    obtain ⟨n, en⟩ : ∃ n : Nat, (1 : Int) + v4 = (n : Int) := ⟨(1 + v4).toNat, by omega⟩
    have n1 : 1 ≤ n := by omega
    have n7 : n ≤ 7 := by omega
    show gName 4 (V.int (1 + v4)) _ _ _
    rw [en, gName_ap]
    dsimp only
    refine ⟨_, rfl, _, rfl, _, rfl, RgOk.of_le (by decide) (by omega) (by decide) (by omega), fun l5 nl5 => ?_⟩
    rw [rg_nI]
    have P5 := P4.new nl5 (.lst (nI (List.range n)))
    have k5 : Kp p H4 _ := Kp.new nl5 (.lst (nI (List.range n)))
    have e5 : (upd H4 l5 (.lst (nI (List.range n)))) l5 = some (.lst (nI (List.range n))) := upd_same
    generalize (upd H4 l5 (.lst (nI (List.range n)))) = H5 at P5 k5 e5
    have hl5 : ∀ os : List Nat, (nI os).length = os.length := fun os => by unfold nI; rw [List.length_map]
    have hl1 : (nI (List.range n)).length = n := by unfold nI; rw [List.length_map, List.length_range]
    refine ⟨p, l5, _, rfl, P5, .inl (SqL.of e5), by omega, fun l ys H6 k6 P6 nl el hpm => ?_⟩
    obtain ⟨os, rfl, hos⟩ := nI_perm hpm
    have nlp : l ≠ p := P5.free nl
    have hol : os.length = n := by rw [hos.length_eq, List.length_range]
    have k36 : Kp p H3 H6 := k4.trans (k5.trans k6)
    have nlH : H5 l = none := nl
    refine ⟨_, rfl, p, 6, rfl, P6, by decide, by decide, fun m7 H7 k7 P7 a7 b7 => ⟨_, rfl, by omega, by omega, fun M nM => ?_⟩⟩
    have nMp : M ≠ p := P7.free nM
    have nlM : l ≠ M := fun z => by
      have := k7 _ _ nlp el
      rw [z, nM] at this
      cases this
    refine lc_range (lo := 0) (n := m7.toNat) (fun i H' => ∃ zs : List (Addr × Wd), H' M = some (.lst (zs.map fun z => V.ref z.1)) ∧ Kp p H7 H' ∧ PenAt H' p ∧ (∀ z ∈ zs, WdAt H' z.1 z.2 ∧ WdGood n z.2) ∧ zs.length = i)
      ⟨[], upd_same, Kp.new nM _, P7.new nM _, (fun _ h => nomatch h), rfl⟩ ?_ ?_
    · rintro i2 Hx hi2 ⟨zs, eM, kx, Px, hzs, hzl⟩
      have elx := kx _ _ nlp (k7 _ _ nlp el)
      refine ⟨rfl, ?_⟩
      rw [tYes_ap, if_pos rfl]
      refine ⟨_, rfl, _, rfl, p, l, n, os, rfl, Px, nlp, elx, hos, n1, n7, fun t Hy wy ky Py et gt => ?_⟩
      have eMy := ky _ _ nMp eM
      refine ⟨_, eMy, small1000 (by rw [List.length_map]; omega), zs ++ [(t, wy)], by rw [upd_same, List.map_append]; rfl, (kx.trans ky).over nM _, Py.put nMp _, fun z hz => ?_, by rw [List.length_append, hzl]; rfl⟩
      have ne : ∀ {b : Addr} {y : Wd}, WdAt Hy b y → WdAt (upd Hy M (.lst (zs.map (fun z => V.ref z.1) ++ [.ref t]))) b y := fun {b y} e => by
        unfold WdAt at e ⊢
        rw [upd_ne (fun z => by rw [z, eMy] at e; cases e)]
        exact e
      rcases List.mem_append.mp hz with h | h
      · exact ⟨ne ((hzs z h).1.kp ky Px), (hzs z h).2⟩
      · rw [List.mem_singleton.mp h]
        exact ⟨ne et, gt⟩
    rintro H8 ⟨zs, eM, k8, P8, hzs, hzl⟩
    have k78 := k7.trans k8
    have el8 := k78 _ _ nlp el
    refine ⟨M, _, rfl, .inl ⟨SqL.of eM, fun tw ntw => ?_⟩⟩
    have s9 := same_new ntw (.tup (zs.map fun z => V.ref z.1))
    have W9 : WsP (upd H8 tw (.tup (zs.map fun z => V.ref z.1))) tw zs := ⟨upd_same, fun z hz => s9 _ _ (hzs z hz).1⟩
    have P9 := PenAt.sm P8 s9
    have k69 := k78.trans (Kp.same s9)
    have el9 := s9 _ _ el8
    have hg0 : ∀ z ∈ zs, WdGood n z.2 := fun z hz => (hzs z hz).2
    have hzl5 : zs.length ≤ 5 := by omega
    generalize (upd H8 tw (.tup (zs.map fun z => V.ref z.1))) = H9 at s9 W9 P9 k69 el9
    clear hzs eM k8 P8 k78 el8 ntw hzl s9
    refine ⟨fun σ' H' => ∃ (t : Addr) (zs : List (Addr × Wd)), σ' = [some (.ref a), some (.int (0 + (i : Int))), some (.ref p), some (.int (0 + (j : Int))), some (.int (n : Int)), some (.ref l), some (.ref t), z7, z8, none, none] ∧ Kp p H9 H' ∧ PenAt H' p ∧ WsP H' t zs ∧ (∀ z ∈ zs, WdGood n z.2) ∧ zs.length ≤ 8, ?_, ?_⟩
    · refine ⟨_, rfl, p, 3, rfl, P9, by decide, by decide, fun u H10 k10 P10 a10 b10 => ?_⟩
      have W10 := W9.kp k10 P9
      refine ⟨rfl, _, rfl, ite2 (fun c => ?_) (fun c => ⟨tw, zs, rfl, k10, P10, W10, hg0, by omega⟩)⟩
      refine ⟨_, rfl, _, rfl, _, rfl, p, n, rfl, P10, n1, n7, fun t2 H11 w2 k11 P11 et2 gt2 => ?_⟩
      refine ⟨(by show 1 ≤ sizeLine; decide), fun t3 nt3 => ?_⟩
      have s12 := same_new nt3 (.tup [.ref t2])
      have P12 := PenAt.sm P11 s12
      have e12 : (upd H11 t3 (.tup [.ref t2])) t3 = some (.tup [.ref t2]) := upd_same
      generalize (upd H11 t3 (.tup [.ref t2])) = H12 at s12 P12 e12
      have W12 := (W10.kp k11 P10).same s12
      refine catA_same W12.1 e12 (by rw [List.length_map]; show _ + 1 ≤ 1000; omega) fun t4 H13 s13 e13 => ?_
      refine ⟨t4, zs ++ [(t2, w2)], rfl, k10.trans (k11.trans (Kp.same (s12.trans s13))), PenAt.sm P12 s13, ⟨by rw [e13, List.map_append]; rfl, fun z hz => ?_⟩, fun z hz => ?_, by rw [List.length_append]; show _ + 1 ≤ 8; omega⟩
      · rcases List.mem_append.mp hz with h | h
        · exact s13 _ _ (W12.2 z h)
        · rw [List.mem_singleton.mp h]
          exact s13 _ _ (s12 _ _ et2)
      · rcases List.mem_append.mp hz with h | h
        · exact hg0 z h
        · rw [List.mem_singleton.mp h]
          exact gt2
    clear W9 hg0 hzl5
    rintro _ H10 ⟨tw, zs, rfl, k10, P10, W10, hg, h8⟩
    have k3a : Kp p H3 H10 := k36.trans (k69.trans k10)
    have el10 := k10 _ _ nlp el9
    clear k10 el9 k69 P9 k36 k7 P7 k6 P6 k5 P5
    refine ⟨_, rfl, l, nI os, rfl, SqL.of el10, fun t1 _ H11 s11 b11 f1 => ?_⟩
    have el11 := s11 _ _ el10
    have Q1 : ThAt n p H11 (.ref t1) _ := th_fz f1 (ints_tg os)
    refine ⟨_, rfl, _, rfl, _, rfl, ?_⟩
    dsimp only [tNoPart]
    refine ⟨l, _, rfl, SqL.of el11, fun la nla => ?_⟩
    have s12 := same_new nla (.lst (cutV (nI os) (some 1) none))
    refine ⟨la, _, rfl, SqL.of upd_same, fun t3 _ H13 s13 _ f3 => ?_⟩
    have Q3 : ∃ t, ThAt n p H13 (.ref t3) t := by
      obtain ⟨u, hu⟩ := (ints_tg (p := p) (H := H13) os).cut (some 1) none
      exact ⟨_, th_fz f3 hu⟩
    have s11_13 := s12.trans s13
    have el13 := s11_13 _ _ el11
    refine ⟨_, rfl, (by show 1 ≤ sizeLine; decide), fun l0 nl0 => ?_⟩
    have s14 := same_new nl0 (.lst [.int 0])
    refine ⟨l, l0, _, _, rfl, rfl, s14 _ _ el13, upd_same, by rw [hl5 os, hol]; exact Nat.le_of_lt (small1000 (by show n + 1 ≤ 1000; omega)), fun lb nlb => ?_⟩
    have s15 := same_new nlb (.lst (nI os ++ [.int 0]))
    refine ⟨lb, _, rfl, SqL.of upd_same, fun t4 _ H16 s16 _ f4 => ?_⟩
    have Q4 : ThAt n p H16 (.ref t4) _ := th_fz f4 ((ints_tg os).append (.cons (.int 0) .nil))
    have s13_16 := s14.trans (s15.trans s16)
    refine ⟨(by show 1 ≤ sizeLine; decide), fun tz _ H17 s17 _ fz => ?_⟩
    have s16_17 := s17
    refine ⟨_, rfl, repZ (p := p) n1 n7 fz fun x5 H18 s18 Q5 => ?_⟩
    refine ⟨_, rfl, _, rfl, RgOk.of_le (by decide) (by omega) (by decide) (by omega), fun t6 _ H19 s19 _ f6 => ?_⟩
    rw [rg_nI] at f6
    have Q6 : ThAt n p H19 (.ref t6) _ := th_fz f6 (ints_tg (List.range n))
    refine ⟨(by show 6 ≤ sizeLine; decide), fun lt nlt => ?_⟩
    have s20 := same_new nlt (.lst [.ref t1, .ref l, .ref t3, .ref t4, x5, .ref t6])
    have e20 : (upd H19 lt (.lst [.ref t1, .ref l, .ref t3, .ref t4, x5, .ref t6])) lt = some (.lst [.ref t1, .ref l, .ref t3, .ref t4, x5, .ref t6]) := upd_same
    have s16_19 := s17.trans (s18.trans s19)
    have A20 : ThAll n p (upd H19 lt (.lst [.ref t1, .ref l, .ref t3, .ref t4, x5, .ref t6])) [.ref t1, .ref l, .ref t3, .ref t4, x5, .ref t6] := by
      have sa := s16_19.trans s20
      have sb := s13_16.trans sa
      have sc := s11_13.trans sb
      have hL : ThAt n p H11 (.ref l) .lst := .inl ⟨.lst nlp el11, rfl⟩
      obtain ⟨u3, h3⟩ := Q3
      obtain ⟨u5, h5⟩ := Q5
      exact .cons (Q1.same sc) (.cons (hL.same sc) (.cons (h3.same sb) (.cons (Q4.same sa) (.cons (h5.same (s19.trans s20)) (.cons (Q6.same s20) thAll0)))))
    have s10_20 := s11.trans (s11_13.trans (s13_16.trans (s16_19.trans s20)))
    have el20 := s10_20 _ _ el10
    have P20 := PenAt.sm P10 s10_20
    have W20 := W10.same s10_20
    have nlt' : lt ≠ p := fun z => by
      obtain ⟨x1, x2, x3, x4, z1, z2⟩ := P20
      rw [← z, e20] at z1
      cases z1
    have nltl : lt ≠ l := fun z => by
      have := (s11_13.trans (s13_16.trans s16_19)) _ _ el11
      rw [← z, nlt] at this
      cases this
    have k20 : Kp p H3 _ := k3a.trans (Kp.same s10_20)
    generalize (upd H19 lt (.lst [.ref t1, .ref l, .ref t3, .ref t4, x5, .ref t6])) = H20 at s20 e20 A20 s10_20 el20 P20 W20 k20
    clear s11 b11 f1 el11 Q1 s12 s13 f3 Q3 s11_13 el13 s14 s15 s16 f4 Q4 s13_16 s17 fz s16_17 s18 Q5 s19 f6 Q6 s20 s16_19 s10_20 el10 W10 P10 k3a
    rw [gName_ap]
    refine ⟨_, rfl, _, rfl, by decide, by decide, fun M nM => ?_⟩
    have nMp : M ≠ p := P20.free nM
    have nMt : lt ≠ M := fun z => by rw [z, nM] at e20; cases e20
    refine lc_range (lo := 0) (n := 4) (fun i H' => ∃ vs : List V, H' M = some (.lst vs) ∧ Kp p H20 H' ∧ PenAt H' p ∧ ThAll n p H' vs ∧ vs.length = i)
      ⟨[], upd_same, Kp.new nM _, P20.new nM _, thAll0, rfl⟩ ?_ ?_
    · rintro i2 Hx hi2 ⟨vs, eM, kx, Px, hvs, hvl⟩
      have elx := kx _ _ nlp el20
      refine ⟨rfl, ?_⟩
      rw [tYes_ap, if_pos rfl]
      refine ⟨_, rfl, _, rfl, p, l, _, rfl, Px, .inl (SqL.of elx), by rw [hl5]; omega, fun l2 ys Hy ky Py nl2 el2 pm => ?_⟩
      obtain ⟨os2, rfl, hos2⟩ := nI_perm (pm.trans (hos.map fun k : Nat => V.int (k : Int)))
      refine ⟨l2, _, rfl, SqL.of el2, fun t2 _ Hz sz _ fz => ?_⟩
      have eMz := sz _ _ (ky _ _ nMp eM)
      refine ⟨vs, eMz, small1000 (by omega), vs ++ [.ref t2], upd_same, ((kx.trans ky).trans (Kp.same sz)).over nM _, (PenAt.sm Py sz).put nMp _, ?_, by rw [List.length_append, hvl]; rfl⟩
      exact ThAll.relist (((hvs.kp ky Px).same sz).app (.cons (th_fz fz (ints_tg os2)) thAll0)) eMz
    rintro H21 ⟨vs, eM, k21, P21, hvs, hvl⟩
    have nlt20 : lt ≠ p := nlt'
    have et21 := k21 _ _ nlt20 e20
    have A21 := (A20.kp k21 P20).app hvs
    refine ⟨lt, M, _, _, rfl, rfl, et21, eM, by rw [hvl]; exact Nat.le_of_lt (small1000 (show 6 + 4 ≤ 1000 by decide)), fun lc nlc => ?_⟩
    have s22 := same_new nlc (.lst ([.ref t1, .ref l, .ref t3, .ref t4, x5, .ref t6] ++ vs))
    have e22 : (upd H21 lc (.lst ([.ref t1, .ref l, .ref t3, .ref t4, x5, .ref t6] ++ vs))) lc = some (.lst ([.ref t1, .ref l, .ref t3, .ref t4, x5, .ref t6] ++ vs)) := upd_same
    have hL1 : ([.ref t1, .ref l, .ref t3, .ref t4, x5, .ref t6] ++ vs).length = 10 := by rw [List.length_append, hvl]; rfl
    generalize ([V.ref t1, .ref l, .ref t3, .ref t4, x5, .ref t6] ++ vs) = us at A21 s22 e22 hL1
    have P22 := PenAt.sm P21 s22
    have A22 := A21.same s22
    have k22 := k20.trans (k21.trans (Kp.same s22))
    have el22 := s22 _ _ (k21 _ _ nlp el20)
    have W22 := (W20.kp k21 P20).same s22
    have nlcp : lc ≠ p := P21.free nlc
    generalize (upd H21 lc (.lst us)) = H22 at s22 e22 P22 A22 k22 el22 W22
    refine ⟨Nat.zero_le _, fun te nte => ?_⟩
    have s23 := same_new nte (.tup [])
    have P23 := PenAt.sm P22 s23
    have Qe : ThAt n p (upd H22 te (.tup [])) (.ref te) (.tup []) := .inl ⟨.tup upd_same .nil, ordT_nil n1⟩
    generalize (upd H22 te (.tup [])) = H23 at s23 P23 Qe
    refine ⟨_, rfl, p, 2, n, rfl, P23, by decide, by decide, n1, fun vt H24 k24 P24 ⟨tt, Qt⟩ => ?_⟩
    refine ⟨(by show 3 ≤ sizeLine; decide), fun ld nld => ?_⟩
    have s25 := same_new nld (.lst [.ref te, .non, vt])
    have k2225 : Kp p H22 (upd H24 ld (.lst [.ref te, .non, vt])) := (Kp.same s23).trans (k24.trans (Kp.same s25))
    have P25 := PenAt.sm P24 s25
    have e25 : (upd H24 ld (.lst [.ref te, .non, vt])) ld = some (.lst [.ref te, .non, vt]) := upd_same
    have A25 : ThAll n p (upd H24 ld (.lst [.ref te, .non, vt])) [.ref te, .non, vt] := .cons ((Qe.kp k24 P23).same s25) (.cons (t := .non) (.inl ⟨.non, rfl⟩) (.cons (Qt.same s25) thAll0))
    generalize (upd H24 ld (.lst [.ref te, .non, vt])) = H25 at s25 k2225 P25 e25 A25
    refine ⟨lc, ld, _, _, rfl, rfl, k2225 _ _ nlcp e22, e25, by rw [hL1]; exact Nat.le_of_lt (small1000 (show 10 + 3 ≤ 1000 by decide)), fun lf nlf => ?_⟩
    have s26 := same_new nlf (.lst (us ++ [.ref te, .non, vt]))
    have e26 : (upd H25 lf (.lst (us ++ [.ref te, .non, vt]))) lf = some (.lst (us ++ [.ref te, .non, vt])) := upd_same
    have A26 := (((A22.kp k2225 P22).app A25).same s26)
    have hL2 : (us ++ [.ref te, .non, vt]).length = 13 := by rw [List.length_append, hL1]; rfl
    generalize (us ++ [V.ref te, .non, vt]) = ws at s26 e26 A26 hL2
    have P26 := PenAt.sm P25 s26
    have k26 := k22.trans (k2225.trans (Kp.same s26))
    have el26 := s26 _ _ (k2225 _ _ nlp el22)
    have W26 := (W22.kp k2225 P22).same s26
    have nlfp : lf ≠ p := P25.free nlf
    have nlf3 : H3 lf = none := (k22.trans k2225).noneG nlfp nlf
    have nlfl : l ≠ lf := fun z => by
      have := k2225 _ _ nlp el22
      rw [z, nlf] at this
      cases this
    generalize (upd H25 lf (.lst ws)) = H26 at s26 e26 A26 P26 k26 el26 W26
    clear A20 A21 A22 A25 P20 P21 P22 P23 P24 P25 e20 et21 eM e22 e25 W20 W22 el20 el22 k20 k21 k22 k2225 k24 s22 s23 s25 s26 Qe Qt hvs hvl hL1
    dsimp only
    rw [gName_ap]
    refine ⟨_, rfl, .inl ⟨rfl, _, SqL.of e26⟩, _, rfl, l, rfl, ⟨_, SqL.of el26⟩, fun M2 nM2 => ?_⟩
    refine lc_sameM (walk_list (xs := nI os)) os mixV (by rw [hl5]) (by omega) nM2 (fun H s => SqL.of (s _ _ el26)) ?_ ?_
    · rintro i2 o x Hx Hx' hy sx ⟨rfl, hx⟩ Q1 q1
      rw [show (nI os)[i2]? = some (.int (o : Int)) from by unfold nI; rw [List.getElem?_map, hy]; rfl] at hx
      injection hx with hx
      subst hx
      refine ⟨rfl, ?_⟩
      refine ⟨_, rfl, _, rfl, rfl, (by show 2 ≤ sizeLine; decide), fun l21 nl21 => ?_⟩
      refine ⟨_, rfl, _, _, rfl, rfl, .inr ⟨_, rfl, ?_⟩⟩
      have hq := q1 _ (same_new nl21 (.lst [.int (o : Int), .bl (decide (V.int (o : Int) = V.int 1))]))
      unfold mixV at hq
      by_cases c : (o : Int) < 2
      · rw [if_pos c] at hq
        rw [decide_eq_true c]
        exact ⟨l21, _, _, _, rfl, rfl, SqL.of upd_same, atI_nat (j := 1) rfl, hq⟩
      · rw [if_neg c] at hq
        rw [decide_eq_false c]
        exact ⟨l21, _, _, _, rfl, rfl, SqL.of upd_same, atI_nat (j := 0) rfl, hq⟩
    intro H27 s27 eM2
    refine ⟨M2, _, rfl, SqL.of eM2, fun t8 _ H28 s28 _ f8 => ?_⟩
    have s26_28 := s27.trans s28
    have e28 := s26_28 _ _ e26
    obtain ⟨ts8, h8t⟩ := mix_tg (p := p) (H := H28) os
    have A28 : ThAll n p H28 (ws ++ [.ref t8]) := (A26.same s26_28).app (.cons (th_fz f8 h8t) thAll0)
    refine ⟨lf, ws, _, rfl, rfl, e28, small1000 (by rw [hL2]; decide), ?_⟩
    have A29 := A28.relist (ys := ws ++ [V.ref t8]) e28
    have e29 : (upd H28 lf (.lst (ws ++ [.ref t8]))) lf = some (.lst (ws ++ [.ref t8])) := upd_same
    have P29 := (PenAt.sm P26 s26_28).put nlfp (.lst (ws ++ [.ref t8]))
    have el29 : (upd H28 lf (.lst (ws ++ [.ref t8]))) l = some (.lst (nI os)) := by rw [upd_ne nlfl]; exact s26_28 _ _ el26
    have keepT : ∀ {b : Addr} {ys : List V} {Hx : Hp} {xs us : List V}, Hx lf = some (.lst xs) → Hx b = some (.tup ys) → (upd Hx lf (.lst us)) b = some (.tup ys) := fun {b ys Hx xs us} e h => by
      rw [upd_ne (fun z => by rw [z, e] at h; cases h)]
      exact h
    have W28 := W26.same s26_28
    have W29 : WsP (upd H28 lf (.lst (ws ++ [.ref t8]))) tw zs := ⟨keepT e28 W28.1, fun z hz => keepT e28 (W28.2 z hz)⟩
    have k29 : Kp p H3 (upd H28 lf (.lst (ws ++ [.ref t8]))) := (k26.trans (Kp.same s26_28)).over nlf3 _
    have hL3 : (ws ++ [V.ref t8]).length = 14 := by rw [List.length_append, hL2]; rfl
    generalize (ws ++ [V.ref t8]) = xs9 at A29 e29 P29 el29 W29 k29 hL3 ⊢
    generalize (upd H28 lf (.lst xs9)) = H29 at A29 e29 P29 el29 W29 k29
    clear A26 A28 e26 e28 P26 k26 el26 W26 W28 s27 s28 s26_28 f8 h8t eM2 hL2
    refine ⟨_, rfl, .inl ⟨rfl, _, SqL.of e29⟩, _, rfl, _, rfl, l, _, rfl, .inl ⟨SqL.of el29, fun t9 nt9 => ?_⟩⟩
    have s30 := same_new nt9 (.tup (nI os))
    have P30 := PenAt.sm P29 s30
    have e30 : (upd H29 t9 (.tup (nI os))) t9 = some (.tup ((os.map fun k : Nat => (k : Int)).map V.int)) := by
      rw [upd_same]
      unfold nI
      rw [List.map_map]
      rfl
    generalize (upd H29 t9 (.tup (nI os))) = H30 at s30 P30 e30
    refine ⟨p, t9, n, os.map fun k : Nat => (k : Int), rfl, P30, e30, ord_perm hos, n1, n7, fun v9 H31 k31 P31 ⟨u9, Q9⟩ => ?_⟩
    have k2931 : Kp p H29 H31 := (Kp.same s30).trans k31
    have e31 := k2931 _ _ nlfp e29
    have A31 := ((A29.kp k2931 P29).app (.cons Q9 thAll0)).relist (ys := xs9 ++ [v9]) e31
    have W31 := W29.kp k2931 P29
    refine ⟨lf, xs9, _, rfl, rfl, e31, small1000 (by rw [hL3]; decide), ?_⟩
    have e32 : (upd H31 lf (.lst (xs9 ++ [v9]))) lf = some (.lst (xs9 ++ [v9])) := upd_same
    have P32 := P31.put nlfp (.lst (xs9 ++ [v9]))
    have W32 : WsP (upd H31 lf (.lst (xs9 ++ [v9]))) tw zs := ⟨keepT e31 W31.1, fun z hz => keepT e31 (W31.2 z hz)⟩
    have k32 : Kp p H1 (upd H31 lf (.lst (xs9 ++ [v9]))) := k3.trans ((k29.trans k2931).over nlf3 _)
    generalize (xs9 ++ [v9]) = us at A31 e32 P32 W32 k32 ⊢
    generalize (upd H31 lf (.lst us)) = H32 at A31 e32 P32 W32 k32
    clear A29 e29 P29 el29 W29 k29 s30 P30 e30 k31 P31 Q9 k2931 e31 W31
    refine ⟨_, rfl, lf, rfl, ⟨_, SqL.of e32⟩, ?_⟩
    refine for_list (xs := us) (fun m σ H' => ∃ y8, σ = [some (.ref a), some (.int (0 + (i : Int))), some (.ref p), some (.int (0 + (j : Int))), some (.int (n : Int)), some (.ref l), some (.ref tw), some (.ref lf), y8, none, none] ∧ Same H32 H') ⟨_, rfl, same_refl _⟩ (fun m σ H' _ h => ?_) ?_ ?_
    · obtain ⟨_, _, s⟩ := h
      exact SqL.of (s _ _ e32)
    · rintro m x σ H' hx ⟨y8, rfl, s⟩
      obtain ⟨t, ht⟩ := A31 x (List.mem_of_getElem? hx)
      refine ⟨_, rfl, _, rfl, _, rfl, p, tw, zs, n, x, t, rfl, W32.same s, hg, h8, n1, n7, ht.same s, fun Ha sa => ?_⟩
      have s2 := s.trans sa
      refine ⟨_, rfl, _, rfl, _, rfl, p, tw, zs, n, x, t, rfl, W32.same s2, hg, h8, n1, n7, ht.same s2, fun Hb sb => ?_⟩
      refine ⟨rfl, _, rfl, ?_⟩
      rw [decide_eq_true rfl]
      exact iteF ⟨_, rfl, s2.trans sb⟩
    · rintro σ H' ⟨y8, rfl, s⟩
      exact ⟨_, _, _, _, _, _, rfl, k32.trans (Kp.same s), PenAt.sm P32 s⟩
end
end Deed

namespace Deed
open PySem PySem.Spec PyProof.Rows L2 LamX
/-! ### the end: the facts by names -/
def mkDf (x : Str) (st : Stmt) : He.DefD := ⟨(x, none), x, x, defArgs st, defBody st, defScope st, [], []⟩
def mkDd (x : Str) (st : Stmt) (dfl : List He.Dv) : He.DefD := ⟨(x, none), x, x, defArgs st, defBody st, defScope st, dfl, []⟩
def fnAll : List He.DefD := [mkDf "_law_cell_at" sCell, mkDf "_law_pen" sPen, mkDf "_law_draw" sDraw, mkDf "_law_mixed" sMixed, mkDf "is_whole" sIsWhole, mkDf "is_within" sIsWithin, mkDf "is_copy_word" sIsCw, mkDf "are_copy_words" sAreCw, mkDf "check_lost" sCheckL, mkDf "is_order" sIsOrder, mkDf "is_so" sIsSo, mkDf "order_fits" sOrderFits, mkDf "_law_true" sLTrue, mkDf "_law_told" sLTold, mkDf "_law_thing" sLThing, mkDf "_law_spoilt" sLSpoilt, mkDf "_law_is_so" sLIsSo, mkDf "_law_good" sLGood, mkDf "law" sLaw]
def faAll : List He.Fa := [.glo "_law_cell_at", .glo "_law_pen", .glo "_law_draw", .glo "_law_mixed", .glo "is_whole", .glo "is_within", .glo "is_copy_word", .glo "are_copy_words", .glo "check_lost", .glo "is_order", .glo "is_so", .glo "order_fits", .glo "_law_true", .glo "_law_told", .glo "_law_thing", .glo "_law_spoilt", .glo "_law_is_so", .glo "_law_good", .glo "law", .free "range", .free "min", .free "max", .free "tuple", .free "len", .free "sorted", .free "int", .free "isinstance", .free "all", .free "list", .free "bool", .free "set", .free "str", .int "MOST_PAGES" 7, .int "MOST_WORDS" 8, .glo "NoSize", .glo "NoWords", .exc "NoSize", .exc "NoWords", .exm "NoSize" "NoSize" true, .exm "NoWords" "NoWords" true]
def tfAll : List He.Defn := []
abbrev tsAll : List He.Tab := []
def exAll (K : PySem.W.Frag) : Bool := true
abbrev rowR : PySem.W.OpenRow := PySem.W.OpenLaw.row PySem.Challenge.rw_deedsheaf_k62_orders_looked_at
abbrev hk : PySem.W.Hook := He.hookX 4 faAll fnAll tsAll tfAll exAll
def ob (s : PySem.W.SharedT) : He.AlX := He.obsX 4 faAll fnAll tsAll tfAll exAll (HandSHeadRun.getT s)
theorem ob_eq (s : PySem.W.SharedT) : ob s = hk.obs s.abs := He.obsX_eq (HandSHeadRun.getT_eq s)
def looseAll : List Str := (["is_whole", "is_within", "SheafError", "NoSize", "NoWords", "MOST_PAGES", "MOST_WORDS", "is_copy_word", "are_copy_words", "check_lost", "is_order", "is_so"] : List Str) ++ (["order_fits", "_law_pen", "_law_cell_at", "_law_draw", "_law_mixed", "_law_true", "_law_told", "_law_thing", "_law_spoilt", "_law_is_so", "_law_good"] : List Str)
theorem run (w : World) : HandSHeadRun.RunEq rowR (PySem.W.view rowR.prog [27]) hk ob 12000 looseAll w := by
  intro os
  kernel_rfl
theorem funOf {K : PySem.W.Frag} {x : Str} {st : Stmt} {f : Addr} {fd : FuncData} (F : FunD K x x (defArgs st) (defBody st) (defScope st) [] [] f fd) : Fun K x x st f fd := by
  obtain ⟨oc, od, dV, kV, doc, pm, an, cdv, ct, osl, e, lk, hcd, hD, hK⟩ := F.ex
  rcases hD with ⟨_, hD⟩ | ⟨hD, _⟩
  · subst hD
    exact ⟨⟨oc, od, kV, doc, pm, an, cdv, ct, osl, e, lk, hcd⟩, F.kp⟩
  · exact absurd rfl hD
theorem codeAt {K : PySem.W.Frag} {x : Str} {st : Stmt} {p : He.Defn} {fd : FuncData} (F : Fun K x x st (He.fAd K p) fd) : fd.code = .ref (He.cT K p).1 := by
  obtain ⟨oc, od, kV, doc, pm, an, cdv, ct, osl, e, lk, hcd⟩ := F.ex
  obtain ⟨c, ec⟩ := He.codeIn_ref hcd
  have e2 : fd.code = .ref c := by rw [e, ← ec]
  rw [show (He.cT K p).1 = c from He.codeOf_eq lk e2]
  exact e2
theorem facts {l : PySem.W.OpenLaw} {w : World} {K : PySem.W.Frag} {h : Heap} {mg : Str → Option Value} {f : Addr} (X : K.In h) (G : h.Ns mainGlobals mg) (hfa : mg ("law" : Str) = some (.ref f)) (c : He.SaysX faAll fnAll tsAll tfAll exAll w h K) : LawAtS l w K CX0 41 63 "_law_script" mg f h := by
  obtain ⟨d0, F0'⟩ := c.t.d.def_ 0 (d := mkDf "_law_cell_at" sCell) rfl
  have g0 := He.glo_ok X G (c.t.d.fact 0 (f := .glo "_law_cell_at") rfl)
  have F0 : Fun K "_law_cell_at" "_law_cell_at" sCell (He.fAd K ("_law_cell_at", none)) d0 := funOf F0'
  have D0 : Df K mg "_law_cell_at" sCell ["_law_script", "_law_k"] _ d0 := ⟨F0, F0.binds (ps := ["_law_script", "_law_k"]) (fun _ _ _ _ _ _ us hl => match us, hl with | [_, _], _ => rfl), g0⟩
  obtain ⟨d1, F1'⟩ := c.t.d.def_ 1 (d := mkDf "_law_pen" sPen) rfl
  have g1 := He.glo_ok X G (c.t.d.fact 1 (f := .glo "_law_pen") rfl)
  have F1 : Fun K "_law_pen" "_law_pen" sPen (He.fAd K ("_law_pen", none)) d1 := funOf F1'
  have D1 : Df K mg "_law_pen" sPen ["_law_cell"] _ d1 := ⟨F1, F1.binds (ps := ["_law_cell"]) (fun _ _ _ _ _ _ us hl => match us, hl with | [_], _ => rfl), g1⟩
  obtain ⟨d2, F2'⟩ := c.t.d.def_ 2 (d := mkDf "_law_draw" sDraw) rfl
  have g2 := He.glo_ok X G (c.t.d.fact 2 (f := .glo "_law_draw") rfl)
  have F2 : Fun K "_law_draw" "_law_draw" sDraw (He.fAd K ("_law_draw", none)) d2 := funOf F2'
  have D2 : Df K mg "_law_draw" sDraw ["_law_pen_here", "_law_bound"] _ d2 := ⟨F2, F2.binds (ps := ["_law_pen_here", "_law_bound"]) (fun _ _ _ _ _ _ us hl => match us, hl with | [_, _], _ => rfl), g2⟩
  obtain ⟨d3, F3'⟩ := c.t.d.def_ 3 (d := mkDf "_law_mixed" sMixed) rfl
  have g3 := He.glo_ok X G (c.t.d.fact 3 (f := .glo "_law_mixed") rfl)
  have F3 : Fun K "_law_mixed" "_law_mixed" sMixed (He.fAd K ("_law_mixed", none)) d3 := funOf F3'
  have D3 : Df K mg "_law_mixed" sMixed ["_law_pen_here", "_law_some"] _ d3 := ⟨F3, F3.binds (ps := ["_law_pen_here", "_law_some"]) (fun _ _ _ _ _ _ us hl => match us, hl with | [_, _], _ => rfl), g3⟩
  obtain ⟨d4, F4'⟩ := c.t.d.def_ 4 (d := mkDf "is_whole" sIsWhole) rfl
  have g4 := He.glo_ok X G (c.t.d.fact 4 (f := .glo "is_whole") rfl)
  have F4 : Fun K "is_whole" "is_whole" sIsWhole (He.fAd K ("is_whole", none)) d4 := funOf F4'
  have D4 : Df K mg "is_whole" sIsWhole ["thing"] _ d4 := ⟨F4, F4.binds (ps := ["thing"]) (fun _ _ _ _ _ _ us hl => match us, hl with | [_], _ => rfl), g4⟩
  obtain ⟨d5, F5'⟩ := c.t.d.def_ 5 (d := mkDf "is_within" sIsWithin) rfl
  have g5 := He.glo_ok X G (c.t.d.fact 5 (f := .glo "is_within") rfl)
  have F5 : Fun K "is_within" "is_within" sIsWithin (He.fAd K ("is_within", none)) d5 := funOf F5'
  have D5 : Df K mg "is_within" sIsWithin ["thing", "low", "high"] _ d5 := ⟨F5, F5.binds (ps := ["thing", "low", "high"]) (fun _ _ _ _ _ _ us hl => match us, hl with | [_, _, _], _ => rfl), g5⟩
  obtain ⟨d6, F6'⟩ := c.t.d.def_ 6 (d := mkDf "is_copy_word" sIsCw) rfl
  have g6 := He.glo_ok X G (c.t.d.fact 6 (f := .glo "is_copy_word") rfl)
  have F6 : Fun K "is_copy_word" "is_copy_word" sIsCw (He.fAd K ("is_copy_word", none)) d6 := funOf F6'
  have D6 : Df K mg "is_copy_word" sIsCw ["size", "thing"] _ d6 := ⟨F6, F6.binds (ps := ["size", "thing"]) (fun _ _ _ _ _ _ us hl => match us, hl with | [_, _], _ => rfl), g6⟩
  obtain ⟨d7, F7'⟩ := c.t.d.def_ 7 (d := mkDf "are_copy_words" sAreCw) rfl
  have g7 := He.glo_ok X G (c.t.d.fact 7 (f := .glo "are_copy_words") rfl)
  have F7 : Fun K "are_copy_words" "are_copy_words" sAreCw (He.fAd K ("are_copy_words", none)) d7 := funOf F7'
  have D7 : Df K mg "are_copy_words" sAreCw ["size", "thing"] _ d7 := ⟨F7, F7.binds (ps := ["size", "thing"]) (fun _ _ _ _ _ _ us hl => match us, hl with | [_, _], _ => rfl), g7⟩
  obtain ⟨d8, F8'⟩ := c.t.d.def_ 8 (d := mkDf "check_lost" sCheckL) rfl
  have g8 := He.glo_ok X G (c.t.d.fact 8 (f := .glo "check_lost") rfl)
  have F8 : Fun K "check_lost" "check_lost" sCheckL (He.fAd K ("check_lost", none)) d8 := funOf F8'
  have D8 : Df K mg "check_lost" sCheckL ["size", "words"] _ d8 := ⟨F8, F8.binds (ps := ["size", "words"]) (fun _ _ _ _ _ _ us hl => match us, hl with | [_, _], _ => rfl), g8⟩
  obtain ⟨d9, F9'⟩ := c.t.d.def_ 9 (d := mkDf "is_order" sIsOrder) rfl
  have g9 := He.glo_ok X G (c.t.d.fact 9 (f := .glo "is_order") rfl)
  have F9 : Fun K "is_order" "is_order" sIsOrder (He.fAd K ("is_order", none)) d9 := funOf F9'
  have D9 : Df K mg "is_order" sIsOrder ["size", "thing"] _ d9 := ⟨F9, F9.binds (ps := ["size", "thing"]) (fun _ _ _ _ _ _ us hl => match us, hl with | [_, _], _ => rfl), g9⟩
  obtain ⟨d10, F10'⟩ := c.t.d.def_ 10 (d := mkDf "is_so" sIsSo) rfl
  have g10 := He.glo_ok X G (c.t.d.fact 10 (f := .glo "is_so") rfl)
  have F10 : Fun K "is_so" "is_so" sIsSo (He.fAd K ("is_so", none)) d10 := funOf F10'
  have D10 : Df K mg "is_so" sIsSo ["order", "copy_word"] _ d10 := ⟨F10, F10.binds (ps := ["order", "copy_word"]) (fun _ _ _ _ _ _ us hl => match us, hl with | [_, _], _ => rfl), g10⟩
  obtain ⟨d11, F11'⟩ := c.t.d.def_ 11 (d := mkDf "order_fits" sOrderFits) rfl
  have g11 := He.glo_ok X G (c.t.d.fact 11 (f := .glo "order_fits") rfl)
  have F11 : Fun K "order_fits" "order_fits" sOrderFits (He.fAd K ("order_fits", none)) d11 := funOf F11'
  have D11 : Df K mg "order_fits" sOrderFits ["size", "words", "thing"] _ d11 := ⟨F11, F11.binds (ps := ["size", "words", "thing"]) (fun _ _ _ _ _ _ us hl => match us, hl with | [_, _, _], _ => rfl), g11⟩
  obtain ⟨d12, F12'⟩ := c.t.d.def_ 12 (d := mkDf "_law_true" sLTrue) rfl
  have g12 := He.glo_ok X G (c.t.d.fact 12 (f := .glo "_law_true") rfl)
  have F12 : Fun K "_law_true" "_law_true" sLTrue (He.fAd K ("_law_true", none)) d12 := funOf F12'
  have D12 : Df K mg "_law_true" sLTrue ["_law_pen_here", "_law_order"] _ d12 := ⟨F12, F12.binds (ps := ["_law_pen_here", "_law_order"]) (fun _ _ _ _ _ _ us hl => match us, hl with | [_, _], _ => rfl), g12⟩
  obtain ⟨d13, F13'⟩ := c.t.d.def_ 13 (d := mkDf "_law_told" sLTold) rfl
  have g13 := He.glo_ok X G (c.t.d.fact 13 (f := .glo "_law_told") rfl)
  have F13 : Fun K "_law_told" "_law_told" sLTold (He.fAd K ("_law_told", none)) d13 := funOf F13'
  have D13 : Df K mg "_law_told" sLTold ["_law_pen_here", "_law_size"] _ d13 := ⟨F13, F13.binds (ps := ["_law_pen_here", "_law_size"]) (fun _ _ _ _ _ _ us hl => match us, hl with | [_, _], _ => rfl), g13⟩
  obtain ⟨d14, F14'⟩ := c.t.d.def_ 14 (d := mkDf "_law_thing" sLThing) rfl
  have g14 := He.glo_ok X G (c.t.d.fact 14 (f := .glo "_law_thing") rfl)
  have F14 : Fun K "_law_thing" "_law_thing" sLThing (He.fAd K ("_law_thing", none)) d14 := funOf F14'
  have D14 : Df K mg "_law_thing" sLThing ["_law_pen_here", "_law_deep"] _ d14 := ⟨F14, F14.binds (ps := ["_law_pen_here", "_law_deep"]) (fun _ _ _ _ _ _ us hl => match us, hl with | [_, _], _ => rfl), g14⟩
  obtain ⟨d15, F15'⟩ := c.t.d.def_ 15 (d := mkDf "_law_spoilt" sLSpoilt) rfl
  have g15 := He.glo_ok X G (c.t.d.fact 15 (f := .glo "_law_spoilt") rfl)
  have F15 : Fun K "_law_spoilt" "_law_spoilt" sLSpoilt (He.fAd K ("_law_spoilt", none)) d15 := funOf F15'
  have D15 : Df K mg "_law_spoilt" sLSpoilt ["_law_pen_here", "_law_thing_here"] _ d15 := ⟨F15, F15.binds (ps := ["_law_pen_here", "_law_thing_here"]) (fun _ _ _ _ _ _ us hl => match us, hl with | [_, _], _ => rfl), g15⟩
  obtain ⟨d16, F16'⟩ := c.t.d.def_ 16 (d := mkDf "_law_is_so" sLIsSo) rfl
  have g16 := He.glo_ok X G (c.t.d.fact 16 (f := .glo "_law_is_so") rfl)
  have F16 : Fun K "_law_is_so" "_law_is_so" sLIsSo (He.fAd K ("_law_is_so", none)) d16 := funOf F16'
  have D16 : Df K mg "_law_is_so" sLIsSo ["_law_told_here", "_law_order"] _ d16 := ⟨F16, F16.binds (ps := ["_law_told_here", "_law_order"]) (fun _ _ _ _ _ _ us hl => match us, hl with | [_, _], _ => rfl), g16⟩
  obtain ⟨d17, F17'⟩ := c.t.d.def_ 17 (d := mkDf "_law_good" sLGood) rfl
  have g17 := He.glo_ok X G (c.t.d.fact 17 (f := .glo "_law_good") rfl)
  have F17 : Fun K "_law_good" "_law_good" sLGood (He.fAd K ("_law_good", none)) d17 := funOf F17'
  have D17 : Df K mg "_law_good" sLGood ["_law_size", "_law_words", "_law_thing_here"] _ d17 := ⟨F17, F17.binds (ps := ["_law_size", "_law_words", "_law_thing_here"]) (fun _ _ _ _ _ _ us hl => match us, hl with | [_, _, _], _ => rfl), g17⟩
  obtain ⟨d18, F18'⟩ := c.t.d.def_ 18 (d := mkDf "law" sLaw) rfl
  have g18 := He.glo_ok X G (c.t.d.fact 18 (f := .glo "law") rfl)
  have F18 : Fun K "law" "law" sLaw (He.fAd K ("law", none)) d18 := funOf F18'
  have m_range := He.free_ok X G (c.t.d.fact 19 (f := .free "range") rfl)
  have m_min := He.free_ok X G (c.t.d.fact 20 (f := .free "min") rfl)
  have m_max := He.free_ok X G (c.t.d.fact 21 (f := .free "max") rfl)
  have m_tuple := He.free_ok X G (c.t.d.fact 22 (f := .free "tuple") rfl)
  have m_len := He.free_ok X G (c.t.d.fact 23 (f := .free "len") rfl)
  have m_sorted := He.free_ok X G (c.t.d.fact 24 (f := .free "sorted") rfl)
  have m_int := He.free_ok X G (c.t.d.fact 25 (f := .free "int") rfl)
  have m_isinstance := He.free_ok X G (c.t.d.fact 26 (f := .free "isinstance") rfl)
  have m_all := He.free_ok X G (c.t.d.fact 27 (f := .free "all") rfl)
  have m_list := He.free_ok X G (c.t.d.fact 28 (f := .free "list") rfl)
  have m_bool := He.free_ok X G (c.t.d.fact 29 (f := .free "bool") rfl)
  have m_set := He.free_ok X G (c.t.d.fact 30 (f := .free "set") rfl)
  have m_str := He.free_ok X G (c.t.d.fact 31 (f := .free "str") rfl)
  have i_MOST_PAGES : MgInt mg "MOST_PAGES" 7 := He.int_ok X G (c.t.d.fact 32 (f := .int "MOST_PAGES" 7) rfl)
  have i_MOST_WORDS : MgInt mg "MOST_WORDS" 8 := He.int_ok X G (c.t.d.fact 33 (f := .int "MOST_WORDS" 8) rfl)
  have e := hfa.symm.trans g18
  cases e
  have b := FunD.bindsA (ps := ["_law_script"]) F18' fun _ _ _ _ _ _ us hl => match us, hl with | [_], _ => rfl
  have gS := He.glo_ok X G (c.t.d.fact 34 (f := .glo "NoSize") rfl)
  have gW := He.glo_ok X G (c.t.d.fact 35 (f := .glo "NoWords") rfl)
  obtain ⟨xS1, xS2, xS3, xS4⟩ := He.exc_ok (c.t.d.fact 36 (f := .exc "NoSize") rfl)
  obtain ⟨xW1, xW2, xW3, xW4⟩ := He.exc_ok (c.t.d.fact 37 (f := .exc "NoWords") rfl)
  have NS : ExcCl K mg "NoSize" _ := ⟨xS1, gS, xS2, xS3, xS4, He.exm_ok (c.t.d.fact 38 (f := .exm "NoSize" "NoSize" true) rfl)⟩
  have NW : ExcCl K mg "NoWords" _ := ⟨xW1, gW, xW2, xW3, xW4, He.exm_ok (c.t.d.fact 39 (f := .exm "NoWords" "NoWords" true) rfl)⟩
  have B : Bi mg := ⟨m_range, m_min, m_max, m_tuple, m_list, m_len, m_sorted, m_int⟩
  refine ⟨d18, tfAll.map (He.cT K), spLaw K, fun p hp => ?_, fun p hp => ?_, fun p hp => ?_, fun s v => b s [v] rfl, fun H a ns hl _ hH hS => ?_, fun base hK hG hTB => ?_⟩
  · obtain ⟨q, hq, rfl⟩ := List.mem_map.mp hp
    exact c.empty q hq
  · obtain ⟨q, hq, rfl⟩ := List.mem_map.mp hp
    exact c.out q hq
  · obtain ⟨q, hq, rfl⟩ := List.mem_map.mp hp
    exact PySem.W.codeHd_of_K X (c.hd q hq)
  · exact ⟨a, ns, rfl, hS, hl, fun _ => rfl⟩
  · let cDr : ∀ k, CDrw l.prog w K mg base (k + 1) := fun k => D2.call (ok_draw D2.F)
    let c_is_whole : CallOk l.prog w K mg base 10 "is_whole" _ _ := D4.call (ok_IsWhole (k := 9) D4.F m_isinstance m_int m_bool)
    let c_is_within : CallOk l.prog w K mg base 11 "is_within" _ _ := D5.call (ok_IsWithin (k := 10) D5.F c_is_whole)
    let c_is_copy_word : CallOk l.prog w K mg base 12 "is_copy_word" _ _ := D6.call (ok_IsCw (k := 11) D6.F c_is_within m_isinstance m_tuple m_len)
    let c_are_copy_words : CallOk l.prog w K mg base 13 "are_copy_words" _ _ := D7.call (ok_AreCw (k := 12) D7.F c_is_copy_word m_isinstance m_tuple m_len m_all i_MOST_WORDS)
    let xCk := D8.callX (okX_CheckL (k := 13) D8.F NS NW (c_is_within.mono (by decide)) c_are_copy_words i_MOST_PAGES)
    let gCk := (xCk.mono (L' := 20) (by decide)).toG
    let cIo : CallOk l.prog w K mg base 12 "is_order" _ _ := D9.call (ok_IsOrder (k := 11) D9.F c_is_within m_isinstance m_tuple m_len m_all m_set)
    let cIs : CallOk l.prog w K mg base 10 "is_so" _ _ := D10.call (ok_IsSo (k := 9) D10.F)
    let cOf : CallOk l.prog w K mg base 21 "order_fits" _ _ := D11.call (ok_OrderFits (k := 20) D11.F gCk (cIo.mono (by decide)) (cIs.mono (by decide)) m_all)
    let cTh3 : CallOk l.prog w K mg base 5 "_law_thing" _ (spLThing 3) := D14.call (ok_LThing (k := 1) D14 (fun n => (cDr n).mono (by omega)) m_range m_tuple 3)
    let cSp : CallOk l.prog w K mg base 9 "_law_spoilt" _ (spLSpoilt 3) := D15.call (ok_LSpoilt (k := 5) D15 (fun n => (cDr n).mono (by omega)) (fun n => cTh3.mono (by omega)) m_isinstance m_tuple m_len m_list m_int m_str 3)
    let cThF : CallOk l.prog w K mg base 11 "_law_thing" _ spLThingF := D14.call (ok_LThingF (k := 10) D14 (cDr 9) (cTh3.mono (by decide)) m_range m_tuple)
    let cSpF : CallOk l.prog w K mg base 12 "_law_spoilt" _ spLSpoiltF := D15.call (ok_LSpoiltF (k := 11) D15.F (cDr 10) cThF (cSp.mono (by decide)) m_isinstance m_tuple m_len m_list m_int m_str)
    let cMi : CallOk l.prog w K mg base 10 "_law_mixed" _ (spMixed K) := D3.call (ok_mixed (k := 8) D3.F D2 B)
    let cLt : CallOk l.prog w K mg base 10 "_law_true" _ _ := D12.call (ok_LTrue (k := 9) D12.F (cDr 8) m_len m_min m_max)
    let cLd : CallOk l.prog w K mg base 10 "_law_told" _ _ := D13.call (ok_LTold (k := 9) D13.F (cDr 8))
    let cLs : CallOk l.prog w K mg base 10 "_law_is_so" _ _ := D16.call (ok_LIsSo (k := 9) D16.F)
    let cGd : CallOk l.prog w K mg base 21 "_law_good" _ _ := D17.call (ok_LGood (k := 20) D17.F (cLs.mono (by decide)) m_isinstance m_tuple m_int m_bool m_len m_sorted m_list m_range)
    exact ok_law (k := 40) F18 (D0.call (ok_cell D0.F m_len)) (D1.call (ok_pen D1.F m_int)) (cDr 39) (cMi.mono (by decide)) (cLt.mono (by decide)) (cLd.mono (by decide)) (cThF.mono (by decide)) (cSpF.mono (by decide)) (cOf.mono (by decide)) (cGd.mono (by decide)) m_len m_min m_max m_range m_list m_tuple m_int
end Deed
open PySem PySem.W PySem.Calls PyProof.Rows
theorem PySem.Challenge.cw_deedsheaf_k62_orders_looked_at_holds : PySem.Challenge.rw_deedsheaf_k62_orders_looked_at.Holds := by
  w_on; o_law
  refine HandSHeadRun.head_any (r := OpenLaw.row PySem.Challenge.rw_deedsheaf_k62_orders_looked_at) (q := view (OpenLaw.row PySem.Challenge.rw_deedsheaf_k62_orders_looked_at).prog [27]) (H := Deed.hk) (ob := Deed.ob) (M := 12000) (loose := Deed.looseAll) (d := HandSHeadRun.topDef (OpenLaw.row PySem.Challenge.rw_deedsheaf_k62_orders_looked_at).prog 27) (kwd := []) Deed.ob_eq
    (by kernel_rfl) (fun s => by kernel_rfl) Deed.run (by kernel_rfl) (by kernel_rfl) (by kernel_rfl) (by rfl) (by first | assumption | decide +kernel) (by decide +kernel) ⟨rfl, rfl, rfl, rfl, rfl, by decide +kernel⟩ ?hw ?hc
  case hw => w_witness2
  case hc =>
    refine LamX.walk_ofTsE (l := PySem.Challenge.rw_deedsheaf_k62_orders_looked_at) (n := 63) (k := 41) (x := "_law_script") (CX := fun _ => L2.CX0) rfl (by decide) (by kernel_rfl) ⟨rfl, by decide, by decide⟩ ?F (fun _ _ _ _ _ z => z)
    intro w mg fa h Y G hmg0
    obtain ⟨K, KX, c⟩ := Y
    have hmg : mg ("law" : PySem.Str) = some (.ref fa) := by
      have e : (HandSHeadRun.topDef (OpenLaw.row PySem.Challenge.rw_deedsheaf_k62_orders_looked_at).prog 27).name = ("law" : PySem.Str) := by kernel_rfl
      rw [← e]
      exact hmg0
    exact ⟨K, KX, Deed.facts KX G hmg c⟩
