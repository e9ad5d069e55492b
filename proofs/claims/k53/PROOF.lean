import PyProof.Rows.All
import Wide.All
import OpenK.AllK
import Wide.FinOn
import KE.SortKeyHeap
import KE.KLam
import HandS.ForMost
import HandS.ForExc
import HandS.Flow
import HandS.Style
import HandS.SortInts
import HandS.SortKw
import HandS.TupAny
import HandS.TupMul
import HandS.Lambda
import HandS.EndTab
import HandS.Head2
import HandS.HeadEnd
import HandS.HeadHook4
import HandS.HeadWalk
import HandS.Walk
import HandS.IsInst
import HandS.Defaults
import HandS.More
import HandS.DictComp
import HandS.ListItems
import HandS.SetFor
import HandS.Strs
import HandS.Zip
import HandS.TupSets
import KE.SortData
import KE.GoesMore
import HandS.Conv
import HandS.WordsDict
import HandS.MakeKw
import HandS.Codes
import KE.KIndexOf
import KE.DataCmp
import KE.DataMinMax
import KE.DatumOrd
import PyProof.WalksMore
import KE.Datum
import HandS.SetTxt0
import HandS.DictTup
import HandS.Text
import HandS.Exc
import HandS.TryMany
import HandS.WordsExc
import KE.KDictDisplayH
import KE.KExcSuper
import PySem.Challenge.RW_deedsheaf_k53_forms_drafts_and_copies_re
set_option Elab.async false
set_option linter.all false
set_option maxRecDepth 100000
set_option maxHeartbeats 0
set_option pp.maxSteps 1200

namespace Deed
open PySem PySem.Spec PyProof.Rows L2
def topS (i : Nat) : Stmt := PySem.Challenge.pw_deedsheaf_k53_forms_drafts_and_copies_re.main.body.getD i (.Pass ⟨0, 0, 0, 0⟩)
/-! ### heaps: all but the pen at p is as it was -/
def Kp (p : Addr) (H H' : Hp) : Prop := ∀ b o, b ≠ p → H b = some o → H' b = some o
theorem Kp.refl (p : Addr) (H : Hp) : Kp p H H := fun _ _ _ h => h
theorem Kp.trans {p : Addr} {H H1 H2 : Hp} (a : Kp p H H1) (b : Kp p H1 H2) : Kp p H H2 := fun c o n h => b c o n (a c o n h)
theorem Kp.new {p q : Addr} {H : Hp} (n : H q = none) (o : HO) : Kp p H (upd H q o) := fun b u _ e => by
  rw [upd_ne (ne_of_none e n)]
  exact e
theorem Kp.put {p : Addr} {H : Hp} (o : HO) : Kp p H (upd H p o) := fun b u n e => by
  rw [upd_ne n]
  exact e
theorem Kp.same {p : Addr} {H H' : Hp} (h : Same H H') : Kp p H H' := fun b o _ e => h b o e
/-- the pen: four whole numbers, the last one a rest -/
def PenAt (H : Hp) (p : Addr) : Prop := ∃ a f c e : Int, H p = some (.lst [.int a, .int f, .int c, .int e]) ∧ 0 ≤ e ∧ e < 1000000007
theorem PenAt.new {p q : Addr} {H : Hp} (h : PenAt H p) (n : H q = none) (o : HO) : PenAt (upd H q o) p := by
  obtain ⟨a, f, c, e, h1, h2⟩ := h
  refine ⟨a, f, c, e, ?_, h2⟩
  rw [upd_ne (ne_of_none h1 n)]
  exact h1
theorem PenAt.ne {p q : Addr} {H : Hp} {o : HO} (h : PenAt H p) (e : H q = some o) (no : ∀ xs, o ≠ .lst xs) : q ≠ p := fun z => by
  obtain ⟨a, f, c, e', h1, _⟩ := h
  rw [z, h1] at e
  exact no _ (Option.some.inj e).symm
theorem PenAt.free {p q : Addr} {H : Hp} (h : PenAt H p) (n : H q = none) : q ≠ p := fun z => by
  obtain ⟨a, f, c, e', h1, _⟩ := h
  rw [z, h1] at n
  cases n
section
variable {P : Program} {w : World} {K : PySem.W.Frag} {mg : Str → Option Value} {base : Heap}
/-! ### the script's cell -/
abbrev sCell : Stmt := topS 34
theorem scCell : FnScope ["_law_script", "_law_k"] ["_law_script", "_law_k"] (defScope sCell) := ⟨rfl, rfl, rfl, by decide +kernel, rfl, by decide +kernel, by decide +kernel⟩
def spCell (K : PySem.W.Frag) : Sp := fun vs H Q _ => ∃ (a : Addr) (ns : List Int) (k : Int), vs = [.ref a, .int k] ∧ SqL K H a (ns.map V.int) ∧ 0 ≤ k ∧ ∀ v : Int, Q (.int v) H
theorem ok_cell {f : Addr} {fd : FuncData} {k : Nat} (F : Fun K "_law_cell_at" "_law_cell_at" sCell f fd) (ml : mg "len" = none) : FnOk P w K mg base CX0 (k + 1) f fd ["_law_script", "_law_k"] (spCell K) := by
  refine F.ok scCell (fun vs H Q E h => ?_) (fun cdv A outer s H vs Q E hr h => ?_)
  · obtain ⟨a, ns, k, rfl, _⟩ := h
    rfl
  · obtain ⟨a, ns, k, rfl, hS, h0, q⟩ := h
    refine ⟨_, pss_cons (ps_if (pt_cmpR op_lt (pv 1) (pe_callB call_len_seq (by rfl) ml PySem.boot_len (pa_cons (pv 0) pa_nil)) (nomark _)) (pss_one (ps_ret (pe_ix ix_list (pv 0) (pv 1) (fun _ _ => rfl)))) pss_nil)
      (pss_one (ps_ret pe_int)), ?_⟩
    have hl : (ns.map V.int).length = ns.length := List.length_map _
    refine ⟨_, rfl, _, rfl, a, _, rfl, .inl hS, _, _, rfl, rfl, _, rfl, ?_⟩
    refine ite2 (fun c => ?_) (fun c => ?_)
    · have c' : k < (((ns.map V.int).length : Nat) : Int) := of_decide_eq_true c
      rw [hl] at c'
      have hk : k.toNat < ns.length := by omega
      have ek : k = ((k.toNat : Nat) : Int) := by omega
      refine ⟨_, rfl, _, rfl, a, _, _, .int ns[k.toNat], rfl, rfl, hS, ?_, q _⟩
      exact at_of ek (by rw [List.getElem?_map, List.getElem?_eq_getElem hk] <;> rfl)
    · exact q 0
/-! ### the pen -/
abbrev sPen : Stmt := topS 33
theorem scPen : FnScope ["_law_cell"] ["_law_cell"] (defScope sPen) := ⟨rfl, rfl, rfl, by decide +kernel, rfl, by decide +kernel, by decide +kernel⟩
def spPen : Sp := fun vs H Q _ => ∃ (c : Int), vs = [.int c] ∧ ∀ p H', Same H H' → H p = none → PenAt H' p → Q (.ref p) H'
theorem ok_pen {f : Addr} {fd : FuncData} {k : Nat} (F : Fun K "_law_pen" "_law_pen" sPen f fd) (mi : mg "int" = none) : FnOk P w K mg base CX0 (k + 1) f fd ["_law_cell"] spPen := by
  refine F.ok scPen (fun vs H Q E h => ?_) (fun cdv A outer s H vs Q E hr h => ?_)
  · obtain ⟨c, rfl, _⟩ := h
    rfl
  · obtain ⟨c, rfl, q⟩ := h
    refine ⟨_, pss_one (ps_ret (pe_lst (pa_cons (pv 0) (pa_cons (pe_callTy call_int1 (by rfl) mi (by decide +kernel) (pa_cons (pe_cmpR op_ge (pv 0) (pe_op op_pow pe_int pe_int) (nomark _)) pa_nil)) (pa_cons pe_int (pa_cons (pe_op op_mod (pv 0) pe_int) pa_nil)))))), ?_⟩
    refine ⟨_, rfl, _, rfl, _, _, rfl, rfl, ⟨by decide, by decide, by decide⟩, _, _, rfl, rfl, .inr ⟨_, rfl, ?_⟩⟩
    refine ⟨_, rfl, _, _, rfl, rfl, (by show (0 : Int) < 1000000007; decide), (by show 4 ≤ sizeLine; decide), fun p hp => ?_⟩
    refine q p _ (fun b o e => ?_) hp ⟨_, _, _, _, upd_same, Int.emod_nonneg _ (by decide), Int.emod_lt_of_pos _ (by decide)⟩
    rw [upd_ne (ne_of_none e hp)]
    exact e
/-! ### a draw -/
abbrev sDraw : Stmt := topS 35
theorem scDraw : FnScope ["_law_pen_here", "_law_bound", "_law_found", "_law_stir"] ["_law_pen_here", "_law_bound"] (defScope sDraw) := ⟨rfl, rfl, rfl, by decide +kernel, rfl, by decide +kernel, by decide +kernel⟩
def spDraw : Sp := fun vs H Q _ => ∃ (p : Addr) (b : Int), vs = [.ref p, .int b] ∧ PenAt H p ∧ 0 < b ∧ b < 1073741824 ∧ ∀ v H', Kp p H H' → PenAt H' p → 0 ≤ v → v < b → Q (.int v) H'
theorem ok_draw {f : Addr} {fd : FuncData} {k : Nat} (F : Fun K "_law_draw" "_law_draw" sDraw f fd) : FnOk P w K mg base CX0 (k + 1) f fd ["_law_pen_here", "_law_bound"] spDraw := by
  refine F.ok scDraw (fun vs H Q E h => ?_) (fun cdv A outer s H vs Q E hr h => ?_)
  · obtain ⟨p, b, rfl, _⟩ := h
    rfl
  · obtain ⟨p, b, rfl, ⟨x, y, c, e, hp, he0, he1⟩, hb0, hb1, q⟩ := h
    refine ⟨_, pss_cons (ps_if (PW.pt (pw_and (pt_cmpR op_eq (pe_ix ix_list (pv 0) pe_int (fun _ _ => rfl)) pe_int (nomark _)) (pw_and1 (pt_cmpR op_gt (pe_ix ix_list (pv 0) pe_int (fun _ _ => rfl)) pe_int (nomark _)))))
        (pss_cons (ps_set (i := 2) scDraw.nd rfl (.inl rfl) (pe_op op_mod (pe_ix ix_list (pv 0) pe_int (fun _ _ => rfl)) (pv 1)))
        (pss_cons (ps_asg (pe_op op_fdiv (pe_ix ix_list (pv 0) pe_int (fun _ _ => rfl)) (pv 1)) (pg_sub (pv 0) pe_int set_list))
        (pss_one (ps_ret (pv 2))))) pss_nil)
      (pss_cons (ps_asg (pe_op op_add (pe_ix ix_list (pv 0) pe_int (fun _ _ => rfl)) pe_int) (pg_sub (pv 0) pe_int set_list))
      (pss_cons (ps_set (i := 3) scDraw.nd rfl (.inl rfl) (pe_op op_mod (pe_op op_mul (pe_op op_add (pe_ix ix_list (pv 0) pe_int (fun _ _ => rfl)) pe_int) (pe_op op_add pe_int (pe_op op_mul pe_int (pe_ix ix_list (pv 0) pe_int (fun _ _ => rfl))))) pe_int))
      (pss_cons (ps_set (i := 3) scDraw.nd rfl (.inl rfl) (pe_op op_mod (pe_op op_add (pe_op op_add (pe_op op_mul (pv 3) (pv 3)) (pe_op op_mul pe_int (pe_ix ix_list (pv 0) pe_int (fun _ _ => rfl)))) pe_int) pe_int))
      (pss_one (ps_ret (pe_op op_mod (pe_op op_fdiv (pe_op op_mod (pe_op op_mul (pv 3) pe_int) pe_int) pe_int) (pv 1))))))), ?_⟩
    have i0 : ∀ u : V, ∀ r : List V, atI (u :: r) 0 = some u := fun u r => atI_nat (j := 0) rfl
    have i1 : ∀ u v : V, ∀ r : List V, atI (u :: v :: r) 1 = some v := fun u v r => atI_nat (j := 1) rfl
    have i2 : ∀ u v w : V, ∀ r : List V, atI (u :: v :: w :: r) 2 = some w := fun u v w r => atI_nat (j := 2) rfl
    have i3 : ∀ u v w z : V, ∀ r : List V, atI (u :: v :: w :: z :: r) 3 = some z := fun u v w z r => atI_nat (j := 3) rfl
    have hS : SqL K H p [.int x, .int y, .int c, .int e] := SqL.of hp
    refine ⟨_, rfl, p, _, _, _, rfl, rfl, hS, i1 _ _ _, rfl, _, rfl, ?_⟩
    refine ite2 (fun c1 => ?_) (fun c1 => ?slow1)
    refine ⟨_, rfl, p, _, _, _, rfl, rfl, hS, i0 _ _, _, _, rfl, rfl, _, rfl, ?_⟩
    refine ite2 (fun c2 => ?_) (fun c2 => ?slow2)
    · refine ⟨_, rfl, p, _, _, _, rfl, rfl, hS, i0 _ _, _, rfl, _, _, rfl, rfl, hb0, ?_⟩
      refine ⟨_, rfl, p, _, _, _, rfl, rfl, hS, i0 _ _, _, rfl, _, _, rfl, rfl, ⟨hb0, hb1⟩, _, rfl, p, _, 0, 0, rfl, rfl, hp, rfl, ?_⟩
      exact ⟨_, rfl, q _ _ (Kp.put _) ⟨_, _, _, _, upd_same, he0, he1⟩ (Int.emod_nonneg _ (by omega)) (Int.emod_lt_of_pos _ hb0)⟩
    all_goals
      refine ⟨_, rfl, p, _, _, _, rfl, rfl, hS, i2 _ _ _ _, _, _, rfl, rfl, _, rfl, p, _, 2, 2, rfl, rfl, hp, rfl, ?_⟩
      have hp1 : (upd H p (.lst [.int x, .int y, .int (c + 1), .int e])) p = some (.lst [.int x, .int y, .int (c + 1), .int e]) := upd_same
      have hS1 : SqL K (upd H p (.lst [.int x, .int y, .int (c + 1), .int e])) p [.int x, .int y, .int (c + 1), .int e] := SqL.of hp1
      refine ⟨_, rfl, p, _, _, _, rfl, rfl, hS1, i3 _ _ _ _ _, _, _, rfl, rfl, _, rfl, p, _, _, _, rfl, rfl, hS1, i2 _ _ _ _, _, _, rfl, rfl, .inl ⟨by decide, by decide⟩, _, _, rfl, rfl, _, _, rfl, rfl, .inl ⟨by omega, by omega⟩, _, _, rfl, rfl, (by show (0 : Int) < 2147483647; decide), ?_⟩
      have r1 := Int.emod_nonneg ((e + 17) * (69621 + 2 * (c + 1))) (b := 2147483647) (by decide)
      have r2 := Int.emod_lt_of_pos ((e + 17) * (69621 + 2 * (c + 1))) (b := 2147483647) (by decide)
      generalize (e + 17) * (69621 + 2 * (c + 1)) % 2147483647 = st at r1 r2
      refine ⟨_, rfl, _, rfl, _, _, rfl, rfl, .inl ⟨by omega, by omega⟩, _, rfl, p, _, _, _, rfl, rfl, hS1, i2 _ _ _ _, _, _, rfl, rfl, .inl ⟨by decide, by decide⟩, _, _, rfl, rfl, _, _, rfl, rfl, _, _, rfl, rfl, (by show (0 : Int) < 2147483629; decide), ?_⟩
      refine ⟨_, rfl, _, _, rfl, rfl, .inr ⟨by decide, by decide⟩, _, _, rfl, rfl, (by show (0 : Int) < 2147483647; decide), _, _, rfl, rfl, ⟨by decide, by decide⟩, _, rfl, _, _, rfl, rfl, hb0, ?_⟩
      exact q _ _ (Kp.put _) ⟨_, _, _, _, upd_same, he0, he1⟩ (Int.emod_nonneg _ (by omega)) (Int.emod_lt_of_pos _ hb0)
end
end Deed

namespace Deed
open PySem PySem.Spec PyProof.Rows L2
/-- a def of the top: where it stands, how its arguments come, its name -/
structure Df (K : PySem.W.Frag) (mg : Str → Option Value) (x : Str) (st : Stmt) (ps : List Str) (f : Addr) (fd : FuncData) : Prop where
  F : Fun K x x st f fd
  b : Binds K fd ps []
  g : mg x = some (.ref f)
theorem am0 {φ : V → Prop} : ∀ y ∈ ([] : List V), φ y := fun _ h => nomatch h
theorem am1 {φ : V → Prop} {x : V} {xs : List V} (h : φ x) (r : ∀ y ∈ xs, φ y) : ∀ y ∈ x :: xs, φ y := fun y hy => (List.mem_cons.mp hy).elim (fun e => e ▸ h) (r y)
/-- an item of a written list at an open place -/
theorem pick {xs : List V} {i : Int} (φ : V → Prop) (h0 : 0 ≤ i) (h1 : i < (xs.length : Int)) (hx : ∀ x ∈ xs, φ x) : ∃ v, atI xs i = some v ∧ φ v := by
  have hk : i.toNat < xs.length := by omega
  exact ⟨xs[i.toNat], at_of (j := i.toNat) (by omega) (List.getElem?_eq_getElem hk), hx _ (List.getElem_mem hk)⟩
/-- an int within bounds -/
def Within (lo hi : Int) (x : V) : Prop := ∃ n : Int, x = .int n ∧ lo ≤ n ∧ n ≤ hi
section
variable {P : Program} {w : World} {K : PySem.W.Frag} {mg : Str → Option Value} {base : Heap} {fDr : Addr} {dDr : FuncData}
abbrev DrawD (K : PySem.W.Frag) (mg : Str → Option Value) := Df K mg "_law_draw" sDraw ["_law_pen_here", "_law_bound"]
end
end Deed
namespace Deed
open PySem PySem.Spec PyProof.Rows L2
/-! ### lists of ints compared -/
theorem dp_ints {K : PySem.W.Frag} {H : Hp} : ∀ ns : List Int, DpAll K H (ns.map V.int) (ns.map PyData.int)
  | [] => .nil
  | n :: r => .cons (.int n) (dp_ints r)
theorem lay_ints : ∀ ns : List Int, PyData.canLayAll0 (ns.map PyData.int) = true
  | [] => by simp [PyData.canLayAll0]
  | n :: r => by simp [PyData.canLayAll0, PyData.canLay0, lay_ints r]
theorem depth_ints : ∀ ns : List Int, PyData.depthAll (ns.map PyData.int) ≤ 1
  | [] => by simp [PyData.depthAll]
  | n :: r => by
    have h := depth_ints r
    simp only [List.map_cons, PyData.depthAll, PyData.depth]
    omega
theorem shaped_ints (ns : List Int) : SeqAt.shaped (.list (ns.map PyData.int)) = true := by
  have h1 := depth_ints ns
  have h2 : PyData.depth (.list (ns.map PyData.int)) ≤ 64 := by
    simp only [PyData.depth]
    omega
  show (PyData.canLay0 (.list (ns.map PyData.int)) && decide (PyData.depth (.list (ns.map PyData.int)) ≤ 64)) = true
  rw [Bool.and_eq_true]
  exact ⟨by simp only [PyData.canLay0]; exact lay_ints ns, decide_eq_true h2⟩
theorem eqvAll_ints : ∀ ns ms : List Int, PyData.eqvAll (ns.map PyData.int) (ms.map PyData.int) = decide (ns = ms)
  | [], [] => by simp [PyData.eqvAll]
  | [], _ :: _ => by simp [PyData.eqvAll]
  | _ :: _, [] => by simp [PyData.eqvAll]
  | n :: r, m :: q => by
    simp only [List.map_cons, PyData.eqvAll, PyData.eqv, eqvAll_ints r q]
    by_cases h : n = m
    · subst h
      simp
    · simp [h]
theorem eqv_ints (ns ms : List Int) : PyData.eqv (.list (ns.map PyData.int)) (.list (ms.map PyData.int)) = decide (ns = ms) := by
  simp only [PyData.eqv]
  exact eqvAll_ints ns ms
theorem mem_inV {n : Int} {ns : List Int} : inV (.int n) (ns.map V.int) = decide (n ∈ ns) := by
  induction ns with
  | nil => simp [inV]
  | cons m r ih =>
    have e : inV (.int n) ((m :: r).map V.int) = (eqV (.int m) (.int n) || inV (.int n) (r.map V.int)) := by simp [inV]
    have e2 : eqV (.int m) (.int n) = decide (m = n) := by
      first | rfl | simp [eqV] | (unfold eqV; simp)
    rw [e, ih, e2]
    by_cases h : m = n
    · subst h
      simp
    · have h' : ¬ n = m := fun z => h z.symm
      simp [h, h']
theorem flat_ints (ns : List Int) : (ns.map V.int).all flatV = true := by
  induction ns with
  | nil => rfl
  | cons n r ih =>
    rw [List.map_cons, List.all_cons, ih]
    rfl
/-- all that isn't a list is kept -/
def KpT (H H' : Hp) : Prop := ∀ b xs, H b = some (.tup xs) → H' b = some (.tup xs)
theorem Kp.tup {p : Addr} {H H' : Hp} (k : Kp p H H') (P : PenAt H p) : KpT H H' := fun b xs e => k _ _ (P.ne e fun _ z => by cases z) e
theorem Same.tup {H H' : Hp} (k : Same H H') : KpT H H' := fun b xs e => k _ _ e
theorem KpT.trans {H H1 H2 : Hp} (a : KpT H H1) (b : KpT H1 H2) : KpT H H2 := fun c o h => b c o (a c o h)
def rLenS (K : PySem.W.Frag) : List V → Hp → VK → Prop := fun xs H Q => ∃ p ys, xs = [.ref p] ∧ (SqL K H p ys ∨ SqT K H p ys) ∧ Q (.int ys.length) H
theorem take_more {α : Type} {l : List α} {i : Nat} {x : α} (h : l[i]? = some x) : l.take (i + 1) = l.take i ++ [x] := by
  rw [List.take_add_one, h]
  rfl
structure Bi (mg : Str → Option Value) : Prop where
  range : mg "range" = none
  min : mg "min" = none
  max : mg "max" = none
  tuple : mg "tuple" = none
  list : mg "list" = none
  len : mg "len" = none
  sorted : mg "sorted" = none
  int : mg "int" = none
end Deed

namespace Deed
open PySem PySem.Spec PyProof.Rows L2 LamX
/-! ### rules whose reading names K; a def that may be called; comprehensions at large -/
theorem ix_tupK {X : Cx} {K : PySem.W.Frag} (h : X.K = K) : IxR X (rIxT K) := h ▸ ix_tup
theorem ix_listK {X : Cx} {K : PySem.W.Frag} (h : X.K = K) : IxR X (rIxL K) := h ▸ ix_list
theorem in_seqK {X : Cx} {K : PySem.W.Frag} (h : X.K = K) : OpR X (compareOp .In) (rIn K false) := h ▸ op_in_seq
theorem notIn_seqK {X : Cx} {K : PySem.W.Frag} (h : X.K = K) : OpR X (compareOp .NotIn) (rIn K true) := h ▸ op_notIn_seq
theorem len_seqK {X : Cx} {K : PySem.W.Frag} (h : X.K = K) : CallR X (.builtin "len") (rLenS K) := h ▸ call_len_seq
structure CallOk (P : Program) (w : World) (K : PySem.W.Frag) (mg : Str → Option Value) (base : Heap) (L : Nat) (x : Str) (ps : List Str) (sp : Sp) where
  f : Addr
  fd : FuncData
  g : mg x = some (.ref f)
  kp : PySem.W.keepIn K (.ref f) = true
  b : Binds K fd ps []
  ok : FnOk P w K mg base CX0 L f fd ps sp
def CallOk.mono {P : Program} {w : World} {K : PySem.W.Frag} {mg : Str → Option Value} {base : Heap} {L L' : Nat} {x : Str} {ps : List Str} {sp : Sp} (c : CallOk P w K mg base L x ps sp) (h : L ≤ L') : CallOk P w K mg base L' x ps sp := ⟨c.f, c.fd, c.g, c.kp, c.b, c.ok.mono h⟩
def Df.call {P : Program} {w : World} {K : PySem.W.Frag} {mg : Str → Option Value} {base : Heap} {L : Nat} {x : Str} {st : Stmt} {ps : List Str} {f : Addr} {fd : FuncData} {sp : Sp} (D : Df K mg x st ps f fd) (G : FnOk P w K mg base CX0 L f fd ps sp) : CallOk P w K mg base L x ps sp := ⟨f, fd, D.g, D.F.kp, D.b, G⟩
theorem nodup_len : ∀ {l m : List Int}, l.Nodup → (∀ x ∈ l, x ∈ m) → l.length ≤ m.length
  | [], m, _, _ => Nat.zero_le _
  | a :: r, m, h, hs => by
    rw [List.nodup_cons] at h
    have ha := hs a List.mem_cons_self
    have h1 := nodup_len (l := r) (m := m.erase a) h.2 fun x hx => by
      have hne : x ≠ a := fun z => h.1 (z ▸ hx)
      exact (List.mem_erase_of_ne hne).mpr (hs x (List.mem_cons_of_mem _ hx))
    rw [List.length_erase_of_mem ha] at h1
    have := List.length_pos_of_mem ha
    rw [List.length_cons]
    omega
theorem none_back {H H' : Hp} {p : Addr} (s : Same H H') (n : H' p = none) : H p = none := by
  cases h : H p with
  | none => rfl
  | some o => rw [s _ _ h] at n; cases n
theorem same_refl (H : Hp) : Same H H := fun _ _ e => e
theorem take_filter {α : Type} {p : α → Bool} {ys : List α} {i : Nat} {y : α} (h : ys[i]? = some y) : (ys.take (i + 1)).filter p = (ys.take i).filter p ++ (if p y then [y] else []) := by
  rw [take_more h, List.filter_append]
  congr 1
  cases hp : p y <;> simp [hp]
section
variable {J : It} {n : Nat} {G : Hp → Prop} {Y : Nat → Hp → V → Hp → Prop} {g : TG} {tt : TT} {te : TE} {vs : List Nat} {σ : L2.St} {H1 : Hp} {D : Addr} {Qd : Hp → Prop} {α : Type}
abbrev LcGoal (J : It) (g : TG) (tt : TT) (te : TE) (vs : List Nat) (σ : L2.St) (H1 : Hp) (D : Addr) (Qd : Hp → Prop) : Prop :=
  ∃ W : Nat → Nat → Hp → Prop, (∃ m, W 0 m (upd H1 D (.lst []))) ∧ ∀ i m H, W i m H →
      (J.stop i H ∧ Qd H) ∨ (J.go i H ∧ ∃ Nx : Hp → Prop, (∀ H', Nx H' → ∃ m', m' < m ∧ W (i + 1) m' H') ∧ ∀ x H', J.yld i H x H' → g x (wipe σ vs) H' fun σ2 H2 => wipe σ2 vs = wipe σ vs ∧ tt σ2 H2 fun b H3 =>
        if b = true then te σ2 H3 fun y H4 => ∃ acc, H4 D = some (.lst acc) ∧ acc.length < sizeLine ∧ Nx (upd H4 D (.lst (acc ++ [y]))) else Nx H3)
/-- at large: St a step of the heap, In what holds of it, E what holds of an item -/
theorem lc_gen (w : Walk J n G Y) (ys : List α) (p : α → Bool) (In : Hp → Prop) (Sp1 : Hp → Hp → Prop) (E : Hp → α → V → Prop) (hn : ys.length = n) (hlen : ys.length ≤ 1000) (h0 : In (upd H1 D (.lst []))) (hG : ∀ H, In H → G H)
    (hSt : ∀ H H', In H → Sp1 H H' → In H' ∧ ∀ xs, H D = some (.lst xs) → H' D = some (.lst xs)) (hPut : ∀ H xs l, In H → H D = some (.lst xs) → In (upd H D (.lst l)))
    (hE : ∀ H H' y u, In H → Sp1 H H' → E H y u → E H' y u) (hEp : ∀ H xs l y u, In H → H D = some (.lst xs) → E H y u → E (upd H D (.lst l)) y u)
    (hs : ∀ i y x H H', ys[i]? = some y → In H → Y i H x H' → ∀ (Q1 : V → Hp → Prop) (Q0 : Hp → Prop), (p y = true → ∀ u H4, Sp1 H H4 → E H4 y u → Q1 u H4) → (p y = false → ∀ H3, Sp1 H H3 → Q0 H3) →
      g x (wipe σ vs) H' fun σ2 H2 => wipe σ2 vs = wipe σ vs ∧ tt σ2 H2 fun b H3 => if b = true then te σ2 H3 Q1 else Q0 H3)
    (hd : ∀ H (zs : List (V × α)), In H → H D = some (.lst (zs.map (·.1))) → zs.map (·.2) = ys.filter p → (∀ z ∈ zs, E H z.2 z.1) → Qd H) : LcGoal J g tt te vs σ H1 D Qd := by
  refine lc_it w (fun i H => In H ∧ ∃ zs : List (V × α), H D = some (.lst (zs.map (·.1))) ∧ zs.map (·.2) = (ys.take i).filter p ∧ ∀ z ∈ zs, E H z.2 z.1) ⟨h0, [], upd_same, rfl, fun _ h => nomatch h⟩ (fun i H _ h => hG H h.1) ?_ ?_
  · rintro i x H H' hi ⟨hI, zs, eD, ez, hz⟩ hY
    rw [← hn] at hi
    have hy : ys[i]? = some ys[i] := List.getElem?_eq_getElem hi
    have hzl : zs.length ≤ 1000 := by
      have h1 := congrArg List.length ez
      rw [List.length_map] at h1
      have h2 := List.length_filter_le p (ys.take i)
      rw [List.length_take] at h2
      omega
    refine hs i ys[i] x H H' hy hI hY _ _ (fun hp u H4 s4 e4 => ?_) (fun hp H3 s3 => ?_)
    · obtain ⟨I4, k4⟩ := hSt _ _ hI s4
      have eD4 := k4 _ eD
      refine ⟨_, eD4, small1000 (by rw [List.length_map]; omega), hPut _ _ _ I4 eD4, zs ++ [(u, ys[i])], ?_, ?_, fun z hzz => ?_⟩
      · rw [upd_same, List.map_append]
        rfl
      · rw [List.map_append, ez, take_filter hy, hp]
        rfl
      · rcases List.mem_append.mp hzz with h | h
        · exact hEp _ _ _ _ _ I4 eD4 (hE _ _ _ _ hI s4 (hz z h))
        · rw [List.mem_singleton.mp h]
          exact hEp _ _ _ _ _ I4 eD4 e4
    · obtain ⟨I3, k3⟩ := hSt _ _ hI s3
      refine ⟨I3, zs, k3 _ eD, ?_, fun z hzz => hE _ _ _ _ hI s3 (hz z hzz)⟩
      rw [ez, take_filter hy, hp]
      simp
  · rintro H ⟨hI, zs, eD, ez, hz⟩
    rw [← hn, List.take_length] at ez
    exact hd H zs hI eD ez hz
theorem same_put {H H1 : Hp} {D : Addr} (nD : H1 D = none) (s : Same H1 H) (o : HO) : Same H1 (upd H D o) := fun b u e => by
  rw [upd_ne (ne_of_none e nD)]
  exact s _ _ e
theorem same_new {H : Hp} {p : Addr} (n : H p = none) (o : HO) : Same H (upd H p o) := fun b u e => by rw [upd_ne (ne_of_none e n)]; exact e
/-- values; nothing but the new list is otherwise -/
theorem lc_sameV (w : Walk J n G Y) (ys : List α) (p : α → Bool) (v : α → V) (hn : ys.length = n) (hlen : ys.length ≤ 1000) (nD : H1 D = none) (hG : ∀ H, Same H1 H → G H)
    (hs : ∀ i y x H H', ys[i]? = some y → Same H1 H → Y i H x H' → ∀ (Q1 : V → Hp → Prop) (Q0 : Hp → Prop), (p y = true → ∀ H4, Same H H4 → Q1 (v y) H4) → (p y = false → ∀ H3, Same H H3 → Q0 H3) →
      g x (wipe σ vs) H' fun σ2 H2 => wipe σ2 vs = wipe σ vs ∧ tt σ2 H2 fun b H3 => if b = true then te σ2 H3 Q1 else Q0 H3)
    (hd : ∀ H, Same H1 H → H D = some (.lst ((ys.filter p).map v)) → Qd H) : LcGoal J g tt te vs σ H1 D Qd := by
  refine lc_gen w ys p (fun H => Same H1 H) Same (fun _ y u => u = v y) hn hlen (same_new nD _) hG (fun H H' h1 h2 => ⟨h1.trans h2, fun xs e => h2 _ _ e⟩) (fun H xs l h1 _ => same_put nD h1 _) (fun _ _ _ _ _ _ e => e) (fun _ _ _ _ _ _ _ e => e) (fun i y x H H' hy h1 hY Q1 Q0 q1 q0 => ?_) (fun H zs h1 e ez hz => ?_)
  · exact hs i y x H H' hy h1 hY Q1 Q0 (fun hp H4 s4 => q1 hp _ H4 s4 rfl) q0
  · refine hd H h1 ?_
    rw [e, ← ez, List.map_map]
    congr 2
    exact List.map_congr_left fun z hzz => hz z hzz
theorem lc_sameM (w : Walk J n G Y) (ys : List α) (v : α → V) (hn : ys.length = n) (hlen : ys.length ≤ 1000) (nD : H1 D = none) (hG : ∀ H, Same H1 H → G H)
    (hs : ∀ i y x H H', ys[i]? = some y → Same H1 H → Y i H x H' → ∀ (Q1 : V → Hp → Prop), (∀ H4, Same H H4 → Q1 (v y) H4) → g x (wipe σ vs) H' fun σ2 H2 => wipe σ2 vs = wipe σ vs ∧ te σ2 H2 Q1)
    (hd : ∀ H, Same H1 H → H D = some (.lst (ys.map v)) → Qd H) : LcGoal J g tYes te vs σ H1 D Qd := by
  refine lc_sameV w ys (fun _ => true) v hn hlen nD hG (fun i y x H H' hy h1 hY Q1 Q0 q1 q0 => ?_) (fun H h1 e => hd H h1 (by rw [e, List.filter_eq_self.mpr fun _ _ => rfl]))
  exact hs i y x H H' hy h1 hY Q1 (fun H4 s4 => q1 rfl H4 s4)
/-- new tuples -/
theorem lc_sameT (w : Walk J n G Y) (ys : List α) (p : α → Bool) (v : α → List V) (hn : ys.length = n) (hlen : ys.length ≤ 1000) (nD : H1 D = none) (hG : ∀ H, Same H1 H → G H)
    (hs : ∀ i y x H H', ys[i]? = some y → Same H1 H → Y i H x H' → ∀ (Q1 : V → Hp → Prop) (Q0 : Hp → Prop), (p y = true → ∀ t H4, Same H H4 → H4 t = some (.tup (v y)) → Q1 (.ref t) H4) → (p y = false → ∀ H3, Same H H3 → Q0 H3) →
      g x (wipe σ vs) H' fun σ2 H2 => wipe σ2 vs = wipe σ vs ∧ tt σ2 H2 fun b H3 => if b = true then te σ2 H3 Q1 else Q0 H3)
    (hd : ∀ H (zs : List (Addr × α)), Same H1 H → H D = some (.lst (zs.map fun z => .ref z.1)) → zs.map (·.2) = ys.filter p → (∀ z ∈ zs, H z.1 = some (.tup (v z.2))) → Qd H) : LcGoal J g tt te vs σ H1 D Qd := by
  refine lc_gen w ys p (fun H => Same H1 H) Same (fun H y u => ∃ t, u = .ref t ∧ H t = some (.tup (v y))) hn hlen (same_new nD _) hG (fun H H' h1 h2 => ⟨h1.trans h2, fun xs e => h2 _ _ e⟩) (fun H xs l h1 _ => same_put nD h1 _) (fun H H' y u _ h2 e => ?_) (fun H xs l y u h1 h2 e => ?_) (fun i y x H H' hy h1 hY Q1 Q0 q1 q0 => ?_) (fun H zs h1 e ez hz => ?_)
  · obtain ⟨t, e1, e2⟩ := e
    exact ⟨t, e1, h2 _ _ e2⟩
  · obtain ⟨t, e1, e2⟩ := e
    refine ⟨t, e1, ?_⟩
    rw [upd_ne fun z => by rw [z, h2] at e2; cases e2]
    exact e2
  · exact hs i y x H H' hy h1 hY Q1 Q0 (fun hp t H4 s4 e4 => q1 hp _ H4 s4 ⟨t, rfl, e4⟩) q0
  · have key : ∀ zs : List (V × α), (∀ z ∈ zs, ∃ t, z.1 = .ref t ∧ H t = some (.tup (v z.2))) → ∃ ws : List (Addr × α), zs.map (·.1) = ws.map (fun z => V.ref z.1) ∧ ws.map (·.2) = zs.map (·.2) ∧ ∀ z ∈ ws, H z.1 = some (.tup (v z.2)) := by
      intro zs
      induction zs with
      | nil => exact fun _ => ⟨[], rfl, rfl, fun _ h => nomatch h⟩
      | cons z r ih =>
        intro h
        obtain ⟨ws, a1, a2, a3⟩ := ih fun x hx => h x (List.mem_cons_of_mem _ hx)
        obtain ⟨t, e1, e2⟩ := h z List.mem_cons_self
        refine ⟨(t, z.2) :: ws, ?_, ?_, fun x hx => ?_⟩
        · rw [List.map_cons, List.map_cons, a1, e1]
        · rw [List.map_cons, List.map_cons, a2]
        · rcases List.mem_cons.mp hx with h | h
          · rw [h]
            exact e2
          · exact a3 x h
    obtain ⟨ws, a1, a2, a3⟩ := key zs hz
    exact hd H ws h1 (by rw [e, a1]) (by rw [a2, ez]) a3
end
end Deed

namespace PySem.SeqAt
open AutoSeq1 (wpAny_loadPart')
open MeetsSeq
/-! ### a dict and a text are never equal -/
theorem dict_eq_declines_str (l : Addr) (es : Array DictEntry) (ep : Nat) (dd : Option Addr) (sl : Array (Option Value)) (b : Str) (u : Tok) :
    Meets (Builtin.«dict.__eq__» ⟨[.ref l, .str b u], []⟩) (fun _ R s => s.heap.get? l = some { cls := .type "dict", dict := dd, data := .dict es ep, slots := sl } ∧ R (.ok (.ret .notImplemented)) s) :=
  .of_wp fun prog w A R s h => by obtain ⟨hp, g, d, tk, os⟩ := s; obtain ⟨hl, h⟩ := h; have f1 := F.sub_str_dict; wp_walk using wpAny_loadPart' hl; exact ⟨_, rfl, h⟩
theorem str_eq_declines_dict (b : Str) (u : Tok) (l : Addr) (c : Value) (es : Array DictEntry) (ep : Nat) (dd : Option Addr) (sl : Array (Option Value)) :
    Meets (Builtin.«str.__eq__» ⟨[.str b u, .ref l], []⟩) (fun _ R s => s.heap.get? l = some { cls := c, dict := dd, data := .dict es ep, slots := sl } ∧ R (.ok (.ret .notImplemented)) s) :=
  .of_wp fun prog w A R s h => by obtain ⟨hp, g, d, tk, os⟩ := s; obtain ⟨hl, h⟩ := h; wp_walk using wpAny_loadPart' hl, wpAny_load hl; exact ⟨_, rfl, h⟩
section
variable {M : Model} {A : Around} {E : Value → Shared → Prop} {s : Shared}
theorem RcAt.dict_str {l : Addr} {o : Obj} {es : Array DictEntry} {ep : Nat} (b : Str) (u : Tok) (ho : s.heap.get? l = some o) (hc : o.cls = .type "dict") (hd : o.data = .dict es ep) (hu : A.units < cLine) : RcAt A s (.ref l) (.str b u) false := fun prog w E Q h => by
  obtain ⟨cls, dd, data, sl⟩ := o
  simp only at hc hd
  subst hc hd
  exact rc_eq_decline_or (k := false) ⟨_, ho, rfl⟩ (typeIs_str s b u) (by decide) F.sub_str_dict F.slot_dict_eq F.slot_str_eq_refl
    (fun _ hq => call_meets F.slot_dict_eq ⟨_, ho, rfl⟩ F.entry_dict_eq (F.args_dict_eq_2 _ _) (dict_eq_declines_str l es ep dd sl b u) ⟨ho, hq⟩)
    (fun _ hq => call_meets F.slot_str_eq_refl (typeIs_str s b u) F.entry_str_eq (F.args_str_eq_2 _ _) (str_eq_declines_dict b u l (.type "dict") es ep dd sl) ⟨ho, hq⟩)
    (fun _ hq => wpAny_of_eq (rfl : isSame (.ref l) (.str b u) = pure false) hq) (.inr hu) h
theorem RcAt.str_dict {l : Addr} {o : Obj} {es : Array DictEntry} {ep : Nat} (b : Str) (u : Tok) (ho : s.heap.get? l = some o) (hc : o.cls = .type "dict") (hd : o.data = .dict es ep) (hu : A.units < cLine) : RcAt A s (.str b u) (.ref l) false := fun prog w E Q h => by
  obtain ⟨cls, dd, data, sl⟩ := o
  simp only at hc hd
  subst hc hd
  exact rc_eq_decline_or (k := false) (typeIs_str s b u) ⟨_, ho, rfl⟩ (by decide) F.sub_dict_str F.slot_str_eq F.slot_dict_eq_refl
    (fun _ hq => call_meets F.slot_str_eq (typeIs_str s b u) F.entry_str_eq (F.args_str_eq_2 _ _) (str_eq_declines_dict b u l (.type "dict") es ep dd sl) ⟨ho, hq⟩)
    (fun _ hq => call_meets F.slot_dict_eq_refl ⟨_, ho, rfl⟩ F.entry_dict_eq (F.args_dict_eq_2 _ _) (dict_eq_declines_str l es ep dd sl b u) ⟨ho, hq⟩)
    (fun _ hq => wpAny_of_eq (rfl : isSame (.str b u) (.ref l) = pure false) hq) (.inr hu) h
theorem EqAt.str_dict {l : Addr} {o : Obj} {es : Array DictEntry} {ep : Nat} (b : Str) (u : Tok) (ho : s.heap.get? l = some o) (hc : o.cls = .type "dict") (hd : o.data = .dict es ep) (hu : A.units < cLine) : EqAt A s (.str b u) (.ref l) false := fun prog w E Q h => by
  unfold eqBool
  refine wpAny_holding ?_
  refine wpAny_ite_split (fun hab => absurd (eq_of_beq hab) nofun) (fun _ => ?_)
  exact wpAny_bind (RcAt.str_dict b u ho hc hd hu prog w E _ (wpAny_truthy_bool h))
theorem int___gt___bool_int_0 (a : Bool) (b : Int) (u : Tok) : Gives (Builtin.«int.__gt__» ⟨[.bool a, .int b u], []⟩) (.val (Value.bool (decide ((if a = true then (1 : Int) else 0) > b)))) :=
  .of_wp fun M A E s Q h => by obtain ⟨hp, g, d, tk, os⟩ := s; wp_walk; exact ⟨_, rfl, h⟩
theorem gt_bool_int {prog : Program} {w : World} {a : Bool} {b : Int} {u : Tok} {Q : Value → Shared → Prop} (h : Q (.bool (decide ((if a = true then (1 : Int) else 0) > b))) s) : wpAny (model prog w) A (compareOp .Gt (.bool a) (.int b u)) Q E s :=
  rc_left_or (op := .Gt) rfl (typeIs_int s b u) (by decide) F.sub_int_bool F.slot_bool_gt
    (call_gives F.slot_bool_gt rfl F.entry_int_gt (F.args_int_gt_2 _ _) (int___gt___bool_int_0 a b u) ⟨nofun, h⟩) (.inl rfl)
end
end PySem.SeqAt
namespace Deed
open PySem PySem.Spec PyProof.Rows L2
/-! ### things of whatever kind -/
inductive Knd (H : Hp) : V → Prop
  | non : Knd H .non
  | bl (b : Bool) : Knd H (.bl b)
  | int (i : Int) : Knd H (.int i)
  | str (x : Str) : Knd H (.str x)
  | lst {a : Addr} {xs : List V} : H a = some (.lst xs) → Knd H (.ref a)
  | tup {a : Addr} {xs : List V} : H a = some (.tup xs) → Knd H (.ref a)
  | dct {a : Addr} {kvs : List (Key × V)} : H a = some (.dK kvs) → Knd H (.ref a)
section
variable {X : Cx}
/-- thing == text -/
def rEqTS : R2 := fun x y H Q => ∃ z, y = .str z ∧ Knd H x ∧ Q (.bl (decide (x = .str z))) H
theorem dct_at {pins : List (Addr × Obj)} {σ : L2.St} {H : Hp} {s : Shared} (I : Inv X pins σ H s) {a : Addr} {kvs : List (Key × V)} (e : H a = some (.dK kvs)) : ∃ (o : Obj) (es : Array DictEntry) (ep : Nat), s.heap.get? a = some o ∧ o.cls = .type "dict" ∧ o.data = .dict es ep := by
  obtain ⟨_, _, vs, _, o, es, ep, ho, hx, hd, _⟩ := I.hok a _ e
  exact ⟨o, es, ep, ho, hx.1, hd⟩
theorem op_eqTS (hu : X.A.units + 64 < cLine) : OpR X (compareOp .Eq) rEqTS := by
  intro pins s σ H x y v u Q I rx ry h
  obtain ⟨z, rfl, hk, q⟩ := h
  have hu' : X.A.units < cLine := by omega
  obtain ⟨t', rfl⟩ := ry
  cases hk with
  | non => cases rx; exact SeqAt.RcAt.none_str z t' X.prog X.w _ _ ⟨.bl false, H, I, rfl, q⟩
  | bl b => cases rx; exact SeqAt.RcAt.bool_str b z t' X.prog X.w _ _ ⟨.bl false, H, I, rfl, q⟩
  | int i => obtain ⟨t, rfl⟩ := rx; exact SeqAt.RcAt.int_str i t z t' X.prog X.w _ _ ⟨.bl false, H, I, rfl, q⟩
  | str i =>
    exact op_eq pins s σ H _ (.str z) _ _ Q I rx ⟨t', rfl⟩ ⟨rfl, q⟩
  | lst e =>
    cases rx
    obtain ⟨its, r, pl, hz⟩ := I.list (SqL.of (K := X.K) e)
    exact SeqAt.RcAt.list_str z t' pl.isList hu' X.prog X.w _ _ ⟨.bl false, H, I, rfl, q⟩
  | tup e =>
    cases rx
    obtain ⟨its, r, pl, hz⟩ := I.tuple (SqT.of (K := X.K) e)
    exact SeqAt.RcAt.tuple_str z t' pl hu' X.prog X.w _ _ ⟨.bl false, H, I, rfl, q⟩
  | dct e =>
    cases rx
    obtain ⟨o, es, ep, ho, hc, hd⟩ := dct_at I e
    exact SeqAt.RcAt.dict_str z t' ho hc hd hu' X.prog X.w _ _ ⟨.bl false, H, I, rfl, q⟩
/-- thing in, or not in, a list or tuple of texts -/
def rInTS (K : PySem.W.Frag) (neg : Bool) : R2 := fun x y H Q => ∃ (p : Addr) (ws : List Str), y = .ref p ∧ (SqL K H p (ws.map V.str) ∨ SqT K H p (ws.map V.str)) ∧ Knd H x ∧ Q (.bl (if neg then !decide (x ∈ ws.map V.str) else decide (x ∈ ws.map V.str))) H
def eqTS (x : V) : Value → Bool
  | .str z _ => decide (x = .str z)
  | _ => false
theorem eqTS_at {pins : List (Addr × Obj)} {σ : L2.St} {H : Hp} {s : Shared} {A : Around} (I : Inv X pins σ H s) (hu : A.units < cLine) {x : V} {v : Value} (rx : RelV x v) (hk : Knd H x) {ws : List Str} {its : List Value} (r : Vals (ws.map V.str) its) : ∀ y ∈ its, SeqAt.EqAt A s y v (eqTS x y) := by
  intro y hy
  have hs : ∃ z t, y = .str z t := by
    clear hk rx
    induction its generalizing ws with
    | nil => cases hy
    | cons a r' ih =>
      cases ws with
      | nil => cases r
      | cons z zs =>
        cases r with
        | cons h1 h2 =>
          rcases List.mem_cons.mp hy with rfl | hy
          · obtain ⟨t, rfl⟩ := h1
            exact ⟨z, t, rfl⟩
          · exact ih h2 hy
  obtain ⟨z, t, rfl⟩ := hs
  cases hk with
  | non => cases rx; exact SeqAt.EqAt.str_none z t
  | bl b => cases rx; exact SeqAt.EqAt.str_bool z t b
  | int i => obtain ⟨t', rfl⟩ := rx; exact SeqAt.EqAt.str_int z t i t'
  | str i =>
    obtain ⟨t', rfl⟩ := rx
    have := SeqAt.EqAt.str_str (A := A) (s := s) z t i t'
    rw [show eqTS (.str i) (.str z t) = (z == i) from ?_]
    · exact this
    · show decide (V.str i = V.str z) = (z == i)
      by_cases e : i = z
      · subst e
        simp
      · rw [decide_eq_false (fun q => e (by injection q))]
        exact (beq_eq_false_iff_ne.mpr fun q => e q.symm).symm
  | lst e =>
    cases rx
    obtain ⟨its, r, pl, hz⟩ := I.list (SqL.of (K := X.K) e)
    exact SeqAt.EqAt.str_list z t pl.isList hu
  | tup e =>
    cases rx
    obtain ⟨its, r, pl, hz⟩ := I.tuple (SqT.of (K := X.K) e)
    exact SeqAt.EqAt.str_tuple z t pl hu
  | dct e =>
    cases rx
    obtain ⟨o, es, ep, ho, hc, hd⟩ := dct_at I e
    exact SeqAt.EqAt.str_dict z t ho hc hd hu
theorem any_eqTS {x : V} : ∀ {ws : List Str} {its : List Value}, Vals (ws.map V.str) its → its.any (eqTS x) = decide (x ∈ ws.map V.str)
  | [], _, r => by
    cases r
    simp
  | z :: zs, _, r => by
    cases r with
    | cons h1 h2 =>
      obtain ⟨t, rfl⟩ := h1
      rw [List.any_cons, any_eqTS h2, List.map_cons]
      show (decide (x = .str z) || _) = _
      rw [← Bool.decide_or]
      simp only [List.mem_cons]
theorem op_inTS (hu : X.A.units + 64 < cLine) : OpR X (compareOp .In) (rInTS X.K false) := by
  intro pins s σ H x y v u Q I rx ry h
  obtain ⟨p, ws, rfl, hq, hk, q⟩ := h
  cases ry
  have hu' : X.A.in1.units < cLine := by show X.A.units + 1 < cLine; omega
  rcases hq with hq | hq
  · obtain ⟨its, r, pl, hz⟩ := I.list hq
    refine SeqAt.in_listAt (eqTS x) pl.isList (fun w hw => eqTS_at I hu' rx hk r w (by simpa using hw)) ⟨.bl _, H, I, rfl, ?_⟩
    rw [show its.toArray.any (eqTS x) = its.any (eqTS x) by simp, any_eqTS r]
    exact q
  · obtain ⟨its, r, pl, hz⟩ := I.tuple hq
    refine SeqAt.in_tupleAt (eqTS x) pl (fun w hw => eqTS_at I hu' rx hk r w (by simpa using hw)) ⟨.bl _, H, I, rfl, ?_⟩
    rw [show its.toArray.any (eqTS x) = its.any (eqTS x) by simp, any_eqTS r]
    exact q
theorem op_notInTS (hu : X.A.units + 64 < cLine) : OpR X (compareOp .NotIn) (rInTS X.K true) := by
  intro pins s σ H x y v u Q I rx ry h
  obtain ⟨p, ws, rfl, hq, hk, q⟩ := h
  cases ry
  have hu' : X.A.in1.units < cLine := by show X.A.units + 1 < cLine; omega
  rcases hq with hq | hq
  · obtain ⟨its, r, pl, hz⟩ := I.list hq
    refine SeqAt.notIn_listAt (eqTS x) pl.isList (fun w hw => eqTS_at I hu' rx hk r w (by simpa using hw)) ⟨.bl _, H, I, rfl, ?_⟩
    rw [show its.toArray.any (eqTS x) = its.any (eqTS x) by simp, any_eqTS r]
    exact q
  · obtain ⟨its, r, pl, hz⟩ := I.tuple hq
    refine SeqAt.notIn_tupleAt (eqTS x) pl (fun w hw => eqTS_at I hu' rx hk r w (by simpa using hw)) ⟨.bl _, H, I, rfl, ?_⟩
    rw [show its.toArray.any (eqTS x) = its.any (eqTS x) by simp, any_eqTS r]
    exact q
/-- tuple != () -/
def rNeTE (K : PySem.W.Frag) : R2 := fun x y H Q => ∃ a b xs, x = .ref a ∧ y = .ref b ∧ SqT K H a xs ∧ SqT K H b [] ∧ Q (.bl (!xs.isEmpty)) H
theorem op_neTE (hu : X.A.units + 64 < cLine) : OpR X (compareOp .NotEq) (rNeTE X.K) := by
  intro pins s σ H x y v u Q I rx ry h
  obtain ⟨a, b, xs, rfl, rfl, ha, hb, q⟩ := h
  cases rx
  cases ry
  obtain ⟨its, r, pl, hz⟩ := I.tuple ha
  obtain ⟨its2, r2, pl2, hz2⟩ := I.tuple hb
  cases r2
  have hl := r.length
  refine SeqAt.RcNeAt.tuples (e := fun _ => true) pl pl2 (by omega) (fun j h1 h2 => absurd h2 (by simp)) X.prog X.w _ _ ⟨.bl _, H, I, rfl, ?_⟩
  have e : (!((List.range (min its.toArray.size ([] : List Value).toArray.size)).all (fun _ => true) && its.toArray.size == ([] : List Value).toArray.size)) = !xs.isEmpty := by
    cases xs with
    | nil =>
      have : its = [] := List.eq_nil_of_length_eq_zero (by rw [← hl]; rfl)
      subst this
      rfl
    | cons x xs =>
      cases its with
      | nil => simp at hl
      | cons i is => simp
  rw [e]
  exact q
/-- thing + number, thing - number, thing > number, of numbers and truths -/
def b2n (b : Bool) : Int := if b = true then 1 else 0
def numOf : V → Option Int
  | .int i => some i
  | .bl b => some (b2n b)
  | _ => none
theorem op_addTI : OpR X (binaryOp .Add) (fun x y H Q => ∃ i j, numOf x = some i ∧ y = .int j ∧ Q (.int (i + j)) H) := by
  intro pins s σ H x y v u Q I rx ry h
  obtain ⟨i, j, hx, rfl, q⟩ := h
  obtain ⟨t', rfl⟩ := ry
  cases x with
  | int k =>
    obtain ⟨t, rfl⟩ := rx
    injection hx with hx
    subst hx
    exact add_int ⟨.int _, H, I.tok _, ⟨_, rfl⟩, q⟩
  | bl k =>
    cases rx
    injection hx with hx
    subst hx
    exact PySem.IntBool.add_bool_int ⟨.int _, H, I.tok _, ⟨_, rfl⟩, q⟩
  | _ => cases hx
theorem op_subTI : OpR X (binaryOp .Sub) (fun x y H Q => ∃ i j, numOf x = some i ∧ y = .int j ∧ Q (.int (i - j)) H) := by
  intro pins s σ H x y v u Q I rx ry h
  obtain ⟨i, j, hx, rfl, q⟩ := h
  obtain ⟨t', rfl⟩ := ry
  cases x with
  | int k =>
    obtain ⟨t, rfl⟩ := rx
    injection hx with hx
    subst hx
    exact sub_int ⟨.int _, H, I.tok _, ⟨_, rfl⟩, q⟩
  | bl k =>
    cases rx
    injection hx with hx
    subst hx
    exact PySem.IntBool.sub_bool_int ⟨.int _, H, I.tok _, ⟨_, rfl⟩, q⟩
  | _ => cases hx
theorem op_gtTI : OpR X (compareOp .Gt) (fun x y H Q => ∃ i j, numOf x = some i ∧ y = .int j ∧ Q (.bl (decide (i > j))) H) := by
  intro pins s σ H x y v u Q I rx ry h
  obtain ⟨i, j, hx, rfl, q⟩ := h
  cases x with
  | int k =>
    injection hx with hx
    subst hx
    exact op_gt pins s σ H _ _ _ _ Q I rx ry ⟨_, _, rfl, rfl, q⟩
  | bl k =>
    obtain ⟨t', rfl⟩ := ry
    cases rx
    injection hx with hx
    subst hx
    exact SeqAt.gt_bool_int ⟨.bl _, H, I, rfl, q⟩
  | _ => cases hx
theorem str_of_bool {prog : Program} {w : World} {A : Around} {E : Value → Shared → Prop} {s : Shared} {b : Bool} {Q : Value → Shared → Prop} (h : Q (.str (if b then "True" else "False") s.toks) { s with toks := s.toks + 1 }) : wpAny (model prog w) A (call (.type "str") [.bool b]) Q E s :=
  callType_new F.called_str (by decide) (F.typeCall_str_1 _) (F.newCall_str_1 _) (fun obj => F.args_object_init_2 obj _) F.entry_str_new
    (meets_str_new (S := fun _ R s => R (.ok (.ret (.str (if b then "True" else "False") s.toks))) { s with toks := s.toks + 1 }) fun _ _ _ _ s hq =>
      wpAny_strOf_gives rfl (PySem.typeIs_bool s b) F.slot_bool_str F.slot_bool_repr F.entry_bool_repr (F.args_bool_repr_1 _) (gives_bool_repr b) hq (hsz := by cases b <;> decide)) ⟨typeIs_str _ _ _, h⟩
def strTI : V → Int → Str
  | .bl b, _ => if b then "True" else "False"
  | _, i => toString i
/-- str(thing) of a number or a truth: some text -/
theorem call_strTI : CallR X (.type "str") (fun xs H Q => ∃ x i, xs = [x] ∧ numOf x = some i ∧ i.natAbs.log2 < 1920 ∧ Q (.str (strTI x i)) H) := by
  intro pins s σ H xs us Q I r h
  obtain ⟨x, i, rfl, hx, hz, q⟩ := h
  obtain ⟨u, rfl, rx⟩ := vals1 r
  cases x with
  | int k =>
    obtain ⟨t, rfl⟩ := rx
    injection hx with hx
    subst hx
    exact PySem.P.str_of_int hz ⟨.str _, H, I.tok _, ⟨_, rfl⟩, q⟩
  | bl k =>
    cases rx
    exact str_of_bool ⟨.str _, H, I.tok _, ⟨_, rfl⟩, q⟩
  | _ => cases hx
end
end Deed

namespace Deed
open PySem PySem.Spec PyProof.Rows L2
/-! ### t[::-1] of a tuple -/
theorem fm_congr {α β : Type} {f g : α → Option β} : ∀ {l : List α}, (∀ x ∈ l, f x = g x) → l.filterMap f = l.filterMap g
  | [], _ => rfl
  | a :: l, h => by rw [List.filterMap_cons, List.filterMap_cons, h a List.mem_cons_self, fm_congr fun x hx => h x (List.mem_cons_of_mem _ hx)]
section
variable {prog : Program} {w : World} {A : Around} {E : Value → Shared → Prop} {s : Shared}
theorem revPick (xs : Array Value) : ((List.range xs.size).filterMap fun (m : Nat) => xs[(((xs.size : Int) - 1) + (m : Int) * (-1)).toNat]?).toArray = xs.toList.reverse.toArray := by
  rw [← PySem.W.krv_pick]
  unfold slicePick
  rw [PySem.W.krv_bounds]
  show _ = ((sliceRange ((xs.size : Int) - 1) (-1) (-1)).filterMap (xs[·]?)).toArray
  rw [PySem.W.krv_sliceRange, List.filterMap_map]
  congr 1
  refine fm_congr fun m hm => ?_
  have := List.mem_range.mp hm
  show xs[(((xs.size : Int) - 1) + (m : Int) * (-1)).toNat]? = xs[xs.size - 1 - m]?
  congr 1
  omega
theorem sliceApplied_rev {sl : Addr} {vs : Value} {n : Nat} {Q : Int × Int × Nat → Shared → Prop} (hs : s.heap.IsSliceOf sl .none .none vs) (ps : IsPart vs (some (-1)))
    (h : Q ((n : Int) - 1, -1, n) s) : wpAny (model prog w) A (Builtin.Slice.sliceApplied (.ref sl) (pure (n : Int))) Q E s := by
  obtain ⟨os, hos, hcs, hds⟩ := id hs
  unfold Builtin.Slice.sliceApplied Builtin.Slice.sliceFields
  refine wpAny_bind (wpAny_bind (wpAny_field hos hds (x := .none) rfl (wpAny_bind (wpAny_field hos hds (x := .none) rfl (wpAny_bind (wpAny_field hos hds (x := vs) rfl (wpAny_pure ?_)))))))
  refine wpAny_bind (HT.slicePart_ ps ?_)
  show wpAny _ _ (if ((-1 : Int) == 0) = true then _ else _) _ _ s
  rw [if_neg (by decide)]
  refine wpAny_bind (HT.slicePart_ .none (wpAny_bind (HT.slicePart_ .none (wpAny_bind (wpAny_pure ?_)))))
  show wpAny _ _ (match Builtin.Slice.sliceAdjust none none (-1) (n : Int) with | (lo, hi) => pure (lo, (-1 : Int), Builtin.Slice.slicePlaces lo hi (-1))) _ _ s
  have e : Builtin.Slice.sliceAdjust none none (-1) (n : Int) = ((n : Int) - 1, -1) := by
    unfold Builtin.Slice.sliceAdjust
    simp
  rw [e]
  show wpAny _ _ (pure ((n : Int) - 1, (-1 : Int), Builtin.Slice.slicePlaces ((n : Int) - 1) (-1) (-1))) _ _ s
  have e2 : Builtin.Slice.slicePlaces ((n : Int) - 1) (-1) (-1) = n := by
    unfold Builtin.Slice.slicePlaces
    simp
    omega
  rw [e2]
  exact wpAny_pure h
theorem getItem_tuple_rev {t sl : Addr} {items : Array Value} {vs : Value} {Q : Value → Shared → Prop} (ht : IsTup s.heap t items) (hs : s.heap.IsSliceOf sl .none .none vs) (ps : IsPart vs (some (-1)))
    (h : Q (.ref s.heap.objs.size) { s with heap := s.heap.push { cls := .type "tuple", data := .seq items.toList.reverse.toArray } })
    (hsz : items.size ≤ sizeLine) : wpAny (model prog w) A (getItem (.ref t) (.ref sl)) Q E s := by
  have htake : sizeOk (.seq items.toList.reverse.toArray) := by
    show items.toList.reverse.toArray.size ≤ sizeLine
    rw [List.size_toArray, List.length_reverse, Array.length_toList]
    omega
  obtain ⟨os, hos, hcs, hds⟩ := id hs
  have hTs : s.TypeIs (.ref sl) "slice" := ⟨os, hos, hcs⟩
  unfold getItem
  try with_reducible refine wpAny_holding ?_
  first | refine wpAny_bind (wpAny_pure ?_) | skip
  refine wpAny_bind (wpAny_sequenceKey ht.typeIs (by decide) ?_)
  refine wpAny_bind (wpAny_callSpecial?_slot (name := Str.ofString "__getitem__") ht.typeIs PyProof.Rows.slot_tuple_getitem
    (wpAny_call_entry PyProof.Rows.slot_tuple_getitem ht.typeIs entry_tuple_getitem ?_ (args_tuple_getitem _ _)))
  show wpAny _ _ (Builtin.Tuple.tupleItemsOf (.ref t) >>= _) _ _ s
  refine wpAny_bind (tupleItemsOf_ ht ?_)
  refine wpAny_bind (wpAny_typeOf hTs ?_)
  rw [if_pos (by decide)]
  refine wpAny_bind (sliceApplied_rev hs ps ?_)
  have hno : ¬ ((((items.size : Int) - 1) == 0 && (-1 : Int) == 1 && items.size == items.size) = true) := by
    intro q
    rw [Bool.and_eq_true, Bool.and_eq_true] at q
    exact absurd q.1.2 (by decide)
  show wpAny _ _ (if (((items.size : Int) - 1) == 0 && (-1 : Int) == 1 && items.size == items.size) = true then _ else _) _ _ s
  rw [if_neg hno, revPick]
  first
    | exact wpAny_bind (m := Builtin.Tuple.tupleExact _) (wpAny_newObj_type (wpAny_pure ⟨_, rfl, wpAny_pure h⟩) htake)
    | exact wpAny_bind (m := Builtin.Tuple.tupleExact _) (wpAny_newObj_type (wpAny_bind (wpAny_pure (wpAny_pure ⟨_, rfl, wpAny_pure h⟩))) htake)
    | exact wpAny_bind (wpAny_bind (m := Builtin.Tuple.tupleExact _) (wpAny_newObj_type (wpAny_pure (wpAny_pure ⟨_, rfl, wpAny_pure h⟩)) htake))
    | exact wpAny_bind (wpAny_bind (m := Builtin.Tuple.tupleExact _) (wpAny_newObj_type (wpAny_pure ⟨_, rfl, wpAny_pure h⟩) htake))
end
section
variable {X : Cx}
def tRevT (K : PySem.W.Frag) (te : TE) : TE := fun σ H Q => te σ H fun x H1 => ∃ a xs, x = .ref a ∧ SqT K H1 a xs ∧ ∀ p, H1 p = none → Q (.ref p) (upd H1 p (.tup xs.reverse))
theorem pe_revT {e : Expr} {te : TE} {k : Nat} {p1 p2 p3 pos : Pos} (he : PE X e te) : PE X (.Subscript e (.Slice none none (some (.UnaryOp .USub (.Constant (.int 1) k p1) p2)) p3) pos) (tRevT X.K te) := by
  refine ⟨fun pins s σ H Q I h => ?_⟩
  refine Subscript_ (thn (he.run pins s σ H _ I h) fun v s1 ⟨x, H1, I1, r1, q1⟩ => ?_)
  obtain ⟨a, xs, ex, hx, q⟩ := q1
  subst ex
  cases r1
  have hst : PO X (some (.UnaryOp .USub (.Constant (.int 1) k p1) p2)) (tPart (tUn (rU fun i => .int (-i)) (tC (.int 1)))) := po_some (pe_un un_neg pe_int)
  refine wpAny_Slice (thn (po_none.run pins s1 σ H1 (fun o H2 => o = none ∧ H2 = H1) I1 ⟨rfl, rfl⟩) fun vl s2 ⟨l, H2, I2, pl, el, e2⟩ => ?_)
  subst el e2
  refine thn (po_none.run pins s2 σ H2 (fun o H3 => o = none ∧ H3 = H2) I2 ⟨rfl, rfl⟩) fun vu s3 ⟨u, H3, I3, pu, eu, e3⟩ => ?_
  subst eu e3
  refine thn (hst.run pins s3 σ H3 (fun o H4 => o = some (-1) ∧ H4 = H3) I3 ⟨1, rfl, -1, rfl, rfl, rfl⟩) fun vs s4 ⟨o, H4, I4, ps, eo, e4⟩ => ?_
  subst eo e4
  have I5 : Inv X pins σ H4 { s4 with heap := s4.heap.push { cls := .type "slice", data := .fields #[vl, vu, vs] } } := I4.kept (t' := s4.toks) fun b ob q => Heap.get?_push_of_some _ q
  obtain ⟨its, r, ht, hz⟩ := I5.tuple hx
  have hlen := r.length
  cases pl
  cases pu
  show wpAny (model X.prog X.w) X.A (subscriptTail e (.Slice none none (some (.UnaryOp .USub (.Constant (.int 1) k p1) p2)) p3) (.ref a) (.ref s4.heap.objs.size)) (EP X pins σ Q) X.xe { s4 with heap := s4.heap.push { cls := .type "slice", data := .fields #[.none, .none, vs] } }
  refine tail_any (ops := [.ref a, .ref s4.heap.objs.size]) ht.typeIs (PyProof.Rows.slot_tuple_getitem.lookup) ?_ (by with_unfolding_all rfl)
  refine getItem_tuple_rev ht (Heap.IsSliceOf.new _ .none .none vs) ps ?_ (by rw [List.size_toArray]; omega)
  refine ⟨.ref _, _, I5.laid (t' := s4.toks) (o := .tup xs.reverse) (fun b ob q => Heap.get?_push_of_some _ q) (Nat.le_refl _) ?_, rfl, q _ (I5.hok.fresh (Nat.le_refl _))⟩
  exact ⟨by rw [List.length_reverse]; exact hz, its.reverse, r.reverse, IsTup.new _ _⟩
end
end Deed

namespace Deed
open PySem PySem.Spec PyProof.Rows L2 LamX
/-! ### a thing of whatever kind, as data -/
theorem Kp.noneG {p q : Addr} {H H' : Hp} (k : Kp p H H') (n : q ≠ p) (h : H' q = none) : H q = none := by
  cases e : H q with
  | none => rfl
  | some o => rw [k _ _ n e] at h; cases h
inductive Tg where
  | non | bl (b : Bool) | int (i : Int) | str (x : Str) | lst | tup (ts : List Tg) | dct
mutual
inductive TgAt (p : Addr) (H : Hp) : V → Tg → Prop
  | non : TgAt p H .non .non
  | bl (b : Bool) : TgAt p H (.bl b) (.bl b)
  | int (i : Int) : TgAt p H (.int i) (.int i)
  | str (x : Str) : TgAt p H (.str x) (.str x)
  | lst {a : Addr} {xs : List V} : a ≠ p → H a = some (.lst xs) → TgAt p H (.ref a) .lst
  | tup {a : Addr} {xs : List V} {ts : List Tg} : H a = some (.tup xs) → TgAll p H xs ts → TgAt p H (.ref a) (.tup ts)
  | dct {a : Addr} {kvs : List (Key × V)} : a ≠ p → H a = some (.dK kvs) → TgAt p H (.ref a) .dct
inductive TgAll (p : Addr) (H : Hp) : List V → List Tg → Prop
  | nil : TgAll p H [] []
  | cons {v : V} {vs : List V} {t : Tg} {ts : List Tg} : TgAt p H v t → TgAll p H vs ts → TgAll p H (v :: vs) (t :: ts)
end
section
variable {p : Addr} {H H' : Hp} {K : PySem.W.Frag}
mutual
theorem TgAt.kp (k : Kp p H H') (P : PenAt H p) : ∀ (t : Tg) (v : V), TgAt p H v t → TgAt p H' v t
  | .non, _, h => by cases h; exact .non
  | .bl _, _, h => by cases h; exact .bl _
  | .int _, _, h => by cases h; exact .int _
  | .str _, _, h => by cases h; exact .str _
  | .lst, _, h => by
    cases h with
    | lst n e => exact .lst n (k _ _ n e)
  | .tup ts, _, h => by
    cases h with
    | tup e ha => exact .tup (k.tup P _ _ e) (TgAll.kp k P ts _ ha)
  | .dct, _, h => by
    cases h with
    | dct n e => exact .dct n (k _ _ n e)
theorem TgAll.kp (k : Kp p H H') (P : PenAt H p) : ∀ (ts : List Tg) (vs : List V), TgAll p H vs ts → TgAll p H' vs ts
  | [], _, h => by cases h; exact .nil
  | t :: ts, _, h => by
    cases h with
    | cons h1 h2 => exact .cons (TgAt.kp k P t _ h1) (TgAll.kp k P ts _ h2)
end
mutual
theorem TgAt.same (k : Same H H') : ∀ (t : Tg) (v : V), TgAt p H v t → TgAt p H' v t
  | .non, _, h => by cases h; exact .non
  | .bl _, _, h => by cases h; exact .bl _
  | .int _, _, h => by cases h; exact .int _
  | .str _, _, h => by cases h; exact .str _
  | .lst, _, h => by
    cases h with
    | lst n e => exact .lst n (k _ _ e)
  | .tup ts, _, h => by
    cases h with
    | tup e ha => exact .tup (k _ _ e) (TgAll.same k ts _ ha)
  | .dct, _, h => by
    cases h with
    | dct n e => exact .dct n (k _ _ e)
theorem TgAll.same (k : Same H H') : ∀ (ts : List Tg) (vs : List V), TgAll p H vs ts → TgAll p H' vs ts
  | [], _, h => by cases h; exact .nil
  | t :: ts, _, h => by
    cases h with
    | cons h1 h2 => exact .cons (TgAt.same k t _ h1) (TgAll.same k ts _ h2)
end
mutual
/-- a list that changes stays a list -/
theorem TgAt.relist {M : Addr} {xs ys : List V} (e : H M = some (.lst xs)) : ∀ (t : Tg) (v : V), TgAt p H v t → TgAt p (upd H M (.lst ys)) v t
  | .non, _, h => by cases h; exact .non
  | .bl _, _, h => by cases h; exact .bl _
  | .int _, _, h => by cases h; exact .int _
  | .str _, _, h => by cases h; exact .str _
  | .lst, _, h => by
    cases h with
    | @lst a zs n e' =>
      by_cases ha : a = M
      · subst ha
        exact .lst n upd_same
      · exact .lst n (by rw [upd_ne ha]; exact e')
  | .tup ts, _, h => by
    cases h with
    | tup e' ha => exact .tup (by rw [upd_ne fun z => by rw [z, e] at e'; cases e']; exact e') (TgAll.relist e ts _ ha)
  | .dct, _, h => by
    cases h with
    | dct n e' => exact .dct n (by rw [upd_ne fun z => by rw [z, e] at e'; cases e']; exact e')
theorem TgAll.relist {M : Addr} {xs ys : List V} (e : H M = some (.lst xs)) : ∀ (ts : List Tg) (vs : List V), TgAll p H vs ts → TgAll p (upd H M (.lst ys)) vs ts
  | [], _, h => by cases h; exact .nil
  | t :: ts, _, h => by
    cases h with
    | cons h1 h2 => exact .cons (TgAt.relist e t _ h1) (TgAll.relist e ts _ h2)
end
theorem TgAll.length : ∀ {vs : List V} {ts : List Tg}, TgAll p H vs ts → vs.length = ts.length
  | _, [], h => by cases h; rfl
  | _, t :: ts, h => by
    cases h with
    | cons h1 h2 => rw [List.length_cons, List.length_cons, TgAll.length h2]
theorem TgAll.get : ∀ {vs : List V} {ts : List Tg} {i : Nat} {v : V}, TgAll p H vs ts → vs[i]? = some v → ∃ t, ts[i]? = some t ∧ TgAt p H v t
  | _, [], i, v, h, e => by
    cases h
    cases e
  | _, t :: ts, i, v, h, e => by
    cases h with
    | cons h1 h2 =>
      cases i with
      | zero =>
        injection e with e
        subst e
        exact ⟨t, rfl, h1⟩
      | succ i => exact TgAll.get (i := i) h2 (by simpa using e)
theorem TgAll.append : ∀ {vs : List V} {ts : List Tg} {vs' : List V} {ts' : List Tg}, TgAll p H vs ts → TgAll p H vs' ts' → TgAll p H (vs ++ vs') (ts ++ ts')
  | _, [], _, _, h, h' => by
    cases h
    exact h'
  | _, t :: ts, _, _, h, h' => by
    cases h with
    | cons h1 h2 => exact .cons h1 (TgAll.append h2 h')
theorem TgAll.take : ∀ {vs : List V} {ts : List Tg} (n : Nat), TgAll p H vs ts → TgAll p H (vs.take n) (ts.take n)
  | _, _, 0, _ => .nil
  | _, [], n + 1, h => by
    cases h
    exact .nil
  | _, t :: ts, n + 1, h => by
    cases h with
    | cons h1 h2 => exact .cons h1 (TgAll.take n h2)
theorem TgAll.drop : ∀ {vs : List V} {ts : List Tg} (n : Nat), TgAll p H vs ts → TgAll p H (vs.drop n) (ts.drop n)
  | _, _, 0, h => h
  | _, [], n + 1, h => by
    cases h
    exact .nil
  | _, t :: ts, n + 1, h => by
    cases h with
    | cons h1 h2 => exact TgAll.drop n h2
theorem TgAll.reverse : ∀ {vs : List V} {ts : List Tg}, TgAll p H vs ts → TgAll p H vs.reverse ts.reverse
  | _, [], h => by
    cases h
    exact .nil
  | _, t :: ts, h => by
    cases h with
    | cons h1 h2 =>
      rw [List.reverse_cons, List.reverse_cons]
      exact (TgAll.reverse h2).append (.cons h1 .nil)
theorem TgAll.cut {vs : List V} {ts : List Tg} (h : TgAll p H vs ts) (lo hi : Option Int) : ∃ ts', TgAll p H (cutV vs lo hi) ts' := ⟨_, (h.drop _).take _⟩
theorem TgAll.rep {vs : List V} {ts : List Tg} (h : TgAll p H vs ts) : ∀ k : Nat, TgAll p H (List.replicate k vs).flatten (List.replicate k ts).flatten
  | 0 => .nil
  | k + 1 => by
    rw [List.replicate_succ, List.replicate_succ, List.flatten_cons, List.flatten_cons]
    exact h.append (h.rep k)
theorem TgAll.ints : ∀ ns : List Int, TgAll p H (ns.map V.int) (ns.map Tg.int)
  | [] => .nil
  | n :: r => .cons (.int n) (TgAll.ints r)
theorem TgAll.mk {vs : List V} (h : ∀ v ∈ vs, ∃ t, TgAt p H v t) : ∃ ts, TgAll p H vs ts := by
  induction vs with
  | nil => exact ⟨[], .nil⟩
  | cons v r ih =>
    obtain ⟨t, ht⟩ := h v List.mem_cons_self
    obtain ⟨ts, hts⟩ := ih fun x hx => h x (List.mem_cons_of_mem _ hx)
    exact ⟨t :: ts, .cons ht hts⟩
theorem TgAll.mem {vs : List V} {ts : List Tg} (h : TgAll p H vs ts) {v : V} (hv : v ∈ vs) : ∃ t, t ∈ ts ∧ TgAt p H v t := by
  obtain ⟨i, hi, e⟩ := List.mem_iff_getElem.mp hv
  obtain ⟨t, ht, hat⟩ := h.get (i := i) (by rw [List.getElem?_eq_getElem hi, e])
  exact ⟨t, List.mem_of_getElem? ht, hat⟩
theorem TgAt.knd {v : V} {t : Tg} (h : TgAt p H v t) : Knd H v := by
  cases h with
  | non => exact .non
  | bl b => exact .bl b
  | int i => exact .int i
  | str x => exact .str x
  | lst _ e => exact .lst e
  | tup e _ => exact .tup e
  | dct _ e => exact .dct e
def Tg.ty : Tg → String
  | .non => "NoneType" | .bl _ => "bool" | .int _ => "int" | .str _ => "str" | .lst => "list" | .tup _ => "tuple" | .dct => "dict"
theorem TgAt.ty {v : V} {t : Tg} (h : TgAt p H v t) : TyX K H v (.type t.ty) := by
  cases h with
  | non => exact .base .non
  | bl b => exact .base (.bl b)
  | int i => exact .base (.int i)
  | str x => exact .base (.str x)
  | lst _ e => exact .base (.lst e)
  | tup e _ => exact .base (.tup e)
  | dct _ e => exact .base (.dK e)
def Tg.isI : Tg → Bool | .int _ => true | .bl _ => true | _ => false
def Tg.isB : Tg → Bool | .bl _ => true | _ => false
def Tg.isT : Tg → Bool | .tup _ => true | _ => false
def Tg.isS : Tg → Bool | .str _ => true | _ => false
def Tg.isL : Tg → Bool | .lst => true | _ => false
theorem Tg.kI (t : Tg) : kitB t.ty "int" = some t.isI := by cases t <;> (simp only [Tg.ty, Tg.isI]; decide +kernel)
theorem Tg.kB (t : Tg) : kitB t.ty "bool" = some t.isB := by cases t <;> (simp only [Tg.ty, Tg.isB]; decide +kernel)
theorem Tg.kT (t : Tg) : kitB t.ty "tuple" = some t.isT := by cases t <;> (simp only [Tg.ty, Tg.isT]; decide +kernel)
theorem Tg.kS (t : Tg) : kitB t.ty "str" = some t.isS := by cases t <;> (simp only [Tg.ty, Tg.isS]; decide +kernel)
theorem Tg.kL (t : Tg) : kitB t.ty "list" = some t.isL := by cases t <;> (simp only [Tg.ty, Tg.isL]; decide +kernel)
theorem TgAt.tupOf {v : V} {t : Tg} (h : TgAt p H v t) (ht : t.isT = true) : ∃ a xs ts, v = .ref a ∧ t = .tup ts ∧ H a = some (.tup xs) ∧ TgAll p H xs ts := by
  cases h with
  | tup e ha => exact ⟨_, _, _, rfl, rfl, e, ha⟩
  | _ => cases ht
end
end Deed

namespace Deed
open PySem PySem.Spec PyProof.Rows L2 LamX
/-! tuples put together and cut, whatever they are: what follows is shown once -/
theorem catA_same {K : PySem.W.Frag} {H : Hp} {a b : Addr} {xs ys : List V} {Q : VK} (ha : H a = some (.tup xs)) (hb : H b = some (.tup ys)) (hl : xs.length + ys.length ≤ 1000) (q : ∀ t H', Same H H' → H' t = some (.tup (xs ++ ys)) → Q (.ref t) H') : rCatA K (.ref a) (.ref b) H Q := by
  refine ⟨a, b, xs, ys, rfl, rfl, SqT.of ha, SqT.of hb, Nat.le_of_lt (small1000 hl), fun e => ?_, fun _ e => ?_, fun _ _ p np => q p _ (same_new np _) upd_same⟩
  · subst e
    exact q b H (same_refl _) hb
  · subst e
    exact q a H (same_refl _) (by rw [List.append_nil]; exact ha)
theorem slA_same {K : PySem.W.Frag} {H : Hp} {a : Addr} {xs : List V} {lo hi : Option Int} {Q : VK} (ha : H a = some (.tup xs)) (q : ∀ t H', Same H H' → H' t = some (.tup (cutV xs lo hi)) → Q (.ref t) H') : rSlA K (.ref a) lo hi H Q := by
  refine ⟨a, xs, rfl, SqT.of ha, fun e => ?_, fun _ p np => q p _ (same_new np _) upd_same⟩
  refine q a H (same_refl _) ?_
  rw [ha]
  unfold cutV
  rw [e.1, e.2, List.drop_zero, Nat.sub_zero, List.take_length]
end Deed

namespace Deed
open PySem PySem.Spec PyProof.Rows L2
/-! ### zip of lists and tuples in whatever mix: true is a list -/
def Sq2 (K : PySem.W.Frag) : Bool → Hp → Addr → List V → Prop
  | true, H, a, xs => SqL K H a xs
  | false, H, a, xs => SqT K H a xs
def IsB : Bool → Heap → Addr → Array Value → Prop
  | true, h, a, its => h.IsList a its
  | false, h, a, its => h.IsTuple a its
def IterB : Bool → Heap → Addr → Addr → Nat → Prop
  | true, h, it, a, i => h.IsListIter it a i
  | false, h, it, a, i => h.IsTupleIter it a i
theorem IterB.at {c : Bool} {h h' : Heap} {it a : Addr} {i : Nat} (x : IterB c h it a i) (k : ∀ o, h.get? it = some o → h'.get? it = some o) : IterB c h' it a i := by
  cases c with
  | true => exact Heap.IsListIter.at x k
  | false => exact Heap.IsTupleIter.at x k
theorem IterB.obj {c : Bool} {h : Heap} {it a : Addr} {i : Nat} (x : IterB c h it a i) : ∃ o, h.get? it = some o ∧ ∀ v, o.data ≠ .cell v := by
  cases c with
  | true =>
    obtain ⟨o, e, _, dt⟩ := x
    exact ⟨o, e, fun v q => by rw [dt] at q; cases q⟩
  | false =>
    obtain ⟨o, e, _, dt⟩ := x
    exact ⟨o, e, fun v q => by rw [dt] at q; cases q⟩
theorem drawsB {prog : Program} {w : World} {A : Around} (hh : A.handled = none) (c : Bool) (it l : Addr) (hne : l ≠ it) (items : Array Value) : Draws prog w A it [it, l] items.size (fun i v => items[i]? = some v) (fun i h => IterB c h it l i ∧ IsB c h l items) := by
  cases c with
  | true => exact Draws.list hh it l hne items
  | false => exact Draws.tuple hh it l hne items
section
variable {X : Cx} {pins : List (Addr × Obj)} {σ : L2.St} {H : Hp} {s : Shared}
theorem sq2_is {c : Bool} {a : Addr} {xs : List V} (I : Inv X pins σ H s) (q : Sq2 X.K c H a xs) : ∃ its, Vals xs its ∧ IsB c s.heap a its.toArray ∧ a < s.heap.objs.size := by
  cases c with
  | true =>
    obtain ⟨its, rv, pp, _⟩ := I.list q
    exact ⟨its, rv, pp.isList, pp.lt⟩
  | false =>
    obtain ⟨its, rv, pp, _⟩ := I.tuple q
    obtain ⟨oo, ho, _⟩ := id pp
    exact ⟨its, rv, pp, Heap.lt_size ho⟩
theorem sq2_inj {c : Bool} {a : Addr} {xs ys : List V} (I : Inv X pins σ H s) (q : Sq2 X.K c H a xs) (q' : Sq2 X.K c H a ys) : xs = ys := by
  cases c with
  | true => exact I.list_inj q q'
  | false => exact I.tuple_inj q q'
end
def ItzB (K : PySem.W.Frag) (c1 c2 : Bool) (a b : Addr) : It :=
  ⟨fun i H => ∃ (xs ys : List V) (x y : V), Sq2 K c1 H a xs ∧ Sq2 K c2 H b ys ∧ xs[i]? = some x ∧ ys[i]? = some y,
    fun i H v H' => ∃ T x y, v = .ref T ∧ H T = none ∧ H' = upd H T (.tup [x, y]) ∧ (∀ xs, Sq2 K c1 H a xs → xs[i]? = some x) ∧ ∀ ys, Sq2 K c2 H b ys → ys[i]? = some y,
    fun i H => ∃ xs ys : List V, Sq2 K c1 H a xs ∧ Sq2 K c2 H b ys ∧ i ≤ xs.length ∧ i ≤ ys.length ∧ (xs.length = i ∨ ys.length = i)⟩
theorem turn_zipB {P : Program} {w : World} {K : PySem.W.Frag} {elts : List Expr} {kk : Nat} {tpos : Pos} {c1 c2 : Bool} {a b z TI TO i1 i2 : Addr} (S : ZipSep2 z TI TO i1 i2 [i1, a] [i2, b]) (na : a ≠ i1) (nb : b ≠ i2) :
    Turn P w K (.Tuple elts kk tpos) (ItzB K c1 c2 a b) [z, TI, TO, i1, i2] z (fun i h => IsZip h z TI TO .none ∧ IsTupOf2 h TI (.ref i1) (.ref i2) ∧ (∃ x y, IsTupOf2 h TO x y) ∧ IterB c1 h i1 a i ∧ IterB c2 h i2 b i) where
  mem := List.mem_cons_self
  obj := fun i h st c hc => by
    obtain ⟨hz, hTI, ⟨x, y, hTO⟩, k1, k2⟩ := st
    rcases (show c = z ∨ c = TI ∨ c = TO ∨ c = i1 ∨ c = i2 by simpa using hc) with rfl | rfl | rfl | rfl | rfl
    · exact ⟨_, hz, fun v q => by cases q⟩
    · exact ⟨_, hTI, fun v q => by cases q⟩
    · exact ⟨_, hTO, fun v q => by cases q⟩
    · exact k1.obj
    · exact k2.obj
  keep := fun i h h' st k => by
    obtain ⟨hz, hTI, ⟨x, y, hTO⟩, k1, k2⟩ := st
    refine ⟨k z (by simp) _ hz, k TI (by simp) _ hTI, ⟨x, y, k TO (by simp) _ hTO⟩, ?_, ?_⟩
    · exact k1.at (k i1 (by simp))
    · exact k2.at (k i2 (by simp))
  item := by
    intro X eP ew eK cal i pins s σ H E I hf st hg
    subst eP ew eK
    obtain ⟨hz, hTI, ⟨x0, y0, hTO⟩, k1, k2⟩ := st
    obtain ⟨xs, ys, x, y, qa, qb, gx, gy⟩ := hg
    obtain ⟨va, ra, pa, _⟩ := sq2_is I qa
    obtain ⟨vb, rb, pb, _⟩ := sq2_is I qb
    obtain ⟨u, hu, ru⟩ := ra.get gx
    obtain ⟨t, ht, rt⟩ := rb.get gy
    have hh : X.A.in1.handled = none := I.ok.hd cal
    have zl : z < s.heap.objs.size := Heap.lt_size hz
    have li : i < va.toArray.size := by simpa using (List.getElem?_eq_some_iff.mp hu).1
    have lj : i < vb.toArray.size := by simpa using (List.getElem?_eq_some_iff.mp ht).1
    refine wpAny_pyNext_zipD2_item S (drawsB hh c1 i1 a na va.toArray) (drawsB hh c2 i2 b nb vb.toArray) hz hTI hTO ⟨k1, pa⟩ ⟨k2, pb⟩ li lj fun x1 x2 h1 tk p1 p2 z1 TO1 st1 st2 hT hsz hk => ?_
    obtain rfl : u = x1 := by simpa [hu] using p1
    obtain rfl : t = x2 := by simpa [ht] using p2
    refine ⟨_, rfl, wpAny_letOwnedTupleGo_zip (s := { s with heap := h1, toks := tk }) z1 fun h2 z2 sb => ?_⟩
    have hT2 : h2.get? s.heap.objs.size = some { cls := .type "tuple", data := .seq #[u, t] } := (sb.2 _ (Nat.ne_of_gt zl)).trans hT
    have ok : ObjOk X.prog X.w (upd H s.heap.objs.size (.tup [x, y])) h2 s.heap.objs.size (.tup [x, y]) := ⟨by show 2 ≤ sizeLine; decide, [u, t], .cons ru (.cons rt .nil), ⟨_, hT2, rfl, _, rfl⟩⟩
    have I2 : Inv X pins σ (upd H s.heap.objs.size (.tup [x, y])) { s with heap := h2, toks := tk } := by
      refine I.turnedNew (ch := [z, TI, TO, i1, i2]) (fun c o hc q => ?_) hf (Nat.le_refl _) ok
      simp only [List.mem_cons, List.not_mem_nil, or_false, not_or] at hc
      exact (sb.2 c hc.1).trans (hk c o hc.1 hc.2.2.1 hc.2.2.2.1 hc.2.2.2.2 q)
    refine ⟨.ref s.heap.objs.size, _, I2, rfl, ⟨_, x, y, rfl, I.hok.fresh (Nat.le_refl _), rfl, fun l hl => ?_, fun l hl => ?_⟩, ⟨z2, ?_, ⟨u, t, ?_⟩, ?_, ?_⟩, fun c hc => ?_⟩
    · rw [sq2_inj I hl qa]
      exact gx
    · rw [sq2_inj I hl qb]
      exact gy
    · exact (sb.2 _ S.TIz).trans (hk _ _ S.TIz S.TITO S.TIi1 S.TIi2 hTI)
    · exact (sb.2 _ S.TOz).trans TO1
    · exact st1.1.at fun o q => (sb.2 _ S.zi1.symm).trans q
    · exact st2.1.at fun o q => (sb.2 _ S.zi2.symm).trans q
    · have hlt : c < s.heap.objs.size := by
        obtain ⟨o1, e1, _⟩ := k1.obj
        obtain ⟨o2, e2, _⟩ := k2.obj
        rcases (show c = z ∨ c = TI ∨ c = TO ∨ c = i1 ∨ c = i2 by simpa using hc) with rfl | rfl | rfl | rfl | rfl
        · exact zl
        · exact Heap.lt_size hTI
        · exact Heap.lt_size hTO
        · exact Heap.lt_size e1
        · exact Heap.lt_size e2
      rw [upd_ne (Nat.ne_of_lt hlt)]
      exact (hf c hc).1
  done := by
    intro X eP ew eK cal i pins s σ H E I hf st hg
    subst eP ew eK
    obtain ⟨hz, hTI, ⟨x0, y0, hTO⟩, k1, k2⟩ := st
    obtain ⟨xs, ys, qa, qb, l1, l2, hend⟩ := hg
    obtain ⟨va, ra, pa, _⟩ := sq2_is I qa
    obtain ⟨vb, rb, pb, _⟩ := sq2_is I qb
    have hh : X.A.in1.handled = none := I.ok.hd cal
    have la := ra.length
    have lb := rb.length
    refine wpAny_pyNext_zipD2_end S (drawsB hh c1 i1 a na va.toArray) (drawsB hh c2 i2 b nb vb.toArray) hz hTI hTO ⟨k1, pa⟩ ⟨k2, pb⟩ (by simp; omega) (by simp; omega) (by simp; omega) fun h1 tk hk => ⟨rfl, ?_⟩
    refine I.turnedL (ch := [z, TI, TO, i1, i2]) (fun c o hc q => ?_) hf
    simp only [List.mem_cons, List.not_mem_nil, or_false, not_or] at hc
    exact hk c o hc.1 hc.2.2.1 hc.2.2.2.1 hc.2.2.2.2 q
  self := fun A i s Q E st q => wpAny_pyIter_zip st.1 q
theorem begB (c : Bool) (l : Addr) (its : Array Value) : ∃ o, Begins (.ref l) o (fun h => IsB c h l its) ∧ ∀ h it, h.get? it = some o → IterB c h it l 0 := by
  cases c with
  | true => exact ⟨_, begins_list l its, fun h it e => ⟨_, e, rfl, rfl⟩⟩
  | false => exact ⟨_, begins_tuple l its, fun h it e => ⟨_, e, rfl, rfl⟩⟩
theorem sep_new {m a b : Nat} (la : a < m) (lb : b < m) : ZipSep2 (m + 4) (m + 2) (m + 3) m (m + 1) [m, a] [m + 1, b] := by
  constructor <;> simp <;> (try constructor) <;> (try (first | (refine Nat.ne_of_gt ?_; omega) | (refine Nat.ne_of_lt ?_; omega)))
def iZipB (K : PySem.W.Frag) (c1 c2 : Bool) (ta : TA) : TI := fun σ H R => ta σ H fun vs H1 => ∃ a b xs ys, vs = [.ref a, .ref b] ∧ Sq2 K c1 H1 a xs ∧ Sq2 K c2 H1 b ys ∧ R (ItzB K c1 c2 a b) H1
theorem pi_zipB (c1 c2 : Bool) {X : Cx} {e e2 : Expr} {ta : TA} {p pos tpos : Pos} {elts : List Expr} {kk : Nat} (hg : Gl X "zip") (hm : X.mg "zip" = none) (ha : PA X [e, e2] ta)
    (hs : starEach [e, e2] X.env = (false, eval e X.env) :: starEach [e2] X.env := by rfl) (hp : (backTo pos (starEach [e2] X.env)).any (·.1) = false := by rfl) : PI X (.Tuple elts kk tpos) (.Call (.Name "zip" p) [e, e2] [] pos) (iZipB X.K c1 c2 ta) := by
  refine ⟨fun pins s σ H R I h => Call_ (ld_blt I hg hm PyProof.Rows.boot_zip (PyProof.Rows.callWith_type1 (thn (ha.run pos pins s σ H _ I h) fun us s1 ⟨vs, H1, I1, r1, q1⟩ => ?_) hs hp))⟩
  obtain ⟨a, b, xs, ys, ex, qa, qb, q⟩ := q1
  subst ex
  obtain ⟨va, ra, pa, la⟩ := sq2_is I1 qa
  obtain ⟨vb, rb, pb, lb⟩ := sq2_is I1 qb
  obtain ⟨o1, B1, it1⟩ := begB c1 a va.toArray
  obtain ⟨o2, B2, it2⟩ := begB c2 b vb.toArray
  cases r1 with
  | cons r rr =>
    cases rr with
    | cons r' rr =>
      cases rr
      cases r
      cases r'
      refine zip_begins2 B1 B2 pa pb fun h1 hz hTI hTO g1 g2 hsz hk => wpAny_pyIter_zip hz ?_
      have I2 : Inv X pins σ H1 { s1 with heap := h1 } := I1.kept (t' := s1.toks) hk
      have S := sep_new la lb
      refine ⟨s1.heap.objs.size + 4, [s1.heap.objs.size + 4, s1.heap.objs.size + 2, s1.heap.objs.size + 3, s1.heap.objs.size, s1.heap.objs.size + 1], _, _, H1, rfl, I2, turn_zipB S (Nat.ne_of_lt la) (Nat.ne_of_lt (Nat.lt_succ_of_lt lb)), ⟨hz, hTI, ⟨_, _, hTO⟩, it1 _ _ g1, it2 _ _ g2⟩, fun c hc => ?_, q⟩
      have hle : s1.heap.objs.size ≤ c := by
        simp only [List.mem_cons, List.not_mem_nil, or_false] at hc
        rcases hc with rfl | rfl | rfl | rfl | rfl
        · exact Nat.le_add_right _ 4
        · exact Nat.le_add_right _ 2
        · exact Nat.le_add_right _ 3
        · exact Nat.le_refl _
        · exact Nat.le_add_right _ 1
      exact I1.fpOk hle (I1.hok.fresh hle)
theorem walk_zipB {K : PySem.W.Frag} {c1 c2 : Bool} {a b : Addr} {xs ys : List V} {n : Nat} (hx : xs.length = n) (hy : ys.length = n) : Walk (ItzB K c1 c2 a b) n (fun H => Sq2 K c1 H a xs ∧ Sq2 K c2 H b ys) (YPair (fun i => xs[i]?) (fun i => ys[i]?)) := by
  refine ⟨fun i H hi q => ⟨xs, ys, xs[i], ys[i], q.1, q.2, ?_, ?_⟩, fun H q => ⟨xs, ys, q.1, q.2, by omega, by omega, .inl hx⟩, fun i H v H' _ q y => ?_⟩
  · exact List.getElem?_eq_getElem (by omega)
  · exact List.getElem?_eq_getElem (by omega)
  · obtain ⟨T, x, z, t1, t2, t3, t4, t5⟩ := y
    exact ⟨T, x, z, t1, t2, t3, t4 xs q.1, t5 ys q.2⟩
end Deed

namespace Deed
open PySem PySem.Spec PyProof.Rows L2
section
variable {X : Cx}
/-- x = {k: v for ..}, x an own name -/
theorem ps_setDc {i : Nat} {y : Str} {py : Pos} {kx vx tg iter : Expr} {ifs : List Expr} {scope : Scope} {own : List (Str × Nat)} {pos spos : Pos} {wi : TI} {g : TG} {tt : TT} {tk tv : TE} (cal : X.calm = true) (nd : X.N.Nodup) (yi : X.N[i]? = some y) (yl : X.env.scope.names.lookup y = some .local)
    (sw : swapsWith (.DictComp kx vx [⟨tg, iter, ifs, 0⟩] scope pos) (some (.Name y py)) spos.line X.env = pure true) (pi : PI X tg iter wi) (blk : BlkOk X.N X.env.scope scope own)
    (pg : ∀ (s : Shared) (H : Hp) (C : Addr) (cl : List (Str × Addr)) (fp : List Addr), PG (X.blk s H scope (compEnvC scope cl C X.env) fp) tg g) (pt : ∀ (s : Shared) (H : Hp) (C : Addr) (cl : List (Str × Addr)) (fp : List Addr), PTs (X.blk s H scope (compEnvC scope cl C X.env) fp) ifs tt)
    (pk : ∀ (s : Shared) (H : Hp) (C : Addr) (cl : List (Str × Addr)) (fp : List Addr), PE (X.blk s H scope (compEnvC scope cl C X.env) fp) kx tk) (pw : ∀ (s : Shared) (H : Hp) (C : Addr) (cl : List (Str × Addr)) (fp : List Addr), PE (X.blk s H scope (compEnvC scope cl C X.env) fp) vx tv)
    (fo : ∀ x, foldedSetIterable iter X.env x = pure x := by intro _; rfl) : PS X (.Assign [.Name y py] (.DictComp kx vx [⟨tg, iter, ifs, 0⟩] scope pos) spos) (tAsg (tDc wi g tt tk tv (own.map (·.2))) (gName i)) := by
  refine ⟨fun pins s σ H D I hh => ?_⟩
  rw [exec_Assign_Name_used _ _ _ _ sw]
  refine wpAny_bind (wpAny_standAt (wpAny_bind ?_))
  show wpAny _ X.A (do let _ ← comprehension (.DictComp kx vx [⟨tg, iter, ifs, 0⟩] scope pos) scope X.env (firstIterPos [⟨tg, iter, ifs, 0⟩] pos) newDict false (eval iter X.env) (some (assign (.Name y py) X.env))) _ _ s
  have ht : tDc wi g tt tk tv (own.map (·.2)) σ H (fun x H1 => gName i x σ H1 D.nx) := hh
  refine wpAny_bind (thn (dc_core (Qf := fun _ s' => SP X pins D .next s') cal nd I pi blk pg pt pk pw fo ht fun L C s1 m H1 I1 q nC fp => ?_) fun _ s2 hq => wpAny_pure (wpAny_pure hq))
  show wpAny _ _ (assign (.Name y py) X.env (.ref L)) _ _ _
  refine wpAny_assign_Name (store_ok2 (v := V.ref L) I1 nd yi (.inl yl) rfl (fun s2 I2 ⟨c, sb, hc⟩ => ?_) (.inr yl))
  obtain ⟨f0, f1, f2, f3, f4, f5⟩ := fp
  have nc : C ≠ c := by
    rcases hc with e | e
    · rw [e]
      exact f1
    · exact fun z => f4 y c e z.symm
  refine ⟨m, nC.sameBut sb nc, fun h3 sb3 => ⟨_, H1, ?_, q⟩⟩
  exact I2.turned (t' := s2.toks) (fun b o hb e => (sb3.2 b hb).trans e) f0 f1 f3 f4 f5
theorem swD_true {kx vx : Expr} {gs : List Comprehension} {scope : Scope} {pos py : Pos} {y : Str} {l : Nat} {env : Env} (fk : env.scope.kind = .function) (yl : env.scope.names.lookup y = some .local) (hl : (py.line == pos.line) = true)
    (no : (scope.names.any fun (n, k) => n == y && (k == .local || k == .cell)) = false) : swapsWith (.DictComp kx vx gs scope pos) (some (.Name y py)) l env = pure true := by
  have k1 : env.kindOf y = some .local := yl
  have k2 : env.blockKind = .function := by
    unfold Env.blockKind
    rw [fk]
    rfl
  unfold swapsWith
  simp only [k2, k1, no, Expr.pos, hl]
  rfl
end
end Deed

namespace Deed
open PySem PySem.Spec PyProof.Rows L2
/-! ### enumerate of a list or a tuple: true is a list -/
set_option maxHeartbeats 1000000 in
theorem enumNew1 {v : Value} {o : Obj} {G : Heap → Prop} (B : Begins v o G) :
    Meets (Builtin.«enumerate.__new__» ⟨[.type "enumerate", v], []⟩) (fun _ R t => G t.heap ∧ R (.ok (.ret (.ref (t.heap.push o).objs.size))) { t with heap := (t.heap.push o).push { cls := .type "enumerate", data := .fields #[.none, .bool false, .ref t.heap.objs.size, rawInt 0, .none, .none] } }) := by
  refine .of_wp fun prog w A R t h => ?_
  obtain ⟨hp, gs, dd, tk, os⟩ := t
  obtain ⟨hG, hR⟩ := h
  have sb := sub_enumerate
  have it1 : ∀ {A' : Around} {E : Value → Shared → Prop} {Q : Value → Shared → Prop}, Q (.ref hp.objs.size) ⟨hp.push o, gs, dd, tk, os⟩ → wpAny (model prog w) A' (pyIter v) Q E ⟨hp, gs, dd, tk, os⟩ := fun q => B.iter prog w _ _ ⟨hp, gs, dd, tk, os⟩ _ hG q
  wp_walk using it1
  refine wpAny_stack_any fun k => wpAny_pure ?_
  split
  · next c _ _ _ _ _ =>
    cases (c == Value.type "enumerate") <;> (wp_walk using it1; exact ⟨_, rfl, hR⟩)
  · wp_walk using it1
    exact ⟨_, rfl, hR⟩
section
variable {prog : Program} {w : World} {A : Around} {E : Value → Shared → Prop} {s : Shared}
theorem callEnum1 {v : Value} {o : Obj} {G : Heap → Prop} {Q : Value → Shared → Prop} (B : Begins v o G) (hG : G s.heap)
    (q : ∀ h1, IsEnum h1 (s.heap.objs.size + 1) s.heap.objs.size 0 .none → h1.get? s.heap.objs.size = some o → (∀ c x, s.heap.get? c = some x → h1.get? c = some x) → Q (.ref (s.heap.objs.size + 1)) { s with heap := h1 }) : wpAny (model prog w) A (call (.type "enumerate") [v]) Q E s := by
  refine callType_new F.called_enumerate (by decide) (F.typeCall_enumerate_1 v) (F.newCall_enumerate_1 v) (fun ob => F.args_object_init_2 ob v) F.entry_enumerate_new (enumNew1 B) ⟨hG, ?_⟩
  have sz : (s.heap.push o).objs.size = s.heap.objs.size + 1 := Heap.size_push ..
  show _ ∧ _
  rw [sz]
  have en := Heap.get?_push_size (s.heap.push o) (o := { cls := .type "enumerate", data := .fields #[.none, .bool false, .ref s.heap.objs.size, rawInt 0, .none, .none] }) rfl
  rw [sz] at en
  exact ⟨⟨_, en, rfl⟩, q _ en (Heap.get?_push_of_some _ (Heap.get?_push_size _ B.free)) fun c x z => Heap.get?_push_of_some _ (Heap.get?_push_of_some _ z)⟩
end
def ItEB (K : PySem.W.Frag) (c : Bool) (a : Addr) : It :=
  ⟨fun i H => ∃ (xs : List V) (x : V), Sq2 K c H a xs ∧ xs[i]? = some x,
    fun i H v H' => ∃ T x, v = .ref T ∧ H T = none ∧ H' = upd H T (.tup [.int (i : Nat), x]) ∧ ∀ xs, Sq2 K c H a xs → xs[i]? = some x,
    fun i H => ∃ xs : List V, Sq2 K c H a xs ∧ xs.length = i⟩
theorem turn_enumB {P : Program} {w : World} {K : PySem.W.Frag} {elts : List Expr} {kk : Nat} {tpos : Pos} {c : Bool} {a e it : Addr} (ne : e ≠ it) (na : a ≠ it) (nae : a ≠ e) :
    Turn P w K (.Tuple elts kk tpos) (ItEB K c a) [e, it] e (fun i h => (∃ old, IsEnum h e it ((i : Nat) : Int) old) ∧ IterB c h it a i) where
  mem := List.mem_cons_self
  obj := fun i h st b hb => by
    obtain ⟨⟨old, he⟩, k1⟩ := st
    rcases (show b = e ∨ b = it by simpa using hb) with rfl | rfl
    · exact ⟨_, he, fun v q => by cases q⟩
    · exact k1.obj
  keep := fun i h h' st k => by
    obtain ⟨⟨old, he⟩, k1⟩ := st
    exact ⟨⟨old, k e (by simp) _ he⟩, k1.at (k it (by simp))⟩
  item := by
    intro X eP ew eK cal i pins s σ H E I hf st hg
    subst eP ew eK
    obtain ⟨⟨old, he⟩, k1⟩ := st
    obtain ⟨xs, x, qa, gx⟩ := hg
    obtain ⟨va, ra, pa, _⟩ := sq2_is I qa
    obtain ⟨u, hu, ru⟩ := ra.get gx
    have hh : X.A.in1.handled = none := I.ok.hd cal
    have el : e < s.heap.objs.size := Heap.lt_size he
    have li : i < va.toArray.size := by simpa using (List.getElem?_eq_some_iff.mp hu).1
    refine wpAny_pyNext_enum_itemD (drawsB hh c it a na va.toArray) he ⟨k1, pa⟩ li ne (by simp [ne, nae.symm]) fun x1 h1 tk p1 ho st1 hT hsz hk => ?_
    obtain rfl : u = x1 := by simpa [hu] using p1
    refine ⟨_, rfl, wpAny_letOwnedTupleGo_enum (s := { s with heap := h1, toks := tk + 1 }) ho fun h2 e2 sb => ?_⟩
    have hT2 : h2.get? s.heap.objs.size = some { cls := .type "tuple", data := .seq #[.int i tk, u] } := (sb.2 _ (Nat.ne_of_gt el)).trans hT
    have ok : ObjOk X.prog X.w (upd H s.heap.objs.size (.tup [.int (i : Nat), x])) h2 s.heap.objs.size (.tup [.int (i : Nat), x]) := ⟨by show 2 ≤ sizeLine; decide, [.int i tk, u], .cons ⟨_, rfl⟩ (.cons ru .nil), ⟨_, hT2, rfl, _, rfl⟩⟩
    have I2 : Inv X pins σ (upd H s.heap.objs.size (.tup [.int (i : Nat), x])) { s with heap := h2, toks := tk + 1 } := by
      refine I.turnedNew (ch := [e, it]) (fun b o hb q => ?_) hf (Nat.le_refl _) ok
      simp only [List.mem_cons, List.not_mem_nil, or_false, not_or] at hb
      exact (sb.2 b hb.1).trans (hk b o hb.1 hb.2 q)
    refine ⟨.ref s.heap.objs.size, _, I2, rfl, ⟨_, x, rfl, I.hok.fresh (Nat.le_refl _), rfl, fun l hl => ?_⟩, ⟨⟨u, ?_⟩, ?_⟩, fun b hb => ?_⟩
    · rw [sq2_inj I hl qa]
      exact gx
    · rw [show ((i + 1 : Nat) : Int) = (i : Int) + 1 from rfl]
      exact e2
    · exact st1.1.at fun o q => (sb.2 _ ne.symm).trans q
    · have hlt : b < s.heap.objs.size := by
        obtain ⟨o1, e1, _⟩ := k1.obj
        rcases (show b = e ∨ b = it by simpa using hb) with rfl | rfl
        · exact el
        · exact Heap.lt_size e1
      rw [upd_ne (Nat.ne_of_lt hlt)]
      exact (hf b hb).1
  done := by
    intro X eP ew eK cal i pins s σ H E I hf st hg
    subst eP ew eK
    obtain ⟨⟨old, he⟩, k1⟩ := st
    obtain ⟨xs, qa, rfl⟩ := hg
    obtain ⟨va, ra, pa, _⟩ := sq2_is I qa
    have hh : X.A.in1.handled = none := I.ok.hd cal
    have la : va.toArray.size = xs.length := by simpa using ra.length.symm
    refine wpAny_pyNext_enum_endD (drawsB hh c it a na va.toArray) he ⟨by rw [la]; exact k1, pa⟩ fun h1 ex => ⟨rfl, ?_⟩
    refine I.turnedL (t' := s.toks) (ch := [e, it]) (fun b o hb q => ?_) hf
    simp only [List.mem_cons, List.not_mem_nil, or_false, not_or] at hb
    exact ex b o hb.2 q
  self := fun A i s Q E st q => by
    obtain ⟨⟨old, he⟩, _⟩ := st
    exact wpAny_pyIter_enum he q
def iEnumB (K : PySem.W.Frag) (c : Bool) (ta : TA) : TI := fun σ H R => ta σ H fun vs H1 => ∃ a xs, vs = [.ref a] ∧ Sq2 K c H1 a xs ∧ R (ItEB K c a) H1
theorem pi_enumB (c : Bool) {X : Cx} {x : Expr} {ta : TA} {p pos tpos : Pos} {elts : List Expr} {kk : Nat} (hg : Gl X "enumerate") (hm : X.mg "enumerate" = none) (ha : PA X [x] ta) (hs : starEach [x] X.env = [(false, eval x X.env)] := by rfl) : PI X (.Tuple elts kk tpos) (.Call (.Name "enumerate" p) [x] [] pos) (iEnumB X.K c ta) := by
  refine ⟨fun pins s σ H R I h => Call_ (ld_blt I hg hm boot_enumerate (PyProof.Rows.callWith_type1 (thn (ha.run pos pins s σ H _ I h) fun us s1 ⟨vs, H1, I1, r1, q1⟩ => ?_) hs rfl))⟩
  obtain ⟨a, xs, ex, qa, q⟩ := q1
  subst ex
  obtain ⟨va, ra, pa, la⟩ := sq2_is I1 qa
  obtain ⟨o1, B1, it1⟩ := begB c a va.toArray
  cases r1 with
  | cons r rr =>
    cases rr
    cases r
    refine callEnum1 B1 pa fun h1 he g1 hk => wpAny_pyIter_enum he ?_
    have I2 : Inv X pins σ H1 { s1 with heap := h1 } := I1.kept (t' := s1.toks) hk
    refine ⟨s1.heap.objs.size + 1, [s1.heap.objs.size + 1, s1.heap.objs.size], _, _, H1, rfl, I2, turn_enumB (Nat.succ_ne_self _) (Nat.ne_of_lt la) (Nat.ne_of_lt (Nat.lt_succ_of_lt la)), ⟨⟨.none, he⟩, it1 _ _ g1⟩, fun b hb => ?_, q⟩
    have hle : s1.heap.objs.size ≤ b := by
      rcases (show b = s1.heap.objs.size + 1 ∨ b = s1.heap.objs.size by simpa using hb) with rfl | rfl
      · exact Nat.le_add_right _ 1
      · exact Nat.le_refl _
    exact I1.fpOk hle (I1.hok.fresh hle)
theorem walk_enumB {K : PySem.W.Frag} {c : Bool} {a : Addr} {xs : List V} : Walk (ItEB K c a) xs.length (fun H => Sq2 K c H a xs) (YPair (fun i => some (.int (i : Nat))) (fun i => xs[i]?)) := by
  refine ⟨fun i H hi q => ⟨xs, xs[i], q, List.getElem?_eq_getElem hi⟩, fun H q => ⟨xs, q, rfl⟩, fun i H v H' _ q y => ?_⟩
  obtain ⟨T, x, t1, t2, t3, t4⟩ := y
  exact ⟨T, .int (i : Nat), x, t1, t2, t3, rfl, t4 xs q⟩
end Deed

namespace Deed
open PySem PySem.Spec PySem.W PyProof.Rows L2 LamX
/-! ### sorted(xs) of tuples of one kind -/
def rSortedDp {β : Type} (K : PySem.W.Frag) (enc : β → PyData) : List V → Hp → VK → Prop := fun vs H Q => ∃ (a : Addr) (zs : List (V × β)), vs = [V.ref a] ∧ SqL K H a (zs.map (·.1)) ∧ (∀ z ∈ zs, Dp K H z.1 (enc z.2)) ∧ (∀ b b', alike (enc b) (enc b') = true) ∧ (∀ b, ∃ x r, enc b = .tuple (x :: r)) ∧ (∀ b, (enc b).depth ≤ 8) ∧
  ∀ (ys : List (V × β)) (p : Addr), ys.Perm zs → ys.Pairwise (fun u v => dataLt (enc v.2) (enc u.2) = false) → H p = none → Q (.ref p) (upd H p (.lst (ys.map (·.1))))
theorem each_zip {β : Type} : ∀ {zs : List (V × β)} {us : List Value}, Vals (zs.map (·.1)) us → EachIs (fun u (z : V × β) => RelV z.1 u) us zs
  | [], _, h => by
    cases h
    exact .nil
  | z :: r, _, h => by
    cases h with
    | cons h1 h2 => exact .cons h1 (each_zip h2)
theorem zip_each {β : Type} : ∀ {zs : List (V × β)} {us : List Value}, EachIs (fun u (z : V × β) => RelV z.1 u) us zs → Vals (zs.map (·.1)) us
  | _, _, .nil => .nil
  | _, _, .cons h t => .cons h (zip_each t)
theorem each_and {α β : Type} {R S : α → β → Prop} {as : List α} {bs : List β} (h : EachIs R as bs) (hS : ∀ b ∈ bs, ∀ a, R a b → S a b) : EachIs S as bs := by
  induction h with
  | nil => exact .nil
  | cons h1 _ ih => exact .cons (hS _ List.mem_cons_self _ h1) (ih fun b hb a => hS b (List.mem_cons_of_mem _ hb) a)
theorem cr_sortedDp {β : Type} (enc : β → PyData) {X : Cx} (hu : X.A.units + 64 < cLine) : CallR X (.builtin "sorted") (rSortedDp X.K enc) := by
  intro pins s σ H vs us Q I r h
  obtain ⟨a, zs, rfl, hs, hD, hal, hsr, hdp, q⟩ := h
  obtain ⟨its, rv, hl, hz⟩ := I.list hs
  rw [Vals.ref1 r]
  have e := each_zip rv
  have hz' : zs.length ≤ sizeLine := by rw [List.length_map] at hz; exact hz
  refine sorted_data (bs := zs) (R := fun u (z : V × β) => RelV z.1 u) (enc := fun z => enc z.2) hl.isList e (each_and e fun z hzz u hR => Dp.reads I _ _ _ (hD z hzz) hR) (AllAlike.of fun z z' => hal _ _) (Sortable.tuples fun z => hsr _) hz' (fun z _ => ?_) fun out ho eo => ?_
  · have := hdp z.2
    show X.A.units + 2 + _ < _
    omega
  · have hp : (zs.mergeSort (dataLe false fun z => enc z.2)).Perm zs := List.mergeSort_perm _ _
    have hpw : (zs.mergeSort (dataLe false fun z => enc z.2)).Pairwise (fun a b => dataLe false (fun z : V × β => enc z.2) a b = true) := sort_pairwise (sortLe_total _ _ _) zs
    obtain ⟨ep, he'⟩ := PyProof.Rows.sortedAll_at s.heap its out.toArray
    have hlen : ((zs.mergeSort (dataLe false fun z => enc z.2)).map (·.1)).length ≤ sizeLine := by
      rw [List.length_map, hp.length_eq]
      exact hz'
    refine ⟨.ref _, upd H (s.heap.objs.size + 1) (.lst ((zs.mergeSort (dataLe false fun z => enc z.2)).map (·.1))), I.laid (t' := s.toks) (fun _ _ => PyProof.Rows.sortedAll_old) (Nat.le_succ _) ⟨hlen, out, ep, zip_each eo, he'⟩, rfl, q _ _ hp (hpw.imp fun h => ?_) (I.hok.fresh (Nat.le_succ _))⟩
    rw [dataLe_eq] at h
    simpa using h
theorem sort_one {α : Type} {le lt : α → α → Prop} (h : ∀ a b, lt a b → ¬ le b a) : ∀ {l m : List α}, l.Perm m → l.Pairwise le → m.Pairwise lt → l = m
  | [], m, p, _, _ => (List.Perm.eq_nil p.symm).symm
  | x :: l, [], p, _, _ => absurd p.length_eq (by simp)
  | y :: l, x :: m, p, h1, h2 => by
    have a1 := List.pairwise_cons.mp h1
    have a2 := List.pairwise_cons.mp h2
    have e : y = x := by
      rcases List.mem_cons.mp (p.mem_iff.mp List.mem_cons_self) with e | hy
      · exact e
      · rcases List.mem_cons.mp (p.mem_iff.mpr List.mem_cons_self) with e | hx
        · exact e.symm
        · exact absurd (a1.1 x hx) (h x y (a2.1 y hy))
    subst e
    rw [sort_one h p.cons_inv a1.2 a2.2]
theorem dp_all {K : PySem.W.Frag} {H : Hp} {β : Type} {enc : β → PyData} : ∀ (ys : List (V × β)), (∀ y ∈ ys, Dp K H y.1 (enc y.2)) → DpAll K H (ys.map (·.1)) ((ys.map (·.2)).map enc)
  | [], _ => .nil
  | y :: r, h => .cons (h y List.mem_cons_self) (dp_all r fun x hx => h x (List.mem_cons_of_mem _ hx))
end Deed

namespace Deed
open PySem PySem.Spec PySem.W PyProof.Rows L2 LamX
/-! ### data of texts, numbers and tuples on the heap; a < b, min(a, b), max(t) of data -/
mutual
inductive Dt (H : Hp) : V → PyData → Prop
  | non : Dt H .non .none
  | bl (b : Bool) : Dt H (.bl b) (.bool b)
  | int (i : Int) : Dt H (.int i) (.int i)
  | str (x : Str) : Dt H (.str x) (.str x)
  | tup {a : Addr} {xs : List V} {ds : List PyData} : H a = some (.tup xs) → DtAll H xs ds → Dt H (.ref a) (.tuple ds)
inductive DtAll (H : Hp) : List V → List PyData → Prop
  | nil : DtAll H [] []
  | cons {v : V} {vs : List V} {d : PyData} {ds : List PyData} : Dt H v d → DtAll H vs ds → DtAll H (v :: vs) (d :: ds)
end
section
variable {H H' : Hp} {K : PySem.W.Frag}
mutual
theorem Dt.kp (k : KpT H H') : ∀ (d : PyData) (v : V), Dt H v d → Dt H' v d
  | .none, _, h => by cases h; exact .non
  | .bool _, _, h => by cases h; exact .bl _
  | .int _, _, h => by cases h; exact .int _
  | .str _, _, h => by cases h; exact .str _
  | .tuple ds, _, h => by
    cases h with
    | tup e ha => exact .tup (k _ _ e) (DtAll.kp k ds _ ha)
  | .list _, _, h => by cases h
  | .dict _, _, h => by cases h
theorem DtAll.kp (k : KpT H H') : ∀ (ds : List PyData) (vs : List V), DtAll H vs ds → DtAll H' vs ds
  | [], _, h => by cases h; exact .nil
  | d :: ds, _, h => by
    cases h with
    | cons h1 h2 => exact .cons (Dt.kp k d _ h1) (DtAll.kp k ds _ h2)
end
mutual
theorem Dt.dp : ∀ (d : PyData) (v : V), Dt H v d → Dp K H v d
  | .none, _, h => by cases h; exact .non
  | .bool _, _, h => by cases h; exact .bl _
  | .int _, _, h => by cases h; exact .int _
  | .str _, _, h => by cases h; exact .str _
  | .tuple ds, _, h => by
    cases h with
    | tup e ha => exact .tup (SqT.of e) (DtAll.dp ds _ ha)
  | .list _, _, h => by cases h
  | .dict _, _, h => by cases h
theorem DtAll.dp : ∀ (ds : List PyData) (vs : List V), DtAll H vs ds → DpAll K H vs ds
  | [], _, h => by cases h; exact .nil
  | d :: ds, _, h => by
    cases h with
    | cons h1 h2 => exact .cons (Dt.dp d _ h1) (DtAll.dp ds _ h2)
end
theorem DtAll.length : ∀ {vs : List V} {ds : List PyData}, DtAll H vs ds → vs.length = ds.length
  | _, [], h => by cases h; rfl
  | _, d :: ds, h => by
    cases h with
    | cons h1 h2 => rw [List.length_cons, List.length_cons, DtAll.length h2]
theorem DtAll.get : ∀ {vs : List V} {ds : List PyData} {i : Nat} {v : V}, DtAll H vs ds → vs[i]? = some v → ∃ d, ds[i]? = some d ∧ Dt H v d
  | _, [], i, v, h, e => by
    cases h
    cases e
  | _, d :: ds, i, v, h, e => by
    cases h with
    | cons h1 h2 =>
      cases i with
      | zero =>
        injection e with e
        subst e
        exact ⟨d, rfl, h1⟩
      | succ i => exact DtAll.get (i := i) h2 (by simpa using e)
theorem DtAll.at {vs : List V} {ds : List PyData} {i : Nat} {v : V} {d : PyData} (h : DtAll H vs ds) (e : vs[i]? = some v) (e' : ds[i]? = some d) : Dt H v d := by
  obtain ⟨d', h1, h2⟩ := h.get e
  rw [e'] at h1
  injection h1 with h1
  rw [h1]
  exact h2
theorem DtAll.append : ∀ {vs : List V} {ds : List PyData} {vs' : List V} {ds' : List PyData}, DtAll H vs ds → DtAll H vs' ds' → DtAll H (vs ++ vs') (ds ++ ds')
  | _, [], _, _, h, h' => by
    cases h
    exact h'
  | _, d :: ds, _, _, h, h' => by
    cases h with
    | cons h1 h2 => exact .cons h1 (DtAll.append h2 h')
theorem DtAll.mem {vs : List V} {ds : List PyData} (h : DtAll H vs ds) {v : V} (hv : v ∈ vs) : ∃ d, d ∈ ds ∧ Dt H v d := by
  obtain ⟨i, hi, e⟩ := List.mem_iff_getElem.mp hv
  obtain ⟨d, hd, hat⟩ := h.get (i := i) (by rw [List.getElem?_eq_getElem hi, e])
  exact ⟨d, List.mem_of_getElem? hd, hat⟩
/-- texts -/
theorem DtAll.strs : ∀ ws : List Str, DtAll H (ws.map V.str) (ws.map PyData.str)
  | [] => .nil
  | w :: r => .cons (.str w) (DtAll.strs r)
theorem DtAll.ofStrs : ∀ {vs : List V} {ws : List Str}, DtAll H vs (ws.map PyData.str) → vs = ws.map V.str
  | _, [], h => by cases h; rfl
  | _, w :: r, h => by
    cases h with
    | cons h1 h2 =>
      cases h1
      rw [DtAll.ofStrs h2]
      rfl
theorem DtAll.ints : ∀ ns : List Int, DtAll H (ns.map V.int) (ns.map PyData.int)
  | [] => .nil
  | n :: r => .cons (.int n) (DtAll.ints r)
/-- things of one kind, told by addresses -/
theorem DtAll.refs {α : Type} {enc : α → PyData} {zs : List (Addr × α)} (h : ∀ z ∈ zs, Dt H (.ref z.1) (enc z.2)) : DtAll H (zs.map fun z => .ref z.1) (zs.map fun z => enc z.2) := by
  induction zs with
  | nil => exact .nil
  | cons z r ih => exact .cons (h z List.mem_cons_self) (ih fun y hy => h y (List.mem_cons_of_mem _ hy))
theorem DtAll.ofRefs {α : Type} {enc : α → List PyData} : ∀ {vs : List V} {xs : List α}, DtAll H vs (xs.map fun x => .tuple (enc x)) → ∃ zs : List (Addr × α), vs = zs.map (fun z => .ref z.1) ∧ xs = zs.map (·.2) ∧ ∀ z ∈ zs, Dt H (.ref z.1) (.tuple (enc z.2))
  | _, [], h => by
    cases h
    exact ⟨[], rfl, rfl, fun _ h => nomatch h⟩
  | _, x :: r, h => by
    cases h with
    | cons h1 h2 =>
      obtain ⟨zs, e1, e2, e3⟩ := DtAll.ofRefs (enc := enc) h2
      cases h1 with
      | @tup a ys _ ea ha =>
        refine ⟨(a, x) :: zs, by rw [e1]; rfl, by rw [e2]; rfl, fun z hz => ?_⟩
        rcases List.mem_cons.mp hz with rfl | hz
        · exact .tup ea ha
        · exact e3 z hz
theorem Dt.tupAt {v : V} {ds : List PyData} (h : Dt H v (.tuple ds)) : ∃ a xs, v = .ref a ∧ H a = some (.tup xs) ∧ DtAll H xs ds := by
  cases h with
  | tup e ha => exact ⟨_, _, rfl, e, ha⟩
end
section
variable {X : Cx}
/-- a < b of data of one kind -/
def rLtD (K : PySem.W.Frag) : R2 := fun x y H Q => ∃ d e, Dp K H x d ∧ Dp K H y e ∧ alike d e = true ∧ d ≠ .none ∧ d.depth ≤ 8 ∧ Q (.bl (dataLt d e)) H
theorem op_ltD (hu : X.A.units + 64 < cLine) : OpR X (compareOp .Lt) (rLtD X.K) := by
  intro pins s σ H x y v u Q I rx ry h
  obtain ⟨d, e, h1, h2, ha, hn, hd, q⟩ := h
  obtain ⟨as, r1⟩ := Dp.reads I d x v h1 rx
  obtain ⟨bs, r2⟩ := Dp.reads I e y u h2 ry
  refine lt_data r1 r2 ha hn ?_ ⟨.bl _, H, I, rfl, q⟩
  have := Nat.min_le_left d.depth e.depth
  omega
end
section
variable {prog : Program} {w : World} {A : Around} {E : Value → Shared → Prop} {s : Shared}
/-- min(a, b): what is asked of the walk over the pair that it makes -/
theorem min_pairH {a b : Value} {Q : Value → Shared → Prop} (hw : wpAny (model prog w) A.in1 (pyIter (.ref s.heap.objs.size)) (fun it s₂ => ∃ I fp wr G n Pq St Hq bt, it = .ref I ∧ WalksS prog w A.in1 I fp wr G n Pq St ∧ St 0 s₂ ∧ (∀ c ∈ fp, c < s₂.heap.objs.size) ∧ 0 < n ∧
      (∀ c o, Heap.get? Hq c = some o → c ∉ wr) ∧ (∀ c o, Heap.get? Hq c = some o → s₂.heap.get? c = some o) ∧ CmpIn prog w A.in1 .Lt Hq Pq bt ∧ ∀ v s', Pq (argBest bt (n - 1)) v → Moved wr G s₂ s' → Q v s') E
      { s with heap := s.heap.push { cls := .type "tuple", data := .seq #[a, b] } }) :
    wpAny (model prog w) A (call (.builtin "min") [a, b]) Q E s := by
  have nm : (toString "min" ++ toString ".loop" : String) = "min.loop" := by decide
  refine call_function_tree F.kind_min F.plain_min F.entry_min (F.args_min2 a b) ?_
  show wpAny _ A.in1 (Builtin.Builtins.bindParams "min" ["key", "default"] 0 ⟨[], []⟩ >>= _) _ _ _
  refine wpAny_bind (wpAny_of_eq (a := [none, none]) (by rfl) ?_)
  show wpAny _ A.in1 (newTuple [a, b] >>= _) _ _ _
  refine wpAny_bind (wpAny_newObj_type (wpAny_bind (wpAny_mono hw (fun it s₂ z => ?_) fun _ _ e => e)))
  obtain ⟨I, fp, wr, G, n, Pq, St, Hq, bt, rfl, W, st0, low, pos, hwr, hkp, cm, fin⟩ := z
  refine wpAny_bind (wpAny_newObj_type ?_)
  rw [nm]
  have out : s₂.heap.objs.size ∉ fp := fun z => Nat.lt_irrefl _ (low _ z)
  have pl := plainId_quiet F.plain_min_loop
  refine wpAny_pure ⟨pl _, codeAny_min_loop_firstH W Hq hwr bt cm s₂.heap.objs.size out (fresh_in hkp) _ pos (fun c o e => Heap.get?_push_of_some _ (hkp c o e)) ?_ (Heap.get?_push_size _ rfl) fun v s' hv mv => fin v s' hv (Moved.drop_new (tk := s₂.toks) mv (Nat.le_refl _))⟩
  exact W.frame 0 s₂ _ s₂.toks st0 (Nat.le_refl _) fun c _ o e => Heap.get?_push_of_some _ e
theorem min_pair_data {a b : Value} {da db : PyData} {as bs : List Addr} {Q : Value → Shared → Prop} (nh : A.handled = none) (ra : Reads s.heap a da as) (rb : Reads s.heap b db bs) (hal : AlikeAll [da, db]) (hu : A.units + 1 + PyData.depthAll [da, db] < cLine)
    (fin : ∀ h' tk, (∀ c o, s.heap.get? c = some o → h'.get? c = some o) → Q (if dataLt db da = true then b else a) { s with heap := h', toks := tk }) : wpAny (model prog w) A (call (.builtin "min") [a, b]) Q E s := by
  have up : ∀ c o, s.heap.get? c = some o → (s.heap.push { cls := .type "tuple", data := .seq #[a, b] }).get? c = some o := fun c o e => Heap.get?_push_of_some _ e
  have tu : (s.heap.push { cls := .type "tuple", data := .seq #[a, b] }).IsTuple s.heap.objs.size #[a, b] := ⟨_, Heap.get?_push_size _ rfl, rfl, 0, rfl⟩
  have rd : ReadsAll (s.heap.push { cls := .type "tuple", data := .seq #[a, b] }) (#[a, b] : Array Value).toList [da, db] (as ++ (bs ++ [])) := .cons (reads_keeps up ra) (.cons (reads_keeps up rb) .nil)
  refine min_pairH (iter_tupleW (A := A.in1) nh tu fun s₂ e W st hfp hwr hk => ?_)
  refine ⟨_, _, _, _, _, _, _, _, _, rfl, W, st, hfp, by simp, hwr, hk, cmpIn_lt (s := { s with heap := s.heap.push { cls := .type "tuple", data := .seq #[a, b] } }) (A := A.in1) rd hal hu, fun v s' hP m => ?_⟩
  obtain ⟨h', tk, rfl, hk'⟩ := moved_old e rfl m
  have hv : v = if dataLt db da = true then b else a := by
    have hP' : (#[a, b] : Array Value)[argBest (fun i j => dataLt ([da, db].getD i .none) ([da, db].getD j .none)) 1]? = some v := hP
    cases c : dataLt db da with
    | true =>
      have e1 : argBest (fun i j => dataLt ([da, db].getD i .none) ([da, db].getD j .none)) 1 = 1 := by simp [argBest, c]
      rw [e1] at hP'
      simpa using hP'.symm
    | false =>
      have e1 : argBest (fun i j => dataLt ([da, db].getD i .none) ([da, db].getD j .none)) 1 = 0 := by simp [argBest, c]
      rw [e1] at hP'
      simpa using hP'.symm
  rw [hv]
  exact fin h' tk fun c o e0 => hk' c o (up c o e0)
end
section
variable {X : Cx}
/-- min(a, b) of data of one kind -/
def rMin2D (K : PySem.W.Frag) : List V → Hp → VK → Prop := fun xs H Q => ∃ x y d e, xs = [x, y] ∧ Dp K H x d ∧ Dp K H y e ∧ alike d d = true ∧ alike d e = true ∧ alike e d = true ∧ alike e e = true ∧ d ≠ .none ∧ e ≠ .none ∧ d.depth ≤ 8 ∧ e.depth ≤ 8 ∧ Q (if dataLt e d = true then y else x) H
theorem call_min2D (hc : X.calm = true) (hu : X.A.units + 64 < cLine) : CallR X (.builtin "min") (rMin2D X.K) := by
  intro pins s σ H xs us Q I r h
  obtain ⟨x, y, d, e, rfl, h1, h2, a1, a2, a3, a4, n1, n2, d1, d2, q⟩ := h
  obtain ⟨u, v, rfl, ru, rv⟩ := vals2 r
  obtain ⟨as, r1⟩ := Dp.reads I d x u h1 ru
  obtain ⟨bs, r2⟩ := Dp.reads I e y v h2 rv
  refine min_pair_data (I.ok.hd hc) r1 r2 ⟨fun p hp p' hp' => ?_, fun p hp => ?_⟩ ?_ fun h' tk k => ⟨_, H, I.kept (t' := tk) k, ?_, q⟩
  · simp only [List.mem_cons, List.not_mem_nil, or_false] at hp hp'
    rcases hp with rfl | rfl <;> rcases hp' with rfl | rfl <;> assumption
  · simp only [List.mem_cons, List.not_mem_nil, or_false] at hp
    rcases hp with rfl | rfl <;> assumption
  · have : PyData.depthAll [d, e] ≤ 8 := by
      simp only [PyData.depthAll]
      omega
    omega
  · cases dataLt e d
    · exact ru
    · exact rv
/-- max of a tuple of numbers -/
def rMaxTI (K : PySem.W.Frag) : List V → Hp → VK → Prop := fun vs H Q => ∃ (a : Addr) (ns : List Int), vs = [V.ref a] ∧ SqT K H a (ns.map V.int) ∧ 0 < ns.length ∧ ∀ m, m ∈ ns → (∀ y, y ∈ ns → y ≤ m) → Q (.int m) H
theorem foldl_max : ∀ (ns : List Int) (n : Int), ns.foldl max n ∈ n :: ns ∧ ∀ y ∈ n :: ns, y ≤ ns.foldl max n
  | [], n => ⟨List.mem_cons_self, fun y hy => by rw [List.mem_singleton.mp hy]; exact Int.le_refl _⟩
  | k :: r, n => by
    obtain ⟨h1, h2⟩ := foldl_max r (max n k)
    rw [List.foldl_cons]
    refine ⟨?_, fun y hy => ?_⟩
    · rcases List.mem_cons.mp h1 with e | h
      · rw [e]
        by_cases hk : n ≤ k
        · rw [show max n k = k by omega]
          exact List.mem_cons_of_mem _ List.mem_cons_self
        · rw [show max n k = n by omega]
          exact List.mem_cons_self
      · exact List.mem_cons_of_mem _ (List.mem_cons_of_mem _ h)
    · have h3 := h2 (max n k) List.mem_cons_self
      rcases List.mem_cons.mp hy with rfl | hy
      · omega
      · rcases List.mem_cons.mp hy with rfl | hy
        · omega
        · exact h2 y (List.mem_cons_of_mem _ hy)
theorem reads_int {h : Heap} {v : Value} {n : Int} {as : List Addr} (r : Reads h v (.int n) as) : ∃ t, v = .int n t := by
  cases r
  exact ⟨_, rfl⟩
theorem cr_maxTI (hc : X.calm = true) (hu : X.A.units + 64 < cLine) : CallR X (.builtin "max") (rMaxTI X.K) := by
  intro pins s σ H vs us Q I r h
  obtain ⟨a, ns, rfl, hs, hp, q⟩ := h
  rw [Vals.ref1 r]
  obtain ⟨its, rv, ⟨o, ho, hcl, nn, hd⟩, hz⟩ := I.tuple hs
  cases ns with
  | nil => exact absurd hp (Nat.lt_irrefl 0)
  | cons n0 ns =>
  obtain ⟨as, r1⟩ := Dp.readsAll I ((n0 :: ns).map PyData.int) _ its (dp_ints (n0 :: ns)) rv
  have dep : PyData.depthAll ((n0 :: ns).map PyData.int) ≤ 1 := depth_ints _
  obtain ⟨m1, m2⟩ := foldl_max ns n0
  refine max_tuple_data (x := .int n0) (xs := ns.map .int) (as := as) (I.ok.hd hc) (l := a) (vs := its.toArray) ⟨o, ho, hcl, nn, hd⟩ (by simpa using r1) ⟨fun x hx y hy => ?_, fun x hx => ?_⟩ (by simp only [List.map_cons] at dep; omega) fun i v h' tk bs _ rr k => ?_
  · have hx' : x ∈ (n0 :: ns).map PyData.int := hx
    have hy' : y ∈ (n0 :: ns).map PyData.int := hy
    obtain ⟨i, _, rfl⟩ := List.mem_map.mp hx'
    obtain ⟨j, _, rfl⟩ := List.mem_map.mp hy'
    simp [alike]
  · have hx' : x ∈ (n0 :: ns).map PyData.int := hx
    obtain ⟨i, _, rfl⟩ := List.mem_map.mp hx'
    exact fun z => by cases z
  · rw [maxD_ints] at rr
    obtain ⟨t, rfl⟩ := reads_int rr
    exact ⟨.int _, H, I.kept (t' := tk) k, ⟨t, rfl⟩, q _ m1 m2⟩
end
end Deed
namespace Deed
open PySem PySem.Spec PySem.W PyProof.Rows L2 LamX
theorem op_ltDK {X : Cx} {K : PySem.W.Frag} (h : X.K = K) (hu : X.A.units + 64 < cLine) : OpR X (compareOp .Lt) (rLtD K) := h ▸ op_ltD hu
end Deed

namespace Deed.KS
open PySem PySem.Spec PyProof.Rows L2
/-! ### sets of a few tuples of keys of one kind -/
theorem cls_no {v : Value} (h : carriedByValue v = true) (n : Nat) : ofAClassStatement n v = pure false := by
  cases v with
  | ref a => simp [carriedByValue] at h
  | _ => cases n <;> rfl
theorem hsh_some {v : Value} (h : carriedByValue v = true) (n : Nat) : ∃ b, hashByValue n v = pure b := by
  cases v with
  | ref a => simp [carriedByValue] at h
  | _ => cases n <;> exact ⟨_, rfl⟩
section
variable {P : Program} {w : World} {α : Type} [DecidableEq α] {knd : KeyKind P w α} {A : Around} {E : Value → Shared → Prop} {s : Shared}
theorem cls_tup {k : List α} {b : Addr} {Q : Bool → Shared → Prop} (hk : IsTupleKey knd s.heap k b) (q : Q false s) : wpAny (model P w) A (ofAClassStatement 8 (.ref b)) Q E s := by
  have ty := hk.typeIs
  obtain ⟨o, its, n, e1, _, e2, e3⟩ := hk
  have bv := e3.byValue
  unfold ofAClassStatement
  refine wpAny_bind (wpAny_typeOf ty ?_)
  dsimp only
  have e : (("tuple" : String) == "tuple") = true := by decide
  simp only [e, if_true, Bool.not_true, Bool.false_eq_true, if_false]
  try refine wpAny_bind (wpAny_pure ?_)
  try simp only [Bool.not_true, Bool.false_eq_true, if_false]
  show wpAny _ _ (seqItems? (.ref b) >>= _) _ _ _
  refine wpAny_bind (wpAny_seqItems e1 e2 ?_)
  dsimp only
  refine wpAny_bind ?_
  show wpAny _ _ (forIn its _ _) _ _ _
  rw [← Array.forIn_toList]
  refine wpAny_forIn_list _ (fun l r s' => r.1 = none ∧ s' = s ∧ ∀ v ∈ l, carriedByValue v = true) _ ?_ ?_ _ _ ⟨rfl, rfl, bv⟩
  · rintro v l r s' ⟨z1, z2, z3⟩
    rw [cls_no (z3 v List.mem_cons_self)]
    refine wpAny_bind (wpAny_pure ?_)
    simp only [Bool.false_eq_true, if_false]
    exact wpAny_pure ⟨rfl, z2, fun y hy => z3 y (List.mem_cons_of_mem _ hy)⟩
  · rintro ⟨r1, r2⟩ s' ⟨z1, z2, _⟩
    simp only at z1
    subst z1 z2
    exact wpAny_pure q
theorem hsh_tup {k : List α} {b : Addr} {Q : Bool → Shared → Prop} (hk : IsTupleKey knd s.heap k b) (q : ∀ c, Q c s) : wpAny (model P w) A (hashByValue 8 (.ref b)) Q E s := by
  have ty := hk.typeIs
  obtain ⟨o, its, n, e1, _, e2, e3⟩ := hk
  have bv := e3.byValue
  unfold hashByValue
  refine wpAny_bind (wpAny_specialOf ty F.slot_tuple_hash.lookup ?_)
  show wpAny _ _ (seqItems? (.ref b) >>= _) _ _ _
  refine wpAny_bind (wpAny_seqItems e1 e2 (wpAny_bind ?_))
  show wpAny _ _ (forIn its _ _) _ _ _
  rw [← Array.forIn_toList]
  refine wpAny_forIn_list _ (fun l r s' => s' = s ∧ ∀ v ∈ l, carriedByValue v = true) _ ?_ ?_ _ _ ⟨rfl, bv⟩
  · rintro v l r s' ⟨z2, z3⟩
    obtain ⟨c, ec⟩ := hsh_some (z3 v List.mem_cons_self) 7
    rw [ec]
    refine wpAny_bind (wpAny_pure ?_)
    cases c with
    | true =>
      simp only [Bool.not_true, Bool.false_eq_true, if_false]
      exact wpAny_pure ⟨z2, fun y hy => z3 y (List.mem_cons_of_mem _ hy)⟩
    | false =>
      subst z2
      simp only [Bool.not_false, if_true]
      exact wpAny_pure (wpAny_pure (q false))
  · rintro ⟨r1, r2⟩ s' ⟨z2, _⟩
    subst z2
    cases r1 with
    | none => exact wpAny_pure (q true)
    | some c => exact wpAny_pure (q c)
end
end Deed.KS

namespace Deed.KS
open PySem PySem.Spec PyProof.Rows L2
section
variable {P : Program} {w : World} {α : Type} [DecidableEq α] {knd : KeyKind P w α} {A : Around} {E : Value → Shared → Prop} {s : Shared}
/-- nobody sees a search among tuples -/
theorem unseen {k : List α} {b : Addr} {Q : Bool → Shared → Prop} (hk : IsTupleKey knd s.heap k b) {ys : List Value} (hy : ∀ y ∈ ys, ∃ m c, y = Value.ref c ∧ IsTupleKey knd s.heap m c) (q : Q false s) : wpAny (model P w) A (searchCouldBeSeen (.ref b) ys) Q E s := by
  unfold searchCouldBeSeen
  refine wpAny_bind (wpAny_forIn_list _ (fun l r s' => r.1 = none ∧ s' = s ∧ ∀ y ∈ l, ∃ m c, y = Value.ref c ∧ IsTupleKey knd s.heap m c) _ ?_ ?_ _ _ ⟨rfl, rfl, hy⟩)
  · rintro v l r s' ⟨z1, z2, z3⟩
    obtain ⟨m, c, e, hc⟩ := z3 v List.mem_cons_self
    subst e z2
    have z4 : ∀ y ∈ l, ∃ m c, y = Value.ref c ∧ IsTupleKey knd s'.heap m c := fun y hy' => z3 y (List.mem_cons_of_mem _ hy')
    dsimp only
    cases hv : (b == c || (carriedByValue (.ref b) && carriedByValue (.ref c))) with
    | true => exact wp_if_pos rfl (wpAny_pure ⟨rfl, rfl, z4⟩)
    | false =>
      refine wp_if_neg (by decide) (wpAny_bind (wpAny_eqIsQuiet_tuple hk ?_))
      simp only [Bool.not_true, Bool.false_eq_true, if_false]
      refine wpAny_bind (wpAny_eqIsQuiet_tuple hc ?_)
      simp only [Bool.not_true, Bool.false_eq_true, if_false]
      refine wpAny_bind (cls_tup hk ?_)
      simp only [Bool.false_eq_true, if_false]
      refine wpAny_bind (cls_tup hc ?_)
      simp only [Bool.false_eq_true, if_false]
      exact wpAny_pure ⟨rfl, rfl, z4⟩
  · rintro ⟨r1, r2⟩ s' ⟨z1, z2, _⟩
    simp only at z1
    subst z1 z2
    exact wpAny_pure q
/-- what stands in the set's table -/
def cells (knd : KeyKind P w α) (L : List (Addr × List α)) : List (Int × Value) := L.map fun z => (tupleKeyHash knd z.2, .ref z.1)
structure Held (knd : KeyKind P w α) (h : Heap) (a : Addr) (L : List (Addr × List α)) (es : Array (Int × Value)) (ep : Nat) (t : SetTable) : Prop where
  obj : ∃ o, h.get? a = some o ∧ o.ExactSet ∧ o.data = .set es ep t
  row : es.toList = cells knd L
  tab : TabOk t (L.map fun z => tupleKeyHash knd z.2)
  apart : (L.map (·.2)).Nodup
  keys : ∀ z ∈ L, IsTupleKey knd h z.2 z.1
  led : w.params.followText "set-order" = true ∨ t.led = true
  m7 : t.mask = 7
  few : L.length ≤ 4
variable {a : Addr} {L : List (Addr × List α)} {es : Array (Int × Value)} {ep : Nat} {t : SetTable}
theorem Held.size {h : Heap} (R : Held knd h a L es ep t) : es.size = L.length := by
  rw [← Array.length_toList, R.row]
  exact List.length_map _
theorem Held.psize {h : Heap} (R : Held knd h a L es ep t) : t.place.size = L.length := by
  rw [R.tab.sz]
  exact List.length_map _
theorem Held.fits {h : Heap} (R : Held knd h a L es ep t) : t.fits es.size = true := by
  have h1 := R.psize
  have h2 := R.size
  have h3 := R.few
  have h4 := R.m7
  have h5 : t.dummies.size = 0 := by rw [R.tab.dm]; rfl
  have h6 : t.fill ≤ t.mask := by
    show t.place.size + t.dummies.size ≤ t.mask
    omega
  unfold SetTable.fits
  rw [Bool.and_eq_true, beq_iff_eq]
  exact ⟨h1.trans h2.symm, decide_eq_true h6⟩
theorem Held.entry {h : Heap} (R : Held knd h a L es ep t) {i : Nat} {z : Addr × List α} (e : L[i]? = some z) : es[i]? = some (tupleKeyHash knd z.2, .ref z.1) := by
  rw [← Array.getElem?_toList, R.row, cells, List.getElem?_map, e]
  rfl
theorem Held.stays {h : Heap} (R : Held knd h a L es ep t) : ¬ t.gaveWay = true := by
  have := R.m7
  unfold SetTable.gaveWay
  rw [this]
  decide
theorem one_memory (t : SetTable) : t.sameMemory t.moves t.mask = some true := by
  simp [SetTable.sameMemory]
abbrev pr (t : SetTable) (hh : Int) (c : Nat) : SetTable.Probe := nth t.mask (runAt t.mask (SetTable.bits hh % (t.mask + 1)) (SetTable.bits hh)) c
theorem nth_dummy (m : Nat) : ∀ (n : Nat) (p : SetTable.Probe), p.dummy = none → (nth m p n).dummy = none
  | 0, _, h => h
  | n + 1, p, h => nth_dummy m n (adv m p) (by
    unfold adv
    split
    · exact h
    · exact h)
theorem pr_add (t : SetTable) (hh : Int) (c q : Nat) : nth t.mask (pr t hh c) q = pr t hh (c + q) := (nth_add t.mask c _ q).symm
/-- the search for a key, from a step of its way on -/
theorem seek (R : Held knd s.heap a L es ep t) {x : Addr} {k : List α} (hx : IsTupleKey knd s.heap k x) (hu : A.units < cLine) {n : Nat} (hn : n < 10 * SetTable.turns t.mask) (gap : way t.mask (tupleKeyHash knd k) n ∉ t.place.toList) (full : ∀ c, c < n → way t.mask (tupleKeyHash knd k) c ∈ t.place.toList)
    {Q : SetFound → Shared → Prop} (yes : k ∈ L.map (·.2) → Q (.there none) s) (no : k ∉ L.map (·.2) → Q (.free (way t.mask (tupleKeyHash knd k) n) false) s) :
    ∀ (f c : Nat) (st : Option SetTable.Probe), st.getD (t.probeStart (tupleKeyHash knd k)) = pr t (tupleKeyHash knd k) c → c ≤ n → n - c < f → (∀ (i : Nat) z, L[i]? = some z → z.2 = k → ∃ d, c ≤ d ∧ d < n ∧ t.place.toList[i]? = some (way t.mask (tupleKeyHash knd k) d)) →
      wpAny (model P w) A (setSearchFrom a (.ref x) (tupleKeyHash knd k) true f st) Q E s := by
  generalize hgh : tupleKeyHash knd k = hh at gap full no ⊢
  intro f
  induction f with
  | zero => exact fun c st _ _ z => absurd z (Nat.not_lt_zero _)
  | succ f ih =>
    intro c st est hcn hf later
    obtain ⟨o, e1, _, e2⟩ := R.obj
    rw [setSearchFrom_succ]
    refine wpAny_bind (wpAny_setState_of e1 e2 R.fits ?_)
    dsimp only
    refine wp_if_neg R.stays ?_
    try refine wpAny_bind (wpAny_pure ?_)
    have key := go_spec t R.tab.ris R.tab.dm (fun i => (es[i]?.map (·.1)).getD 0) hh (10 * SetTable.turns t.mask) (n - c) (pr t hh c) (nth_dummy _ _ _ rfl) (by omega)
      (fun q hq => by rw [pr_add]; exact full (c + q) (by omega)) (by rw [pr_add, show c + (n - c) = n by omega]; exact gap)
    have hashOf : ∀ (i : Nat) z, L[i]? = some z → (es[i]?.map (·.1)).getD 0 = tupleKeyHash knd z.2 := fun i z e => by
      rw [R.entry e]
      rfl
    rcases key with ⟨q, i, hq, hi, hhi, past, met⟩ | ⟨past, met⟩
    · rw [pr_add] at hi met
      rw [pr_add] at met
      have met' : t.probe (fun i => (es[i]?.map (·.1)).getD 0) hh (st.getD (t.probeStart hh)) = some (.candidate (way t.mask hh (c + q)) i (pr t hh (c + (q + 1)))) := by
        rw [est]
        exact met
      rw [met']
      dsimp only
      have hil : i < L.length := by
        have h1 := (List.getElem?_eq_some_iff.mp hi).1
        rw [Array.length_toList, R.psize] at h1
        exact h1
      obtain ⟨z, hz⟩ : ∃ z, L[i]? = some z := ⟨_, List.getElem?_eq_getElem hil⟩
      have mz := List.mem_of_getElem? hz
      have go : wpAny (model P w) A (searchRest a (.ref x) hh true f es t (way t.mask hh (c + q)) i (pr t hh (c + (q + 1)))) Q E s := by
        unfold searchRest
        rw [R.entry hz]
        dsimp only
        refine wpAny_bind (wpAny_holding (wpAny_eqBool_tuple hu (R.keys z mz) hx (wpAny_bind (wpAny_setState_of e1 e2 R.fits ?_))))
        dsimp only
        by_cases hk : z.2 = k
        · exact wp_if_pos (by simp [hk]) (wpAny_pure (yes (List.mem_map.mpr ⟨z, mz, hk⟩)))
        · refine wp_if_neg (by simp [hk]) ?_
          try refine wpAny_bind (wpAny_pure ?_)
          rw [one_memory]
          dsimp only
          have live : t.slot (way t.mask hh (c + q)) = .live i := slot_live R.tab.ris hi
          simp only [if_true, live, R.entry hz]
          refine wpAny_bind (wpAny_isSame_ref_self (wpAny_bind (wpAny_pure ?_)))
          simp only [if_true]
          refine wp_if_neg (by simp [hk]) (ih (c + (q + 1)) _ rfl (by omega) (by omega) fun j y hy hyk => ?_)
          obtain ⟨d, d1, d2, d3⟩ := later j y hy hyk
          have same : (es[j]?.map (·.1)).getD 0 = hh := by rw [hashOf j y hy, hyk, hgh]
          refine ⟨d, ?_, d2, d3⟩
          rcases Nat.lt_trichotomy d (c + q) with lt | eq | gt
          · have e4 : (pr t hh (c + (d - c))) = pr t hh d := by rw [show c + (d - c) = d by omega]
            exact absurd same (past (d - c) j (by omega) (by rw [pr_add, e4]; exact d3))
          · rw [eq] at d3
            have live2 := slot_live R.tab.ris d3
            rw [live] at live2
            injection live2 with e5
            rw [← e5, hz] at hy
            injection hy with hy
            exact absurd (by rw [hy]; exact hyk) hk
          · omega
      by_cases hl : t.led = true
      · refine wp_if_neg (by simp [hl]) ?_
        try refine wpAny_bind (wpAny_pure ?_)
        exact go
      · refine wp_if_pos (by simp [hl]) (wpAny_bind (unseen hx (fun y hy => ?_) ?_))
        · obtain ⟨e, he, ey⟩ := List.mem_map.mp hy
          have he' : e ∈ es.toList := by
            have : e ∈ es ∧ e.1 = hh := by simpa using he
            simpa using this.1
          rw [R.row] at he'
          obtain ⟨z', hz', ez⟩ := List.mem_map.mp he'
          exact ⟨z'.2, z'.1, by rw [← ey, ← ez], R.keys z' hz'⟩
        · refine wp_if_neg (by decide) ?_
          try refine wpAny_bind (wpAny_pure ?_)
          exact go
    · rw [pr_add, show c + (n - c) = n by omega] at met
      have met' : t.probe (fun i => (es[i]?.map (·.1)).getD 0) hh (st.getD (t.probeStart hh)) = some (.empty (way t.mask hh n) none) := by
        rw [est]
        exact met
      rw [met']
      dsimp only
      refine wpAny_pure (no fun hm => ?_)
      obtain ⟨z, hz, hzk⟩ := List.mem_map.mp hm
      obtain ⟨i, hi⟩ := List.mem_iff_getElem?.mp hz
      obtain ⟨d, d1, d2, d3⟩ := later i z hi hzk
      have e4 : (pr t hh (c + (d - c))) = pr t hh d := by rw [show c + (d - c) = d by omega]
      exact past (d - c) i (by omega) (by rw [pr_add, e4]; exact d3) (by rw [hashOf i z hi, hzk, hgh])
end
end Deed.KS

namespace Deed.KS
open PySem PySem.Spec PyProof.Rows L2
section
variable {P : Program} {w : World} {α : Type} [DecidableEq α] {knd : KeyKind P w α} {A : Around} {E : Value → Shared → Prop} {s : Shared} {a : Addr} {L : List (Addr × List α)} {es : Array (Int × Value)} {ep : Nat} {t : SetTable}
theorem seek0 (R : Held knd s.heap a L es ep t) {x : Addr} {k : List α} (hx : IsTupleKey knd s.heap k x) (hu : A.units < cLine) {Q : SetFound → Shared → Prop} (yes : k ∈ L.map (·.2) → Q (.there none) s)
    (no : ∀ n, k ∉ L.map (·.2) → way t.mask (tupleKeyHash knd k) n ∉ t.place.toList → (∀ c, c < n → way t.mask (tupleKeyHash knd k) c ∈ t.place.toList) → Q (.free (way t.mask (tupleKeyHash knd k) n) false) s) :
    wpAny (model P w) A (setSearch a (.ref x) (tupleKeyHash knd k) true) Q E s := by
  have m7 := R.m7
  have few := R.few
  obtain ⟨n, n1, n2, n3⟩ := R.tab.first (by rw [List.length_map]; omega) (tupleKeyHash knd k)
  have n4 : n < 100000 := by
    rw [m7] at n1
    have : 10 * SetTable.turns 7 ≤ 1000 := by decide
    omega
  unfold setSearch
  refine seek R hx hu n1 n2 n3 yes (fun hk => no n hk n2 n3) 100000 0 none rfl (Nat.zero_le _) (by omega) fun i z hz hk => ?_
  have h1 : i < L.length := (List.getElem?_eq_some_iff.mp hz).1
  have h2 : i < t.place.toList.length := by rw [Array.length_toList, R.psize]; exact h1
  obtain ⟨d, d1, d2⟩ := R.tab.before (i := i) (h := tupleKeyHash knd k) n2 (by rw [List.getElem?_map, hz, ← hk]; rfl) (List.getElem?_eq_getElem h2)
  exact ⟨d, Nat.zero_le _, d1, by rw [List.getElem?_eq_getElem h2, d2]⟩
theorem Held.key_same {h h' : Heap} {k : List α} {b : Addr} (R : Held knd h a L es ep t) (hb : IsTupleKey knd h k b) (sb : Heap.SameBut a h h') : IsTupleKey knd h' k b := by
  obtain ⟨o, its, n, e1, e2, e3, e4⟩ := hb
  obtain ⟨o', f1, _, f2⟩ := R.obj
  refine ⟨o, its, n, (sb.2 b fun z => ?_).trans e1, e2, e3, e4⟩
  rw [z, f1] at e1
  injection e1 with e1
  rw [← e1, f2] at e3
  cases e3
/-- one put in, where there is room -/
theorem put_in (R : Held knd s.heap a L es ep t) {x : Addr} {k : List α} (hx : IsTupleKey knd s.heap k x) (hu : A.units < cLine) (room : L.length + 1 ≤ 4) {Q : Bool → Shared → Prop}
    (q : ∀ b h' L' es' ep' t', Heap.SameBut a s.heap h' → Held knd h' a L' es' ep' t' → (k ∈ L.map (·.2) → L' = L) → (k ∉ L.map (·.2) → L'.Perm ((x, k) :: L)) → Q b { s with heap := h' }) :
    wpAny (model P w) A (setAddHashed a (.ref x) (tupleKeyHash knd k)) Q E s := by
  obtain ⟨o, e1, e2, e3⟩ := R.obj
  unfold setAddHashed
  refine wpAny_holding ?_
  rw [show (100000 : Nat) = 99999 + 1 from rfl, setAddHashedIn_succ]
  refine wpAny_bind (wpAny_setState_of e1 e3 R.fits ?_)
  dsimp only
  refine wp_if_neg (by simp [byScan, Value.scannable]) ?_
  try refine wpAny_bind (wpAny_pure ?_)
  refine wpAny_bind (seek0 R hx hu (fun hm => ?_) fun n hm gap full => ?_)
  · dsimp only
    exact wpAny_pure (q false _ L es ep t (Heap.SameBut.refl a s.heap) R (fun _ => rfl) fun z => absurd hm z)
  dsimp only
  refine wpAny_bind (wpAny_setState_of e1 e3 R.fits ?_)
  dsimp only
  obtain ⟨p1, p2, p3, p4, p5, _, _, _, p9⟩ := R.tab.put gap full
  generalize hpt : t.put (way t.mask (tupleKeyHash knd k) n) = pt at p1 p3 p4 p5 p9 ⊢
  obtain ⟨t1, p⟩ := pt
  dsimp only at p1 p3 p4 p5 p9 ⊢
  subst p1
  have r1 : (SetTable.insertAt es (SetTable.below t.place (way t.mask (tupleKeyHash knd k) n)) (tupleKeyHash knd k, Value.ref x)).toList = cells knd (L.take (SetTable.below t.place (way t.mask (tupleKeyHash knd k) n)) ++ (x, k) :: L.drop (SetTable.below t.place (way t.mask (tupleKeyHash knd k) n))) := by
    rw [SetTable.toList_insertAt, R.row]
    simp only [cells, List.map_append, List.map_cons, List.map_take, List.map_drop]
  generalize SetTable.below t.place (way t.mask (tupleKeyHash knd k) n) = p at p2 p3 r1 ⊢
  have pm : (L.take p ++ (x, k) :: L.drop p).Perm ((x, k) :: L) := put_perm L p (x, k)
  have r2 : (L.map fun z => tupleKeyHash knd z.2).take p ++ tupleKeyHash knd k :: (L.map fun z => tupleKeyHash knd z.2).drop p = (L.take p ++ (x, k) :: L.drop p).map fun z => tupleKeyHash knd z.2 := by
    simp only [List.map_append, List.map_cons, List.map_take, List.map_drop]
  rw [r2] at p3
  generalize L.take p ++ (x, k) :: L.drop p = L1 at pm p3 r1
  generalize SetTable.insertAt es p (tupleKeyHash knd k, Value.ref x) = es1 at r1 ⊢
  have n1 : L1.length = L.length + 1 := pm.length_eq
  have n2 : es1.size = L.length + 1 := by
    rw [← Array.length_toList, r1, ← n1]
    exact List.length_map _
  have app : (L1.map (·.2)).Nodup := (pm.map (·.2)).nodup_iff.mpr (List.nodup_cons.mpr ⟨hm, R.apart⟩)
  have m7 : t1.mask = 7 := p4.trans R.m7
  rw [List.length_map] at p9
  -- behind the question whether the hash is by value
  have rest : ∀ t2 : SetTable, t2.mask = t1.mask → t2.place = t1.place → t2.dummies = t1.dummies → t2.led = t1.led → wpAny (model P w) A (storeSet a es1 t2 >>= fun _ => if (!false && t2.tooFull) = true then (setRelay a (SetTable.grown (es.size + 1)) >>= fun _ => pure true) else pure true) Q E s := by
    intro t2 u1 u2 u3 u4
    refine wpAny_bind (wpAny_storeSet_of e1 e3 ?_ (by rw [n2, sizeLine_eq]; omega))
    have sb : Heap.SameBut a s.heap (s.heap.update a (Obj.putSet es1 t2)) := Heap.SameBut.update ..
    have o1 := store_at (es' := es1) (t' := t2) e1 e3
    have full2 : t2.tooFull = false := by
      have : t2.fill = L.length + 1 := by
        show t2.place.size + t2.dummies.size = _
        rw [u2, u3]
        exact p9
      unfold SetTable.tooFull
      rw [this, u1, m7]
      exact decide_eq_false (by omega)
    refine wp_if_neg (by simp [full2]) (wpAny_pure ?_)
    have tb : TabOk t2 (L1.map fun z => tupleKeyHash knd z.2) := by
      refine ⟨by rw [u2]; exact p3.ris, by rw [u3]; exact p3.dm, by rw [u2]; exact p3.sz, by rw [u1]; exact p3.mok, by rw [u1, u2]; exact p3.bd, ?_⟩
      rw [u1, u2]
      exact p3.reach
    refine q true _ L1 es1 (ep + 1) t2 sb ⟨⟨_, o1, ⟨e2.1, e2.2.1, e2.2.2⟩, rfl⟩, r1, tb, app, fun z hz => ?_, ?_, u1.trans m7, by omega⟩ (fun z => absurd z hm) fun _ => pm
    · rcases List.mem_cons.mp (pm.mem_iff.mp hz) with rfl | hz
      · exact R.key_same hx sb
      · exact R.key_same (R.keys z hz) sb
    · rw [u4, p5]
      exact R.led
  cases hpl : t1.plain with
  | false =>
    first
      | (refine wpAny_bind ?_; refine wp_if_neg (by simp) (wpAny_pure ?_))
      | refine wp_if_neg (by simp) (wpAny_bind (wpAny_pure ?_))
    simp only [if_true]
    exact rest t1 rfl rfl rfl rfl
  | true =>
    first
      | (refine wpAny_bind ?_; refine wp_if_pos rfl (hsh_tup hx fun c => ?_))
      | refine wp_if_pos rfl (wpAny_bind (hsh_tup hx fun c => ?_))
    cases c with
    | true =>
      simp only [if_true]
      exact rest t1 rfl rfl rfl rfl
    | false =>
      simp only [Bool.false_eq_true, if_false]
      exact rest { t1 with plain := false } rfl rfl rfl rfl
end
end Deed.KS

namespace Deed.KS
open PySem PySem.Spec PyProof.Rows L2
/-- what the set has of the first i of ks -/
structure Some_ {α : Type} (ks : List (Addr × List α)) (i : Nat) (L : List (Addr × List α)) : Prop where
  from_ : ∀ z ∈ L, z ∈ ks.take i
  has : ∀ z ∈ ks.take i, z.2 ∈ L.map (·.2)
  size : L.length ≤ i
theorem Some_.more {α : Type} {ks L L' : List (Addr × List α)} {i : Nat} {x : Addr × List α} (g : Some_ ks i L) (h : ks[i]? = some x) (old : x.2 ∈ L.map (·.2) → L' = L) (new : x.2 ∉ L.map (·.2) → L'.Perm (x :: L)) : Some_ ks (i + 1) L' := by
  have e : ks.take (i + 1) = ks.take i ++ [x] := by
    rw [List.take_add_one, h]
    rfl
  rcases Classical.em (x.2 ∈ L.map (·.2)) with c | c
  · rw [old c]
    refine ⟨fun z hz => by rw [e]; exact List.mem_append_left _ (g.from_ z hz), fun z hz => ?_, Nat.le_succ_of_le g.size⟩
    rw [e] at hz
    rcases List.mem_append.mp hz with hz | hz
    · exact g.has z hz
    · rw [List.mem_singleton.mp hz]
      exact c
  · have pm := new c
    refine ⟨fun z hz => ?_, fun z hz => ?_, ?_⟩
    · rw [e]
      rcases List.mem_cons.mp (pm.mem_iff.mp hz) with rfl | hz
      · exact List.mem_append_right _ List.mem_cons_self
      · exact List.mem_append_left _ (g.from_ z hz)
    · rw [(pm.map (·.2)).mem_iff, List.map_cons]
      rw [e] at hz
      rcases List.mem_append.mp hz with hz | hz
      · exact List.mem_cons_of_mem _ (g.has z hz)
      · rw [List.mem_singleton.mp hz]
        exact List.mem_cons_self
    · rw [pm.length_eq, List.length_cons]
      exact Nat.succ_le_succ g.size
section
variable {P : Program} {w : World} {α : Type} [DecidableEq α] {knd : KeyKind P w α} {A : Around} {E : Value → Shared → Prop} {s : Shared}
abbrev new_ (w : World) : Obj := { cls := .type "set", dict := none, data := .set #[] 0 (.fresh 0 0 (!w.params.followText "set-order")) }
theorem key_keep {h h' : Heap} {k : List α} {b : Addr} (x : IsTupleKey knd h k b) (hk : ∀ c o, h.get? c = some o → h'.get? c = some o) : IsTupleKey knd h' k b :=
  let ⟨o, its, n, e, r⟩ := x
  ⟨o, its, n, hk _ _ e, r⟩
theorem Held.keep {h h' : Heap} {a : Addr} {L : List (Addr × List α)} {es : Array (Int × Value)} {ep : Nat} {t : SetTable} (R : Held knd h a L es ep t) (ha : ∀ o, h.get? a = some o → h'.get? a = some o) (hk : ∀ z ∈ L, IsTupleKey knd h' z.2 z.1) : Held knd h' a L es ep t :=
  ⟨let ⟨o, e, r⟩ := R.obj; ⟨o, ha o e, r⟩, R.row, R.tab, R.apart, hk, R.led, R.m7, R.few⟩
theorem held_new {h : Heap} {a : Addr} (e : h.get? a = some (new_ w)) : Held knd h a [] #[] 0 (.fresh 0 0 (!w.params.followText "set-order")) := by
  refine ⟨⟨_, e, ⟨rfl, rfl, rfl⟩, rfl⟩, rfl, ⟨List.Pairwise.nil, rfl, rfl, .inl rfl, fun _ z => (by cases z), fun _ _ _ z => (by simp at z)⟩, List.nodup_nil, fun _ z => (nomatch z), ?_, rfl, Nat.zero_le _⟩
  show _ ∨ (!w.params.followText "set-order") = true
  cases w.params.followText "set-order" <;> simp
/-- the set is filled -/
theorem fill {I : Addr} {fp wr : List Addr} {G : Array GenState → Array GenState → Prop} {n : Nat} {Pv : Nat → Value → Prop} {St : Nat → Shared → Prop} {R : Result → Shared → Prop} (W : WalksS P w A.in1 I fp wr G n Pv St) (S : Addr) (out : S ∉ fp) (ks : List (Addr × List α)) (hn : n = ks.length) (few : ks.length ≤ 4)
    (vals : ∀ i v, Pv i v → ∃ z, ks[i]? = some z ∧ v = .ref z.1) (h0 : Heap) (hks : ∀ z ∈ ks, IsTupleKey knd h0 z.2 z.1) (hS : h0.get? S = none) (hwr : ∀ b ∈ wr, h0.get? b = none) (hu : A.in1.units < cLine) :
    ∀ (d i : Nat) (s : Shared), n - i = d → i ≤ n → St i s → (∀ b o, h0.get? b = some o → s.heap.get? b = some o) → (∃ L es ep t, Held knd s.heap S L es ep t ∧ Some_ ks i L) →
      (∀ s' L es ep t, Moved (S :: wr) G s s' → Held knd s'.heap S L es ep t → Some_ ks n L → R (.ok (.ret .none)) s') → codeAny (model P w) A (.builtin "set.update.loop" ⟨[.ref S, .ref I], []⟩) R s := by
  have outw : S ∉ wr := fun z => out (W.sub _ z)
  have kept : ∀ {s s' : Shared}, Moved wr G s s' → (∀ b o, h0.get? b = some o → s.heap.get? b = some o) → ∀ b o, h0.get? b = some o → s'.heap.get? b = some o := fun mv kp b o e => mv.heap b o (fun z => by rw [hwr b z] at e; cases e) (kp b o e)
  intro d
  induction d with
  | zero =>
    intro i s hd hi st kp ⟨L, es, ep, t, H, g⟩ fin
    obtain rfl : i = n := by omega
    refine codeAny_builtin F.entry_set_update_loop ?_
    rw [Around.under_plainId F.plain_set_update_loop _]
    show wpAny _ A.in1 (pyNext (.ref I) >>= _) _ _ _
    refine wpAny_bind (W.done s _ _ st fun s' mv => ?_)
    show wpAny _ A.in1 (ret Value.none) _ _ _
    have kp' := kept mv kp
    exact wpAny_pure (fin s' L es ep t (mv.mono fun b hb => List.mem_cons_of_mem _ hb) (H.keep (fun o e => mv.heap S o outw e) fun z hz => key_keep (hks z (List.mem_of_mem_take (g.from_ z hz))) kp') g)
  | succ d ih =>
    intro i s hd hi st kp ⟨L, es, ep, t, H, g⟩ fin
    have lt : i < n := by omega
    refine codeAny_builtin F.entry_set_update_loop ?_
    rw [Around.under_plainId F.plain_set_update_loop _]
    show wpAny _ A.in1 (pyNext (.ref I) >>= _) _ _ _
    refine wpAny_bind (W.item i s _ _ lt st fun v s' hv st' mv => ?_)
    obtain ⟨z, hz, rfl⟩ := vals i v hv
    have kp' := kept mv kp
    have H' : Held knd s'.heap S L es ep t := H.keep (fun o e => mv.heap S o outw e) fun y hy => key_keep (hks y (List.mem_of_mem_take (g.from_ y hy))) kp'
    have hx : IsTupleKey knd s'.heap z.2 z.1 := key_keep (hks z (List.mem_of_getElem? hz)) kp'
    show wpAny _ A.in1 (holding [Value.ref z.1] (setAdd S (.ref z.1)) >>= _) _ _ _
    refine wpAny_bind (wpAny_holding ?_)
    unfold setAdd
    refine wpAny_holding (wpAny_bind (wpAny_pyHash_tuple hu hx ?_))
    have sz := g.size
    refine put_in (s := { s' with toks := s'.toks + (z.2.length + 1) }) H' hx hu (by omega) fun b h' L' es' ep' t' sb H2 old new => ?_
    have kp2 : ∀ b o, h0.get? b = some o → h'.get? b = some o := fun b o e => (sb.2 b fun q => by rw [q, hS] at e; cases e).trans (kp' b o e)
    refine wpAny_pure ⟨plainId_quiet F.plain_set_update_loop _, ih (i + 1) _ (by omega) lt (W.frame _ s' _ _ st' (Nat.le_add_right _ _) fun b hb o e => ?_) kp2 ⟨L', es', ep', t', H2, g.more hz old new⟩ fun s3 L3 es3 ep3 t3 mv3 H3 g3 => ?_⟩
    · exact (sb.2 b fun q => out (q ▸ hb)).trans e
    · refine fin s3 L3 es3 ep3 t3 (Moved.trans W.gtrans ((mv.mono fun b hb => List.mem_cons_of_mem _ hb).then_heap (Nat.le_add_right _ _) fun b o hb e => ?_) mv3) H3 g3
      exact (sb.2 b fun q => hb (q ▸ List.mem_cons_self)).trans e
set_option maxHeartbeats 8000000 in
/-- set(xs) of a list -/
theorem call_set {l : Addr} {items : Array Value} (ks : List (Addr × List α)) {Q : Value → Shared → Prop} (nh : A.handled = none) (il : s.heap.IsList l items) (ia : items.toList = ks.map fun z => Value.ref z.1) (hks : ∀ z ∈ ks, IsTupleKey knd s.heap z.2 z.1) (few : ks.length ≤ 4) (hu : A.units + 3 < cLine)
    (fin : ∀ (h' : Heap) (tk : Nat) L es ep t, Held knd h' s.heap.objs.size L es ep t → Some_ ks ks.length L → (∀ b o, s.heap.get? b = some o → h'.get? b = some o) → Q (.ref s.heap.objs.size) { s with heap := h', toks := tk }) :
    wpAny (model P w) A (call (.type "set") [Value.ref l]) Q E s := by
  have zl : items.size = ks.length := by
    rw [← Array.length_toList, ia, List.length_map]
  obtain ⟨mc, mt, f1⟩ := F.called_set.mro
  have f2 := F.called_set.made
  have f3 := F.called_set.sub
  refine wpAny_call (codeAny_of_tree (?_))
  show wpAny _ _ (callAny (Value.type "set") _) _ _ _
  refine wpAny_pure ⟨Code.quiet_builtin _ (by decide +kernel), (codeAny_builtin F.entry_type_call ?_)⟩
  rw [Around.under_plain (weight_type_call_type "set" [Value.ref l] []) rfl]
  have f4 := F.called_set.notType
  have f5 := F.called_set.canCreate
  have f6 := F.typeCall_set_1 (.ref l)
  repeat (any_goals (first | assumption | wp_step))
  refine codeAny_mono (code_set_led1 (Value.ref l) (E := E) (Q₁ := fun o s₁ => o = .ref s.heap.objs.size ∧ s₁ = { s with heap := s.heap.push (new_ w) }) ⟨rfl, rfl⟩) fun r s₁ hr => ?_
  match r, hr with
  | .error e, hr => exact hr
  | .ok .next, hr => exact hr.elim
  | .ok .brk, hr => exact hr.elim
  | .ok .cont, hr => exact hr.elim
  | .ok (.ret o), hr =>
    obtain ⟨rfl, rfl⟩ := hr
    have atS : (s.heap.push (new_ w)).get? s.heap.objs.size = some (new_ w) := Heap.get?_push_size _ rfl
    have tyS : Shared.TypeIs { s with heap := s.heap.push (new_ w) } (.ref s.heap.objs.size) "set" := ⟨_, atS, rfl⟩
    have f7 := F.called_set.init.lookup
    have f8 := F.called_set.init.bind (.ref s.heap.objs.size)
    repeat (any_goals (first | assumption | wp_step))
    refine codeAny_mono (codeAny_call_builtin (R := wants (fun r s₂ => r = .none ∧ ∃ h' tk L es ep t, s₂ = { s with heap := h', toks := tk } ∧ Held knd h' s.heap.objs.size L es ep t ∧ Some_ ks ks.length L ∧ (∀ b o, s.heap.get? b = some o → h'.get? b = some o)) E) F.called_set.init.plain F.entry_set_init (check_set_init_1 tyS ?_)) fun r₂ s₂ hr₂ => ?_
    · obtain ⟨⟨oc, od, dt, sl⟩, gl, gc, en, gd⟩ := il
      simp only at gc gd
      subst gc
      subst gd
      have gl' : (s.heap.push (new_ w)).get? l = some { cls := .type "list", dict := od, data := .seq items en, slots := sl } := Heap.get?_push_of_some _ gl
      have f9 := F.sub_list_set
      have f10 := F.sub_list_frozenset
      have f11 : (Value.type "list" == Value.type "dict") = false := by decide
      have il' : (s.heap.push (new_ w)).IsList l items := ⟨_, gl', rfl, en, rfl⟩
      unfold Builtin.«set.__init__» noKeywords Builtin.Frozenset.updateFrom
      generalize ePI : pyIter = IT
      wp_walk
      subst ePI
      refine wpAny_pyIter_list il' ?_
      refine wpAny_bind (wpAny_runValue (?_))
      have lt0 : l < s.heap.objs.size := Heap.lt_size gl
      have nh3 : A.in1.in1.in1.handled = none := by simp [nh]
      have nI : l ≠ (s.heap.push (new_ w)).objs.size := by rw [Heap.size_push]; exact Nat.ne_of_lt (Nat.lt_succ_of_lt lt0)
      have nS : s.heap.objs.size ∉ [(s.heap.push (new_ w)).objs.size, l] := by
        rw [Heap.size_push]
        simp only [List.mem_cons, List.not_mem_nil, or_false, not_or]
        exact ⟨Nat.ne_of_lt (Nat.lt_succ_self _), Nat.ne_of_gt lt0⟩
      have vals : ∀ (i : Nat) (v : Value), items[i]? = some v → ∃ z, ks[i]? = some z ∧ v = .ref z.1 := fun i v hv => by
        have q : items.toList[i]? = some v := by rw [Array.getElem?_toList]; exact hv
        rw [ia, List.getElem?_map] at q
        obtain ⟨z, hz, e⟩ := Option.map_eq_some_iff.mp q
        exact ⟨z, hz, e.symm⟩
      have above : ∀ b, s.heap.objs.size ≤ b → s.heap.get? b = none := fun b hb => by
        cases q : s.heap.get? b with
        | none => rfl
        | some o => exact absurd (Nat.lt_of_lt_of_le (Heap.lt_size q) hb) (Nat.lt_irrefl _)
      refine fill ((Walks.list nh3 _ l nI items).toS) s.heap.objs.size nS ks zl few vals s.heap hks (above _ (Nat.le_refl _)) (fun b hb => above b ?_) hu (items.size - 0) 0 _ (by omega) (Nat.zero_le _) ⟨⟨_, Heap.get?_push_size _ rfl, rfl, rfl⟩, il'.push _⟩ (fun b o e => Heap.get?_push_of_some _ (Heap.get?_push_of_some _ e)) ⟨[], #[], 0, _, held_new (Heap.get?_push_of_some _ atS), ⟨fun _ z => (nomatch z), fun _ z => (by simp at z), Nat.le_refl _⟩⟩ fun s' L es ep t mv H' g' => ?_
      · rw [List.mem_singleton.mp hb, Heap.size_push]
        exact Nat.le_succ _
      obtain ⟨h', g2, d', tk', os'⟩ := s'
      obtain rfl : g2 = s.gens := mv.gens
      obtain rfl : d' = s.drawn := mv.drawn
      obtain rfl : os' = s.os := mv.os
      show wpAny _ _ _ _ _ _
      refine wpAny_pure (?_)
      show wpAny _ _ (ret Value.none) _ _ _
      refine wpAny_pure ⟨rfl, h', tk', L, es, ep, t, rfl, H', zl ▸ g', fun b o e => ?_⟩
      have ltb : b < s.heap.objs.size := Heap.lt_size e
      refine mv.heap b o (fun z => ?_) (Heap.get?_push_of_some _ (Heap.get?_push_of_some _ e))
      rw [Heap.size_push] at z
      simp only [List.mem_cons, List.not_mem_nil, or_false] at z
      rcases z with z | z
      · exact absurd z (Nat.ne_of_lt ltb)
      · exact absurd z (Nat.ne_of_lt (Nat.lt_succ_of_lt ltb))
    · match r₂, hr₂ with
      | .error e, hr₂ => exact hr₂
      | .ok .next, hr₂ => exact hr₂.elim
      | .ok .brk, hr₂ => exact hr₂.elim
      | .ok .cont, hr₂ => exact hr₂.elim
      | .ok (.ret r), hr₂ =>
        obtain ⟨rfl, h', tk, L, es, ep, t, rfl, H', g', kp⟩ := hr₂
        repeat (any_goals (first | assumption | wp_step))
        exact fin _ _ _ _ _ _ H' g' kp
end
end Deed.KS

namespace Deed
open PySem PySem.Spec PySem.W PyProof.Rows L2 LamX
/-! ### set(xs) of a few tuples of texts, and sorted of it -/
abbrev dWs (ws : List Str) : PyData := .tuple (ws.map PyData.str)
theorem perm_lifts {α β : Type} (f : α → β) {ys xs : List β} (h : ys.Perm xs) : ∀ zs : List α, xs = zs.map f → ∃ zs' : List α, ys = zs'.map f ∧ zs'.Perm zs := by
  induction h with
  | nil =>
    intro zs e
    cases zs with
    | nil => exact ⟨[], rfl, List.Perm.refl _⟩
    | cons z r => cases e
  | cons x _ ih =>
    intro zs e
    cases zs with
    | nil => cases e
    | cons z r =>
      rw [List.map_cons] at e
      injection e with e1 e2
      obtain ⟨zs', h1, h2⟩ := ih r e2
      exact ⟨z :: zs', by rw [List.map_cons, ← h1, e1], h2.cons z⟩
  | swap x y l =>
    intro zs e
    match zs, e with
    | [], e => cases e
    | [_], e => cases e
    | a :: b :: r, e =>
      rw [List.map_cons, List.map_cons] at e
      injection e with e1 e2
      injection e2 with e2 e3
      exact ⟨b :: a :: r, by rw [List.map_cons, List.map_cons, ← e1, ← e2, ← e3], List.Perm.swap _ _ _⟩
  | trans _ _ ih1 ih2 =>
    intro zs e
    obtain ⟨zs1, h1, h2⟩ := ih2 zs e
    obtain ⟨zs2, h3, h4⟩ := ih1 zs1 h1
    exact ⟨zs2, h3, h4.trans h2⟩
namespace KS
section
variable {P : Program} {w : World} {A : Around} {E : Value → Shared → Prop} {s : Shared} {a : Addr} {L : List (Addr × List Str)} {es : Array (Int × Value)} {ep : Nat} {t : SetTable}
theorem reads_key {h : Heap} : ∀ {ws : List Str} {us : List Value}, ItemsAre (strKind P w) ws us → ReadsAll h us (ws.map PyData.str) []
  | [], _, h => by
    cases h
    exact .nil
  | x :: r, _, h => by
    cases h with
    | cons h1 h2 =>
      obtain ⟨u, rfl⟩ := Value.isStrOf_shape h1
      exact .cons (as := []) (.str x u) (reads_key h2)
theorem reads_tup {h : Heap} {ws : List Str} {b : Addr} (x : IsTupleKey (strKind P w) h ws b) : Reads h (.ref b) (dWs ws) [] := by
  obtain ⟨o, its, n, e1, e2, e3, e4⟩ := x
  exact .tuple e1 e2 e3 (reads_key e4)
/-- sorted(set) -/
theorem call_sorted (R : Held (strKind P w) s.heap a L es ep t) (nh : A.handled = none) (ne : ∀ z ∈ L, z.2 ≠ []) (hu : A.units + 64 < cLine) {Q : Value → Shared → Prop}
    (fin : ∀ s' p (out : List Value) (c : Nat) (L' : List (Addr × List Str)), (∀ b o, s.heap.get? b = some o → s'.heap.get? b = some o) → s'.gens = s.gens → s'.os = s.os → s.heap.objs.size ≤ p → s'.heap.get? p = some (seqObj "list" out.toArray c) → out = L'.map (fun z => Value.ref z.1) →
      L'.Perm L → L'.Pairwise (fun y z => dataLt (dWs z.2) (dWs y.2) = false) → Q (.ref p) s') : wpAny (model P w) A (call (.builtin "sorted") [Value.ref a]) Q E s := by
  obtain ⟨o, e1, e2, e3⟩ := R.obj
  have few := R.few
  have sz := R.size
  refine Calls.call_function_entry kind_sorted plain_sorted entry_sorted (args_sorted1 (.ref a)) (?_)
  unfold Builtin.«sorted»
  refine wpAny_bind (m := checkCount "sorted" 1 1 _) (wpAny_pure (wpAny_bind ?_))
  refine collect_set (A := A.in1) nh ⟨o, e1, e2.1, e3⟩ R.fits (by unfold scanBound; omega) R.tab.ris R.led fun s1 vs k1 low g1 o1 pm => ?_
  have ev : es.toList.map (·.2) = L.map fun z => Value.ref z.1 := by
    rw [R.row]
    unfold cells
    rw [List.map_map]
    rfl
  rw [ev] at pm
  obtain ⟨L1, rfl, pm1⟩ := perm_lifts (fun z : Addr × List Str => Value.ref z.1) pm L rfl
  have l1 := pm1.length_eq
  refine wpAny_bind (wpAny_newList ?_ (by rw [List.length_map, sizeLine_eq]; omega))
  have at0 : (s1.heap.push (seqObj "list" (L1.map fun z => Value.ref z.1).toArray 0)).get? s1.heap.objs.size = some (seqObj "list" (L1.map fun z => Value.ref z.1).toArray 0) := Heap.get?_push_size _ rfl
  have rd : ∀ z ∈ L1, ∃ as, Reads (s1.heap.push (seqObj "list" (L1.map fun z => Value.ref z.1).toArray 0)) (.ref z.1) (dWs z.2) as ∧ s1.heap.objs.size ∉ as := fun z hz =>
    ⟨[], reads_tup (key_keep (R.keys z (pm1.mem_iff.mp hz)) fun c ob e => Heap.get?_push_of_some _ (k1 c ob e)), by simp⟩
  have each : ∀ {l : List (Addr × List Str)} {S : Value → Addr × List Str → Prop}, (∀ z ∈ l, S (.ref z.1) z) → EachIs S (l.map fun z => Value.ref z.1) l := by
    intro l S h
    induction l with
    | nil => exact .nil
    | cons z r ih => exact .cons (h z List.mem_cons_self) (ih fun y hy => h y (List.mem_cons_of_mem _ hy))
  have al : ∀ xs ys : List Str, alikeAll (xs.map PyData.str) (ys.map PyData.str) = true := fun xs ys => by
    induction xs generalizing ys with
    | nil => simp [alikeAll]
    | cons x xs ih =>
      cases ys with
      | nil => simp [alikeAll]
      | cons y ys => simp [alikeAll, alike, ih]
  have hal : AllAlike (L1.map fun z => dWs z.2) := AllAlike.of fun z z' => by
    show alike (.tuple _) (.tuple _) = true
    rw [alike]
    exact al _ _
  have hsr : Sortable (L1.map fun z => dWs z.2) := .inl fun d hd => by
    obtain ⟨z, hz, rfl⟩ := List.mem_map.mp hd
    have := ne z (pm1.mem_iff.mp hz)
    cases hz2 : z.2 with
    | nil => exact absurd hz2 this
    | cons y r => exact ⟨_, _, rfl⟩
  have dep : ∀ ws : List Str, PyData.depthAll (ws.map PyData.str) = 0 := fun ws => by
    induction ws with
    | nil => simp [PyData.depthAll]
    | cons y r ih => simp [PyData.depthAll, PyData.depth, ih]
  have kp : ∀ b o, s.heap.get? b = some o → ∀ out, (sortedHeap (s1.heap.push (seqObj "list" (L1.map fun z => Value.ref z.1).toArray 0)) s1.heap.objs.size (L1.map fun z => Value.ref z.1) out).get? b = some o := fun b ob e out => by
    have e' := k1 b ob e
    have lt := Heap.lt_size e'
    exact (sortedHeap_old (Nat.ne_of_lt lt) (by rw [size_push']; exact Nat.lt_succ_of_lt lt)).trans (Heap.get?_push_of_some _ e')
  refine wpAny_bind (wpAny_holding (list_sort_data (s := { s1 with heap := s1.heap.push (seqObj "list" (L1.map fun z => Value.ref z.1).toArray 0) }) (bs := L1) (R := fun v z => v = .ref z.1) (enc := fun z => dWs z.2) at0 (each fun z _ => rfl) (each rd) hal hsr (by rw [sizeLine_eq]; omega) (fun z _ => ?_) fun out ho eo => ?_))
  · show A.units + 1 + 1 + (dWs z.2).depth < cLine
    simp only [dWs, PyData.depth, dep]
    omega
  have eo' : out = (L1.mergeSort (dataLe false fun z => dWs z.2)).map fun z => Value.ref z.1 := by
    generalize L1.mergeSort (dataLe false fun z => dWs z.2) = M at eo
    clear ho
    induction eo with
    | nil => rfl
    | cons h _ ih => rw [List.map_cons, h, ih]
  have pw : (L1.mergeSort (dataLe false fun z => dWs z.2)).Pairwise (fun p q => dataLe false (fun z : Addr × List Str => dWs z.2) p q = true) := sort_pairwise (sortLe_total _ _ _) L1
  obtain ⟨c, hc⟩ := sortedHeap_at (vs := L1.map fun z => Value.ref z.1) (out := out.toArray) at0
  refine wpAny_pure ⟨_, rfl, fin _ s1.heap.objs.size out c _ (fun b ob e => kp b ob e _) g1 o1 low hc eo' ((List.mergeSort_perm _ _).trans pm1) (pw.imp fun h => ?_)⟩
  rw [dataLe_eq] at h
  simpa using h
end
end KS
/-- the set at a, but for the tuples themselves -/
def SetS (P : Program) (w : World) (a : Addr) (L : List (Addr × List Str)) : HO := .ext fun h => ∃ es ep t, (∃ o, h.get? a = some o ∧ o.ExactSet ∧ o.data = .set es ep t) ∧ es.toList = KS.cells (strKind P w) L ∧ TabOk t (L.map fun z => tupleKeyHash (strKind P w) z.2) ∧ (L.map (·.2)).Nodup ∧ (w.params.followText "set-order" = true ∨ t.led = true) ∧ t.mask = 7 ∧ L.length ≤ 4
section
variable {X : Cx}
theorem items_strs {P : Program} {w : World} : ∀ {ws : List Str} {us : List Value}, Vals (ws.map V.str) us → ItemsAre (strKind P w) ws us
  | [], _, h => by
    cases h
    exact .nil
  | x :: r, _, h => by
    cases h with
    | cons h1 h2 =>
      obtain ⟨t, rfl⟩ := h1
      exact .cons (Froz.is_str x t) (items_strs h2)
theorem inv_key {pins : List (Addr × Obj)} {σ : L2.St} {H : Hp} {s : Shared} (I : Inv X pins σ H s) {b : Addr} {ws : List Str} (h : SqT X.K H b (ws.map V.str)) : IsTupleKey (strKind X.prog X.w) s.heap ws b := by
  obtain ⟨its, r, ⟨o, e1, e2, n, e3⟩, _⟩ := I.tuple h
  exact ⟨o, its.toArray, n, e1, e2, e3, by simpa using items_strs r⟩
theorem setS_ok {P : Program} {w : World} {H : Hp} {h : Heap} {a : Addr} {L : List (Addr × List Str)} {es : Array (Int × Value)} {ep : Nat} {t : SetTable} (R : KS.Held (strKind P w) h a L es ep t) : ObjOk P w H h a (SetS P w a L) := by
  refine ⟨⟨es, ep, t, R.obj, R.row, R.tab, R.apart, R.led, R.m7, R.few⟩, let ⟨o, e, _⟩ := R.obj; ⟨o, e⟩, fun h1 h2 q k => ?_⟩
  obtain ⟨es', ep', t', ⟨o, e, r⟩, q'⟩ := q
  exact ⟨es', ep', t', ⟨o, k o e, r⟩, q'⟩
def rSetTs (K : PySem.W.Frag) (P : Program) (w : World) : List V → Hp → VK → Prop := fun xs H Q => ∃ (l : Addr) (ks : List (Addr × List Str)), xs = [V.ref l] ∧ SqL K H l (ks.map fun z => V.ref z.1) ∧ (∀ z ∈ ks, SqT K H z.1 (z.2.map V.str)) ∧ ks.length ≤ 4 ∧
  ∀ a L, H a = none → (∀ z ∈ L, z ∈ ks) → (∀ z ∈ ks, z.2 ∈ L.map (·.2)) → (L.map (·.2)).Nodup → Q (.ref a) (upd H a (SetS P w a L))
theorem refs_vals : ∀ {ks : List (Addr × List Str)} {us : List Value}, Vals (ks.map fun z => V.ref z.1) us → us = ks.map fun z => Value.ref z.1
  | [], _, h => by
    cases h
    rfl
  | z :: r, _, h => by
    cases h with
    | cons h1 h2 =>
      cases h1
      rw [refs_vals h2]
      rfl
theorem vals_refs : ∀ ks : List (Addr × List Str), Vals (ks.map fun z => V.ref z.1) (ks.map fun z => Value.ref z.1)
  | [] => .nil
  | _ :: r => .cons rfl (vals_refs r)
theorem cr_setTs (hc : X.calm = true) (hu : X.A.units + 64 < cLine) : CallR X (.type "set") (rSetTs X.K X.prog X.w) := by
  intro pins s σ H xs us Q I r h
  obtain ⟨l, ks, rfl, hl, hk, few, q⟩ := h
  rw [Vals.ref1 r]
  obtain ⟨its, rv, pl, hz⟩ := I.list hl
  have hn : H s.heap.objs.size = none := I.hok.fresh (Nat.le_refl _)
  refine KS.call_set (knd := strKind X.prog X.w) ks (I.ok.hd hc) pl.isList (by simpa using refs_vals rv) (fun z hz => inv_key I (hk z hz)) few (by omega) fun h' tk L es ep t R g k => ?_
  refine ⟨.ref _, _, I.laid (t' := tk) k (Nat.le_refl _) (setS_ok R), rfl, q _ L hn (fun z hz => List.mem_of_mem_take (g.from_ z hz)) (fun z hz => g.has z (by rw [List.take_length]; exact hz)) R.apart⟩
def rSortTs (K : PySem.W.Frag) (P : Program) (w : World) : List V → Hp → VK → Prop := fun vs H Q => ∃ (a : Addr) (L : List (Addr × List Str)), vs = [V.ref a] ∧ H a = some (SetS P w a L) ∧ (∀ z ∈ L, SqT K H z.1 (z.2.map V.str) ∧ z.2 ≠ []) ∧
  ∀ (L' : List (Addr × List Str)) (p : Addr), L'.Perm L → L'.Pairwise (fun y z => dataLt (dWs z.2) (dWs y.2) = false) → H p = none → Q (.ref p) (upd H p (.lst (L'.map fun z => V.ref z.1)))
theorem cr_sortTs (hc : X.calm = true) (hu : X.A.units + 64 < cLine) : CallR X (.builtin "sorted") (rSortTs X.K X.prog X.w) := by
  intro pins s σ H vs us Q I r h
  obtain ⟨a, L, rfl, ha, hk, q⟩ := h
  rw [Vals.ref1 r]
  obtain ⟨⟨es, ep, t, ob, row, tab, ap, led, m7, few⟩, _, _⟩ := I.hok a _ ha
  have R : KS.Held (strKind X.prog X.w) s.heap a L es ep t := ⟨ob, row, tab, ap, fun z hz => inv_key I (hk z hz).1, led, m7, few⟩
  refine KS.call_sorted R (I.ok.hd hc) (fun z hz => (hk z hz).2) hu fun s' p out c L' k g o hp hg hout pm pw => ?_
  subst hout
  have hlen : (L'.map fun z => V.ref z.1).length ≤ sizeLine := by
    rw [List.length_map, pm.length_eq, sizeLine_eq]
    omega
  have hn : H p = none := I.hok.fresh hp
  have J : Inv X pins σ (upd H p (.lst (L'.map fun z => V.ref z.1))) { s with heap := s'.heap, gens := s'.gens, drawn := s'.drawn, toks := s'.toks } :=
    I.call (ch := []) (Un.laid k hp hn) (I.hok.laid k hp ⟨hlen, _, c, vals_refs L', hg⟩) (by rw [g]; exact I.bare) (fun _ z => nomatch z)
  have e : s' = { s with heap := s'.heap, gens := s'.gens, drawn := s'.drawn, toks := s'.toks } := by
    obtain ⟨x1, x2, x3, x4, x5⟩ := s'
    cases o
    rfl
  rw [e]
  exact ⟨.ref p, _, J, rfl, q L' p pm pw hn⟩
end
end Deed

namespace Deed
open PySem PySem.Spec PySem.W PyProof.Rows L2 L2.DX LamX
/-! ### d.items() of a dict with text keys, sorted of it -/
mutual
theorem Dt.reads0 {X : Cx} {pins : List (Addr × Obj)} {σ : L2.St} {H : Hp} {s : Shared} (I : Inv X pins σ H s) : ∀ (d : PyData) (v : V) (u : Value), Dt H v d → RelV v u → Reads s.heap u d []
  | .none, _, _, h, r => by
    cases h
    cases r
    exact .none
  | .bool b, _, _, h, r => by
    cases h
    cases r
    exact .bool b
  | .int i, _, _, h, r => by
    cases h
    obtain ⟨t, rfl⟩ := r
    exact .int i t
  | .str x, _, _, h, r => by
    cases h
    obtain ⟨t, rfl⟩ := r
    exact .str x t
  | .tuple ds, _, _, h, r => by
    cases h with
    | tup e ha =>
      cases r
      obtain ⟨its, rv, ⟨o, e1, e2, n, e3⟩, _⟩ := I.tuple (SqT.of (K := X.K) e)
      exact .tuple e1 e2 e3 (by simpa using DtAll.reads0 I ds _ its ha rv)
  | .list _, _, _, h, _ => by cases h
  | .dict _, _, _, h, _ => by cases h
theorem DtAll.reads0 {X : Cx} {pins : List (Addr × Obj)} {σ : L2.St} {H : Hp} {s : Shared} (I : Inv X pins σ H s) : ∀ (ds : List PyData) (vs : List V) (us : List Value), DtAll H vs ds → Vals vs us → ReadsAll s.heap us ds []
  | [], _, _, h, r => by
    cases h
    cases r
    exact .nil
  | d :: ds, _, _, h, r => by
    cases h with
    | cons h1 h2 =>
      cases r with
      | cons r1 r2 => exact .cons (as := []) (Dt.reads0 I d _ _ h1 r1) (DtAll.reads0 I ds _ _ h2 r2)
end
theorem pairs_at {P : Program} {w : World} {κ : Type} [DecidableEq κ] {knd : KeyKind P w κ} : ∀ {es : List DictEntry} {kvs : List (κ × Value)}, Pairs knd es kvs → ∀ {j : Nat} {e : DictEntry}, es[j]? = some e → ∃ k v, kvs[j]? = some (k, v) ∧ knd.is k e.key = true ∧ e.val = v
  | _, _, .nil, j, e, h => by cases h
  | _, _, .cons h1 h2 _, 0, e, h => by
    injection h with h
    subst h
    exact ⟨_, _, rfl, h1, h2⟩
  | _, _, .cons _ _ t, j + 1, e, h => pairs_at t (by simpa using h)
section
variable {X : Cx}
def rItemsK : V → List V → Hp → VK → Prop := fun x xs H Q => ∃ (a : Addr) (kvs : List (Key × V)), x = .ref a ∧ xs = [] ∧ H a = some (.dK kvs) ∧ ∀ p, H p = none → Q (.ref p) (upd H p (itemsO p a))
theorem mt_itemsK : MtR X "dict.items" rItemsK := by
  intro pins s σ H x xs v us Q I rx rxs h
  obtain ⟨a, kvs, rfl, rfl, ha, q⟩ := h
  cases rx
  cases rxs
  obtain ⟨_, hs, vs, _, hdo⟩ := I.hok a _ ha
  have hn : H s.heap.objs.size = none := I.hok.fresh (Nat.le_refl _)
  refine call_meetsIn PySem.F.slot_dict_items hdo.typeIs PySem.F.entry_dict_items (PySem.F.args_dict_items_1 _) (meets_dict_items (mixKind X.prog X.w) a hs) ⟨⟨vs, hdo⟩, ?_⟩
  exact ⟨.ref s.heap.objs.size, _, I.laid (t' := s.toks) (fun b u e => Heap.get?_push_of_some _ e) (Nat.le_refl _) (itemsO_ok (Heap.get?_push_size _ rfl)), rfl, q _ hn⟩
abbrev ItE := Str × V × PyData
abbrev itKv (z : ItE) : Key × V := (Sum.inr z.1, z.2.1)
abbrev itD (z : ItE) : PyData := .tuple [.str z.1, z.2.2]
/-- sorted(d.items()): by the texts -/
def rSortItK : List V → Hp → VK → Prop := fun vs H Q => ∃ (p a : Addr) (zs : List ItE), vs = [.ref p] ∧ H p = some (itemsO p a) ∧ H a = some (.dK (zs.map itKv)) ∧ (zs.map (·.1)).Nodup ∧ (∀ z ∈ zs, Dt H z.2.1 z.2.2) ∧ (∀ z ∈ zs, ∀ y ∈ zs, alike z.2.2 y.2.2 = true) ∧ (∀ z ∈ zs, z.2.2.depth ≤ 8) ∧
  ∀ (H' : Hp) (l : Addr) (ps : List (Addr × ItE)), Same H H' → H l = none → (ps.map (·.2)).Perm zs → ps.Pairwise (fun y z => y.2.1.cps.toList < z.2.1.cps.toList) → H' l = some (.lst (ps.map fun z => V.ref z.1)) → (∀ z ∈ ps, H' z.1 = some (.tup [.str z.2.1, z.2.2.1])) → Q (.ref l) H'
theorem zip_fst {α β : Type} : ∀ {as : List α} {bs : List β}, as.length = bs.length → (as.zip bs).map (·.1) = as ∧ (as.zip bs).map (·.2) = bs
  | [], [], _ => ⟨rfl, rfl⟩
  | a :: as, b :: bs, h => by
    obtain ⟨h1, h2⟩ := zip_fst (as := as) (bs := bs) (by simpa using h)
    exact ⟨by simp [h1], by simp [h2]⟩
  | [], _ :: _, h => by simp at h
  | _ :: _, [], h => by simp at h
theorem cr_sortItK (hc : X.calm = true) (hu : X.A.units + 64 < cLine) : CallR X (.builtin "sorted") rSortItK := by
  intro pins s σ H vs us Q I r h
  obtain ⟨p, a, zs, rfl, hp, ha, nd, hD, hal, hdp, q⟩ := h
  obtain rfl := Vals.ref1 r
  have view : s.heap.IsItemsView p a := (show ObjOk X.prog X.w H s.heap p (itemsO p a) from I.hok p _ hp).1
  obtain ⟨hz, hs, vs, kv, hdo⟩ := I.hok a _ ha
  obtain ⟨o, es, ep, g1, g2, g3, _, prs, _⟩ := id hdo
  have lk : zs.length = vs.length := by
    have e : (zs.map itKv).length = vs.length := Paired.length kv
    rw [List.length_map] at e
    exact e
  have le : es.size = vs.length := by
    rw [← Array.length_toList]
    exact prs.length
  have nh : X.A.handled = none := I.ok.hd hc
  have hz' : zs.length ≤ sizeLine := by
    rw [List.length_map] at hz
    exact hz
  refine DT.sortedI (es := es) (ep := ep) nh view ⟨o, g1, g2, g3⟩ (by omega) fun h' tk as hk hlt hl hG => ?_
  have las : as.length = zs.length := by omega
  have nda : as.Nodup := hG.rise.imp fun h => Nat.ne_of_lt h
  -- each new pair: its text, its value
  have made : ∀ z ∈ as.zip zs, ∃ t u, RelV z.2.2.1 u ∧ h'.get? z.1 = some { cls := .type "tuple", data := .seq #[Value.str z.2.1 t, u] } := by
    intro z hzm
    obtain ⟨j, hj⟩ := List.mem_iff_getElem?.mp hzm
    obtain ⟨j1, j2⟩ := List.getElem?_zip_eq_some.mp hj
    obtain ⟨en, e1, e2⟩ := hG.pairs j z.1 j1
    obtain ⟨k, v, e3, e4, e5⟩ := pairs_at prs (j := j) (e := en) (by rw [Array.getElem?_toList]; exact e1)
    obtain ⟨y, e6, e7, e8⟩ := pget kv e3
    rw [List.getElem?_map, j2] at e6
    injection e6 with e6
    subst e6
    have e7' : Sum.inr z.2.1 = k := e7
    subst e7'
    have e4' : keyIs (Sum.inr z.2.1) en.key = true := e4
    obtain ⟨t, et⟩ := relV_key e4'
    exact ⟨t, v, e8, by rw [e2, et, e5]⟩
  obtain ⟨zf, zsn⟩ := zip_fst las
  have at0 : (h'.push { cls := .type "list", data := .seq (as.map Value.ref).toArray }).get? h'.objs.size = some (seqObj "list" (as.map Value.ref).toArray 0) := Heap.get?_push_size _ rfl
  have up : ∀ b ob, h'.get? b = some ob → (h'.push { cls := .type "list", data := .seq (as.map Value.ref).toArray }).get? b = some ob := fun b ob e => Heap.get?_push_of_some _ e
  have I1 : Inv X pins σ H { s with heap := h'.push { cls := .type "list", data := .seq (as.map Value.ref).toArray }, toks := tk } := I.kept (t' := tk) fun b ob e => up b ob (hk b ob e)
  have szp : (h'.push { cls := .type "list", data := .seq (as.map Value.ref).toArray }).objs.size = h'.objs.size + 1 := Heap.size_push ..
  generalize h'.push { cls := .type "list", data := .seq (as.map Value.ref).toArray } = h2 at at0 up I1 szp ⊢
  have rd : ∀ z ∈ as.zip zs, ∃ bs, Reads h2 (.ref z.1) (itD z.2) bs ∧ h'.objs.size ∉ bs := by
    intro z hzm
    obtain ⟨t, u, ru, e⟩ := made z hzm
    have hzz : z.2 ∈ zs := by
      rw [← zsn]
      exact List.mem_map.mpr ⟨z, hzm, rfl⟩
    have r2 := Dt.reads0 I1 z.2.2.2 z.2.2.1 u (hD z.2 hzz) ru
    exact ⟨[], .tuple (up _ _ e) rfl rfl (.cons (as := []) (.str _ _) (.cons (as := []) r2 .nil)), by simp⟩
  have each : ∀ {l : List (Addr × ItE)} {S : Value → Addr × ItE → Prop}, (∀ z ∈ l, S (.ref z.1) z) → EachIs S (l.map fun z => Value.ref z.1) l := by
    intro l S h
    induction l with
    | nil => exact .nil
    | cons z r ih => exact .cons (h z List.mem_cons_self) (ih fun y hy => h y (List.mem_cons_of_mem _ hy))
  have ev : as.map Value.ref = (as.zip zs).map fun z => Value.ref z.1 := by
    conv => lhs; rw [← zf]
    rw [List.map_map]
    rfl
  rw [ev] at at0
  have mz : ∀ z ∈ as.zip zs, z.2 ∈ zs := fun z hzm => by
    rw [← zsn]
    exact List.mem_map.mpr ⟨z, hzm, rfl⟩
  have lz : (as.zip zs).length = zs.length := by rw [List.length_zip, las, Nat.min_self]
  have hal2 : AllAlike ((as.zip zs).map fun z => itD z.2) := fun d hd e he => by
    obtain ⟨y, hy, rfl⟩ := List.mem_map.mp hd
    obtain ⟨z, hzm, rfl⟩ := List.mem_map.mp he
    simp [alike, alikeAll, hal y.2 (mz y hy) z.2 (mz z hzm)]
  have hsr : Sortable ((as.zip zs).map fun z => itD z.2) := .inl fun d hd => by
    obtain ⟨y, hy, rfl⟩ := List.mem_map.mp hd
    exact ⟨_, _, rfl⟩
  refine list_sort_data (s := { s with heap := h2, toks := tk }) (bs := as.zip zs) (R := fun v z => v = .ref z.1) (enc := fun z => itD z.2) at0 (each fun z _ => rfl) (each rd) hal2 hsr (by omega) (fun z hzm => ?_) fun out ho eo => ?_
  · have := hdp z.2 (mz z hzm)
    show X.A.units + 1 + 1 + (itD z.2).depth < cLine
    simp only [itD, PyData.depth, PyData.depthAll]
    omega
  have pm : ((as.zip zs).mergeSort (dataLe false fun z => itD z.2)).Perm (as.zip zs) := List.mergeSort_perm _ _
  have pw : ((as.zip zs).mergeSort (dataLe false fun z => itD z.2)).Pairwise (fun p q => dataLe false (fun z : Addr × ItE => itD z.2) p q = true) := sort_pairwise (sortLe_total _ _ _) _
  generalize (as.zip zs).mergeSort (dataLe false fun z => itD z.2) = M at eo pm pw
  have eo' : out = M.map fun z => Value.ref z.1 := by
    clear ho pm pw
    induction eo with
    | nil => rfl
    | cons h _ ih => rw [List.map_cons, h, ih]
  obtain ⟨c, hcS⟩ := sortedHeap_at (vs := (as.zip zs).map fun z => Value.ref z.1) (out := out.toArray) at0
  have kS : ∀ b ob, b ≠ h'.objs.size → h2.get? b = some ob → (sortedHeap h2 h'.objs.size ((as.zip zs).map fun z => Value.ref z.1) out.toArray).get? b = some ob := fun b ob hb e => (sortedHeap_old hb (Heap.lt_size e)).trans e
  generalize sortedHeap h2 h'.objs.size ((as.zip zs).map fun z => Value.ref z.1) out.toArray = h3 at hcS kS ⊢
  have low : ∀ b ob, h'.get? b = some ob → b ≠ h'.objs.size := fun b ob e => Nat.ne_of_lt (Heap.lt_size e)
  have I3 : Inv X pins σ H { s with heap := h3, toks := tk } := I.kept (t' := tk) fun b ob e => kS b ob (low b ob (hk b ob e)) (up b ob (hk b ob e))
  have hn0 : H h'.objs.size = none := I.hok.fresh (Nat.le_of_lt hlt)
  have rvl : Vals (M.map fun z => V.ref z.1) out := by
    rw [eo']
    clear eo eo' ho pm pw
    induction M with
    | nil => exact .nil
    | cons z r ih => exact .cons rfl ih
  have I4 : Inv X pins σ (upd H h'.objs.size (.lst (M.map fun z => V.ref z.1))) { s with heap := h3, toks := tk } :=
    I3.take (h' := h3) (t' := tk) (fun b ob _ e => e) (I.fpOk (Nat.le_of_lt hlt) hn0) ⟨by rw [List.length_map, pm.length_eq]; omega, out, c, rvl, hcS⟩
  obtain ⟨H2, I5, g, qt⟩ := takeT (P := fun b ws => ∃ z ∈ as.zip zs, b = z.1 ∧ ws = [.str z.2.1, z.2.2.1]) I as _ I4 nda fun b hb => by
    have hb' : b ∈ (as.zip zs).map (·.1) := by rw [zf]; exact hb
    obtain ⟨z, hzm, rfl⟩ := List.mem_map.mp hb'
    obtain ⟨t, u, ru, e⟩ := made z hzm
    have hbl : s.heap.objs.size ≤ z.1 := Nat.le_of_lt (hG.above _ hb)
    refine ⟨hbl, ?_, _, ⟨z, hzm, rfl, rfl⟩, fun H3 => ⟨(by show 2 ≤ sizeLine; decide), [.str z.2.1 t, u], .cons ⟨t, rfl⟩ (.cons ru .nil), ⟨_, kS _ _ (low _ _ e) (up _ _ e), rfl, 0, rfl⟩⟩⟩
    rw [upd_ne (low _ _ e)]
    exact I.hok.fresh hbl
  refine ⟨.ref h'.objs.size, H2, I5, rfl, q H2 h'.objs.size M (fun b ob e => g b ob (by rw [upd_ne (ne_of_none e hn0)]; exact e)) hn0 ?_ ?_ (g _ _ upd_same) fun z hzm => ?_⟩
  · have e := pm.map (·.2)
    rw [zsn] at e
    exact e
  · have ndM : (M.map fun z => z.2.1).Nodup := by
      have e := pm.map fun z : Addr × ItE => z.2.1
      refine e.nodup_iff.mpr ?_
      have e2 : (as.zip zs).map (fun z : Addr × ItE => z.2.1) = zs.map (·.1) := by
        conv => rhs; rw [← zsn]
        rw [List.map_map]
        rfl
      rw [e2]
      exact nd
    have ndM' : M.Pairwise fun y z => y.2.1 ≠ z.2.1 := List.pairwise_map.mp ndM
    refine List.Pairwise.imp_of_mem (fun {y z} hy hzm h => ?_) (pw.and ndM')
    obtain ⟨h1, h2⟩ := h
    rw [dataLe_eq] at h1
    have h3 : dataLt (itD z.2) (itD y.2) = false := by simpa using h1
    have al := hal z.2 (mz z (pm.mem_iff.mp hzm)) y.2 (mz y (pm.mem_iff.mp hy))
    have al0 : alike (.str z.2.1) (.str y.2.1) = true := by simp [alike]
    rw [dataLt_pair al0 al, if_neg (by simp [PyData.eqv]; exact fun e => h2 e.symm), dataLt_str] at h3
    have h4 : ¬ (z.2.1.cps.toList < y.2.1.cps.toList) := of_decide_eq_false h3
    by_cases h5 : y.2.1.cps.toList < z.2.1.cps.toList
    · exact h5
    · exact absurd (str_of_cps (List.le_antisymm (List.not_lt.mp h4) (List.not_lt.mp h5))) h2
  · obtain ⟨ws, ⟨y, hy, e1, e2⟩, e3⟩ := qt z.1 (by rw [← zf]; exact List.mem_map.mpr ⟨z, pm.mem_iff.mp hzm, rfl⟩)
    have yz : y = z := by
      have hzz := pm.mem_iff.mp hzm
      obtain ⟨i, hi⟩ := List.mem_iff_getElem?.mp hzz
      obtain ⟨j, hj⟩ := List.mem_iff_getElem?.mp hy
      obtain ⟨i1, i2⟩ := List.getElem?_zip_eq_some.mp hi
      obtain ⟨j1, j2⟩ := List.getElem?_zip_eq_some.mp hj
      have ij : i = j := (List.getElem?_inj (List.getElem?_eq_some_iff.mp i1).1 nda).mp (i1.trans (by rw [j1, e1]))
      subst ij
      rw [hi] at hj
      injection hj with hj
      exact hj.symm
    rw [e3, e2, yz]
end
end Deed

namespace Deed
open PySem PySem.Spec PyProof.Rows L2 LamX
/-! ### for k, v in d.items(), the keys tuples -/
def ItiT (d : Addr) (o : Obj) (kvs : List (List Key × V)) : It :=
  ⟨fun i H => H d = some (.frz o (.dT kvs)) ∧ i < kvs.length, fun i H x H' => ∃ (T q : Addr) (k : List Key) (v : V), kvs[i]? = some (k, v) ∧ x = .ref T ∧ H T = none ∧ H q = some (.tup (k.map kV)) ∧ H' = upd H T (.tup [.ref q, v]), fun i H => H d = some (.frz o (.dT kvs)) ∧ kvs.length ≤ i⟩
theorem frz_raw {X : Cx} {pins : List (Addr × Obj)} {σ : L2.St} {H : Hp} {s : Shared} {d : Addr} {o : Obj} {kvs : List (List Key × V)} (I : Inv X pins σ H s) (h : H d = some (.frz o (.dT kvs))) :
    (d == sysModules) = false ∧ s.heap.get? d = some o ∧ o.ExactDict ∧ ∃ (es : Array DictEntry) (ep : Nat), o.data = .dict es ep ∧ es.size = kvs.length ∧
      ∀ (i : Nat) (k : List Key) (v : V), kvs[i]? = some (k, v) → ∃ (en : DictEntry) (q : Addr), es[i]? = some en ∧ en.key = .ref q ∧ H q = some (.tup (k.map kV)) ∧ RelV v en.val := by
  obtain ⟨hd, z, hs, xs, rel, o', es, ep, e1, hx, e2, e3, _⟩ := I.hok d _ h
  rw [hd] at e1
  injection e1 with e1
  subst e1
  refine ⟨hs, hd, hx, es, ep, e2, ?_, fun i k v e => ?_⟩
  · have l1 : es.size = xs.length := size_of_entries e3
    rw [l1]
    exact (Paired.length rel).symm
  · obtain ⟨b, hb, f1, f2, f3⟩ := paired_get rel e
    have q := entry_at e3 i
    rw [hb] at q
    exact ⟨_, b.2.1, q, rfl, f2, f3⟩
section
variable {P : Program} {w : World} {K : PySem.W.Frag} {d : Addr} {o : Obj} {es : Array DictEntry} {ep : Nat}
theorem turn_itemsT {kvs : List (List Key × V)} {elts : List Expr} {kk : Nat} {tpos : Pos} (it : Addr) (hod : o.data = .dict es ep) :
    Turn P w K (.Tuple elts kk tpos) (ItiT d o kvs) [it] it (fun i h => ∃ ok ov, IsItemIter h it d i kvs.length ep ok ov) where
  mem := by simp
  obj := fun i h st b hb => by
    rw [List.mem_singleton.mp hb]
    obtain ⟨ok, ov, e⟩ := st
    exact ⟨_, e, fun v z => nomatch z⟩
  keep := fun i h h' ⟨ok, ov, e⟩ k => ⟨ok, ov, k it (by simp) _ e⟩
  item := by
    intro X hP hw hK hc i pins s σ H E I hf st hg
    subst hP hw hK
    obtain ⟨hd, hi⟩ := hg
    obtain ⟨hs, hgd, hx, es', ep', e1, e2, ent⟩ := frz_raw I hd
    obtain ⟨rfl, rfl⟩ := dict_ep hod e1
    obtain ⟨⟨k, v⟩, hkv⟩ : ∃ p, kvs[i]? = some p := ⟨kvs[i], List.getElem?_eq_getElem hi⟩
    obtain ⟨en, q, f1, f2, f3, f4⟩ := ent i k v hkv
    obtain ⟨ok, ov, he⟩ := st
    rw [← e2] at he
    have hie : i < es'.size := by rw [e2]; exact hi
    have een : es'[i] = en := by
      rw [Array.getElem?_eq_getElem hie] at f1
      injection f1
    have low : it < s.heap.objs.size := Heap.lt_size he
    refine DT.nextI he ⟨o, hgd, hx, e1⟩ hie fun h' g1 g2 g3 g4 => ⟨_, rfl, ?_⟩
    rw [een] at g1 g2
    refine wpAny_letOwnedTupleGo_items (s := { s with heap := h' }) g1 fun h2 g5 sb => ?_
    have at2 : h2.get? s.heap.objs.size = some { cls := .type "tuple", data := .seq #[en.key, en.val] } := (sb.2 _ (Nat.ne_of_gt low)).trans g2
    have fr : H s.heap.objs.size = none := I.hok.fresh (Nat.le_refl _)
    have ok2 : ObjOk X.prog X.w (upd H s.heap.objs.size (.tup [.ref q, v])) h2 s.heap.objs.size (.tup [.ref q, v]) := by
      refine ⟨by show 2 ≤ sizeLine; decide, [en.key, en.val], .cons f2 (.cons f4 .nil), ⟨_, at2, rfl, _, rfl⟩⟩
    have J : Inv X pins σ (upd H s.heap.objs.size (.tup [.ref q, v])) { s with heap := h2 } :=
      I.turnedNew (t' := s.toks) (ch := [it]) (fun b ob hb e => (sb.2 b (by simpa using hb)).trans (g4 b ob (by simpa using hb) e)) hf (Nat.le_refl _) ok2
    refine ⟨.ref s.heap.objs.size, _, J, rfl, ⟨_, q, k, v, hkv, rfl, fr, f3, rfl⟩, ⟨en.key, en.val, ?_⟩, fun b hb => ?_⟩
    · rw [← e2]
      exact g5
    · rw [List.mem_singleton.mp hb, upd_ne (Nat.ne_of_lt low)]
      exact (hf it (by simp)).1
  done := by
    intro X hP hw hK hc i pins s σ H E I hf st hg
    subst hP hw hK
    obtain ⟨hd, hi⟩ := hg
    obtain ⟨f0, f1, f2, f3, f4, f5⟩ := hf it (by simp)
    obtain ⟨hs, hgd, hx, es', ep', e1, e2, ent⟩ := frz_raw I hd
    obtain ⟨rfl, rfl⟩ := dict_ep hod e1
    obtain ⟨ok, ov, he⟩ := st
    rw [← e2] at he
    exact DT.endI (I.ok.hd hc) he ⟨o, hgd, hx, e1⟩ (by omega) fun h' eb => ⟨rfl, I.turned (t' := s.toks) (fun b ob hb e => eb b ob hb e) f0 f1 f3 f4 f5⟩
  self := fun A i s Q E ⟨_, _, e⟩ h => PySem.W.kcp_self e h
end
section
variable {X : Cx} {td : TE} {e : Expr} {apos cpos : Pos}
def iItemsT (td : TE) : TI := fun σ H R => td σ H fun x H1 => ∃ d o kvs, x = .ref d ∧ H1 d = some (.frz o (.dT kvs)) ∧ R (ItiT d o kvs) H1
theorem pi_itemsT {elts : List Expr} {kk : Nat} {tpos : Pos} (he : PE X e td) (hbase : attributeBase e "items" X.env (eval e X.env) = eval e X.env := by rfl) (hline : (apos.endLine == cpos.line) = true := by rfl) :
    PI X (.Tuple elts kk tpos) (.Call (.Attribute e "items" apos) [] [] cpos) (iItemsT td) := by
  refine ⟨fun pins s σ H R I h => wpAny_Call_method (T := "dict") (id := "dict.items") hbase rfl hline F.plainAttrs_dict F.slot_dict_items F.type_dict_items (thn (he.run pins s σ H _ I h) fun u s1 ⟨x, H1, I1, rx, d, o, kvs, ex, hd, q⟩ => ?_)⟩
  subst ex
  obtain rfl : u = Value.ref d := rx
  obtain ⟨hs, hgd, hx, es, ep, e1, e2, ent⟩ := frz_raw I1 hd
  have raw : DT.Raw s1.heap d es ep := ⟨o, hgd, hx, e1⟩
  refine ⟨raw.typeIs, fun a ea => by injection ea with ea; subst ea; exact ⟨o, hgd, hx.2.1⟩, ?_⟩
  have I2 : Inv X pins σ H1 { s1 with heap := s1.heap.push { cls := .type "dict_items", data := .fields #[.ref d] } } := I1.kept (t' := s1.toks) fun b ob q => Heap.get?_push_of_some _ q
  have fin : wpAny (model X.prog X.w) X.A (pyIter (.ref s1.heap.objs.size)) (PIE X pins σ (.Tuple elts kk tpos) R) X.xe { s1 with heap := s1.heap.push { cls := .type "dict_items", data := .fields #[.ref d] } } := by
    refine DT.iterI (d := d) (es := es) (ep := ep) ⟨_, Heap.get?_push_size _ rfl, rfl, rfl⟩ (raw.push _) (pi_one (tk := s1.toks) I2 _ (turn_itemsT _ e1) ⟨.none, .none, ?_⟩ q)
    rw [← e2]
    exact Heap.get?_push_size _ rfl
  show wpAny _ _ (callWith cpos (.builtin "dict.items") [.ref d] [] []) _ X.xe s1
  exact method_meetsIn F.slot_dict_items F.entry_dict_items rfl (PySem.evalArgs_none ⟨rfl, raw.typeIs, F.args_dict_items_1 _, _, DT.meetsItems (es := es) (ep := ep) hs, ⟨raw, fin⟩⟩)
theorem walk_itemsT {d : Addr} {o : Obj} {kvs : List (List Key × V)} : Walk (ItiT d o kvs) kvs.length (fun H => H d = some (.frz o (.dT kvs))) (fun i H x H' => ∃ (T q : Addr) (k : List Key) (v : V), kvs[i]? = some (k, v) ∧ x = .ref T ∧ H T = none ∧ H q = some (.tup (k.map kV)) ∧ H' = upd H T (.tup [.ref q, v])) := by
  exact ⟨fun i H hi h => ⟨h, hi⟩, fun H h => ⟨h, Nat.le_refl _⟩, fun i H x H' _ _ h => h⟩
end
end Deed

namespace Deed
open PySem PySem.Spec PyProof.Rows L2 LamX RZ
theorem cutDropG {α : Type} (f : α → V) (l : List α) (m : Nat) : cutV (l.map f) (some (m : Int)) none = (l.drop m).map f := by
  unfold cutV
  rw [HT.sIx_none, HT.sIx_nat, List.length_map, ← List.map_drop, ← List.map_take]
  congr 1
  by_cases h : m ≤ l.length
  · rw [Nat.min_eq_left h, List.take_of_length_le (by rw [List.length_drop]; omega)]
  · rw [Nat.min_eq_right (by omega), List.drop_of_length_le (by omega), List.drop_of_length_le (by omega), List.take_nil]
theorem walk_zipG {K : PySem.W.Frag} {a b : Addr} {xs ys : List V} {n : Nat} (hn : n = min xs.length ys.length) : Walk (ItzT K a b) n (fun H => SqT K H a xs ∧ SqT K H b ys) (YPair (fun i => xs[i]?) (fun i => ys[i]?)) := by
  subst hn
  refine ⟨fun i _ hi q => ?_, fun _ q => ⟨xs, ys, q.1, q.2, by omega⟩, fun i H v H' _ q y => ?_⟩
  · have h1 : i < xs.length := by omega
    have h2 : i < ys.length := by omega
    exact ⟨xs, ys, xs[i], ys[i], q.1, q.2, by simp [h1], by simp [h2]⟩
  · obtain ⟨T, x, z, h1, h2, h3, h4, h5⟩ := y
    exact ⟨T, x, z, h1, h2, h3, h4 xs q.1, h5 ys q.2⟩
theorem all_map_id {α : Type} (φ : α → Bool) (l : List α) : (l.map φ).all id = l.all φ := by
  induction l with
  | nil => rfl
  | cons a r ih => simp [ih]
theorem TgAll.at {p : Addr} {H : Hp} {xs : List V} {ts : List Tg} {i : Nat} {x : V} {y : Tg} (h : TgAll p H xs ts) (hx : xs[i]? = some x) (hy : ts[i]? = some y) : TgAt p H x y := by
  obtain ⟨t, e, ht⟩ := h.get hx
  rw [hy] at e
  injection e with e
  rw [e]
  exact ht
end Deed

namespace Deed
open PySem PySem.Spec PyProof.Rows L2 LamX
def MgInt (mg : Str → Option Value) (x : Str) (i : Int) : Prop := ∃ t, mg x = some (.int i t)
theorem pe_num {X : Cx} {x : Str} {i : Int} {pos : Pos} (hg : Gl X x) (h : MgInt X.mg x i) (hd : (x == ("__debug__" : Str)) = false := by decide) : PE X (.Name x pos) (tC (.int i)) := by
  obtain ⟨t, h⟩ := h
  exact pe_glob hg h ⟨t, rfl⟩ hd
end Deed

namespace Deed
open PySem PySem.Spec PySem.W PyProof.Rows L2 LamX RZ
/-! ### words, fulls, forms: what a thing is -/
def signOk (c : Nat) : Bool := decide (97 ≤ c) && decide (c ≤ 122)
def wordS (x : Str) : Bool := decide (1 ≤ x.length) && (decide (x.length ≤ 8) && x.cps.toList.all signOk)
mutual
/-- its texts are short -/
def Tg.sm : Tg → Bool
  | .str x => decide (x.length ≤ 400)
  | .tup ts => Tg.smAll ts
  | _ => true
def Tg.smAll : List Tg → Bool
  | [] => true
  | t :: ts => t.sm && Tg.smAll ts
end
theorem Tg.smAll_mem : ∀ {ts : List Tg}, Tg.smAll ts = true → ∀ t ∈ ts, t.sm = true
  | [], _, t, h => nomatch h
  | a :: r, h, t, ht => by
    rw [Tg.smAll, Bool.and_eq_true] at h
    rcases List.mem_cons.mp ht with rfl | ht
    · exact h.1
    · exact Tg.smAll_mem h.2 t ht
theorem Tg.smAll_of : ∀ {ts : List Tg}, (∀ t ∈ ts, t.sm = true) → Tg.smAll ts = true
  | [], _ => rfl
  | a :: r, h => by
    rw [Tg.smAll, Bool.and_eq_true]
    exact ⟨h a List.mem_cons_self, Tg.smAll_of fun t ht => h t (List.mem_cons_of_mem _ ht)⟩
def Tg.toS : Tg → Str | .str x => x | _ => ""
def Tg.toWs : Tg → List Str | .tup ts => ts.map Tg.toS | _ => []
def Tg.toFs : Tg → List (List Str) | .tup ts => ts.map Tg.toWs | _ => []
abbrev Fm1 := Str × List (List Str)
def Tg.toF1 : Tg → Fm1 | .tup [a, b] => (a.toS, b.toFs) | _ => ("", [])
def Tg.toFm : Tg → List Fm1 | .tup ts => ts.map Tg.toF1 | _ => []
abbrev dFs (fs : List (List Str)) : PyData := .tuple (fs.map dWs)
abbrev dF1 (x : Fm1) : PyData := .tuple [.str x.1, dFs x.2]
abbrev dFm (fm : List Fm1) : PyData := .tuple (fm.map dF1)
/-- the j-th is less than the next -/
def ltD (ds : List PyData) (j : Nat) : Bool := dataLt (ds.getD j .none) (ds.getD (j + 1) .none)
def risD (ds : List PyData) : Bool := (List.range (ds.length - 1)).all (ltD ds)
def Tg.word : Tg → Bool | .str x => wordS x | _ => false
def Tg.words (lo hi : Int) : Tg → Bool | .tup ts => decide (lo ≤ (ts.length : Int)) && (decide ((ts.length : Int) ≤ hi) && ts.all Tg.word) | _ => false
def Tg.fulls : Tg → Bool | .tup ts => decide (1 ≤ (ts.length : Int)) && (decide ((ts.length : Int) ≤ 3) && (ts.all (Tg.words 1 3) && risD (ts.map fun t => dWs t.toWs))) | _ => false
def Tg.form : Tg → Bool | .tup [a, b] => a.word && b.fulls | _ => false
def Tg.forms : Tg → Bool | .tup ts => decide ((ts.length : Int) ≤ 8) && (ts.all Tg.form && risD (ts.map fun t => .str t.toF1.1)) | _ => false
theorem Tg.word_str {t : Tg} (h : t.word = true) : ∃ x, t = .str x ∧ wordS x = true := by
  cases t with
  | str x => exact ⟨x, rfl, h⟩
  | _ => cases h
theorem Tg.words_tup {lo hi : Int} {t : Tg} (h : t.words lo hi = true) : ∃ ts, t = .tup ts ∧ lo ≤ (ts.length : Int) ∧ (ts.length : Int) ≤ hi ∧ ts.all Tg.word = true := by
  cases t with
  | tup ts =>
    unfold Tg.words at h
    rw [Bool.and_eq_true, Bool.and_eq_true] at h
    exact ⟨ts, rfl, of_decide_eq_true h.1, of_decide_eq_true h.2.1, h.2.2⟩
  | _ => cases h
theorem dt_words {p : Addr} {H : Hp} : ∀ {ts : List Tg} {vs : List V}, TgAll p H vs ts → ts.all Tg.word = true → vs = (ts.map Tg.toS).map V.str
  | [], _, h, _ => by
    cases h
    rfl
  | t :: ts, _, h, ha => by
    rw [List.all_cons, Bool.and_eq_true] at ha
    cases h with
    | cons h1 h2 =>
      obtain ⟨x, rfl, _⟩ := Tg.word_str ha.1
      cases h1
      rw [dt_words h2 ha.2]
      rfl
theorem dt_ws {p : Addr} {H : Hp} {v : V} {t : Tg} {lo hi : Int} (h : TgAt p H v t) (ht : t.words lo hi = true) : Dt H v (dWs t.toWs) := by
  obtain ⟨ts, rfl, _, _, h3⟩ := Tg.words_tup ht
  cases h with
  | tup e ha =>
    have e2 := dt_words ha h3
    subst e2
    exact .tup e (DtAll.strs _)
theorem dt_fulls {p : Addr} {H : Hp} : ∀ {ts : List Tg} {vs : List V}, TgAll p H vs ts → ts.all (Tg.words 1 3) = true → DtAll H vs (ts.map fun t => dWs t.toWs)
  | [], _, h, _ => by
    cases h
    exact .nil
  | t :: ts, _, h, ha => by
    rw [List.all_cons, Bool.and_eq_true] at ha
    cases h with
    | cons h1 h2 => exact .cons (dt_ws h1 ha.1) (dt_fulls h2 ha.2)
theorem Tg.fulls_tup {t : Tg} (h : t.fulls = true) : ∃ ts, t = .tup ts ∧ 1 ≤ ts.length ∧ ts.length ≤ 3 ∧ ts.all (Tg.words 1 3) = true ∧ risD (ts.map fun t => dWs t.toWs) = true := by
  cases t with
  | tup ts =>
    unfold Tg.fulls at h
    rw [Bool.and_eq_true, Bool.and_eq_true, Bool.and_eq_true] at h
    have h1 := of_decide_eq_true h.1
    have h2 := of_decide_eq_true h.2.1
    exact ⟨ts, rfl, by omega, by omega, h.2.2.1, h.2.2.2⟩
  | _ => cases h
theorem dt_fs {p : Addr} {H : Hp} {v : V} {t : Tg} (h : TgAt p H v t) (ht : t.fulls = true) : Dt H v (dFs t.toFs) := by
  obtain ⟨ts, rfl, _, _, h3, _⟩ := Tg.fulls_tup ht
  cases h with
  | tup e ha =>
    have := dt_fulls ha h3
    refine .tup e ?_
    show DtAll H _ ((ts.map Tg.toWs).map dWs)
    rw [List.map_map]
    exact this
theorem Tg.form_tup {t : Tg} (h : t.form = true) : ∃ x b, t = .tup [.str x, b] ∧ wordS x = true ∧ b.fulls = true := by
  cases t with
  | tup ts =>
    match ts, h with
    | [a, b], h =>
      have h' : (a.word && b.fulls) = true := h
      rw [Bool.and_eq_true] at h'
      obtain ⟨x, rfl, hx⟩ := Tg.word_str h'.1
      exact ⟨x, b, rfl, hx, h'.2⟩
  | _ => cases h
theorem dt_f1 {p : Addr} {H : Hp} {v : V} {t : Tg} (h : TgAt p H v t) (ht : t.form = true) : Dt H v (dF1 t.toF1) := by
  obtain ⟨x, b, rfl, _, hb⟩ := Tg.form_tup ht
  cases h with
  | tup e ha =>
    cases ha with
    | cons h1 h2 =>
      cases h2 with
      | cons h2 h3 =>
        cases h3
        cases h1
        exact .tup e (.cons (.str x) (.cons (dt_fs h2 hb) .nil))
theorem dt_forms {p : Addr} {H : Hp} : ∀ {ts : List Tg} {vs : List V}, TgAll p H vs ts → ts.all Tg.form = true → DtAll H vs ((ts.map Tg.toF1).map dF1)
  | [], _, h, _ => by
    cases h
    exact .nil
  | t :: ts, _, h, ha => by
    rw [List.all_cons, Bool.and_eq_true] at ha
    cases h with
    | cons h1 h2 => exact .cons (dt_f1 h1 ha.1) (dt_forms h2 ha.2)
theorem Tg.forms_tup {t : Tg} (h : t.forms = true) : ∃ ts, t = .tup ts ∧ ts.length ≤ 8 ∧ ts.all Tg.form = true ∧ risD (ts.map fun t => .str t.toF1.1) = true := by
  cases t with
  | tup ts =>
    unfold Tg.forms at h
    rw [Bool.and_eq_true, Bool.and_eq_true] at h
    have h1 := of_decide_eq_true h.1
    exact ⟨ts, rfl, by omega, h.2.1, h.2.2⟩
  | _ => cases h
theorem dt_fm {p : Addr} {H : Hp} {v : V} {t : Tg} (h : TgAt p H v t) (ht : t.forms = true) : Dt H v (dFm t.toFm) := by
  obtain ⟨ts, rfl, _, h3, _⟩ := Tg.forms_tup ht
  cases h with
  | tup e ha => exact .tup e (dt_forms ha h3)
theorem alike_strs : ∀ xs ys : List Str, alikeAll (xs.map PyData.str) (ys.map PyData.str) = true
  | [], _ => by simp [alikeAll]
  | _ :: _, [] => by simp [alikeAll]
  | x :: xs, y :: ys => by simp [alikeAll, alike, alike_strs xs ys]
theorem alike_ws (a b : List Str) : alike (dWs a) (dWs b) = true := by
  rw [alike]
  exact alike_strs a b
theorem depth_strs0 : ∀ ns : List Str, PyData.depthAll (ns.map PyData.str) = 0
  | [] => by simp [PyData.depthAll]
  | n :: r => by simp [PyData.depthAll, PyData.depth, depth_strs0 r]
theorem depth_ws (a : List Str) : (dWs a).depth ≤ 1 := by
  simp only [dWs, PyData.depth, depth_strs0]
  omega
theorem lt_one (a b : Nat) : decide ([a] < [b]) = decide (a < b) := decide_eq_decide.mpr ⟨fun h => by
  rcases List.cons_lt_cons_iff.mp h with h | ⟨_, h⟩
  · exact h
  · exact absurd h (List.lt_irrefl _), fun h => List.cons_lt_cons_iff.mpr (.inl h)⟩
theorem cutV_drop1 (l : List V) : cutV l (some 1) none = l.drop 1 := by
  have := cutDropG (fun v : V => v) l 1
  simpa using this
section
variable {P : Program} {w : World} {K : PySem.W.Frag} {mg : Str → Option Value} {base : Heap}
/-- things whose data can be compared -/
def spRisT : Sp := fun vs H Q _ => ∃ (a : Addr) (xs : List V) (ds : List PyData), vs = [.ref a] ∧ H a = some (.tup xs) ∧ DtAll H xs ds ∧ (∀ d ∈ ds, ∀ e ∈ ds, alike d e = true) ∧ (∀ d ∈ ds, d ≠ .none ∧ d.depth ≤ 8) ∧ ds.length ≤ 1000 ∧ ∀ H', Same H H' → Q (.bl (risD ds)) H'
def spRisL : Sp := fun vs H Q _ => ∃ (a : Addr) (xs : List V) (ds : List PyData), vs = [.ref a] ∧ H a = some (.lst xs) ∧ DtAll H xs ds ∧ (∀ d ∈ ds, ∀ e ∈ ds, alike d e = true) ∧ (∀ d ∈ ds, d ≠ .none ∧ d.depth ≤ 8) ∧ ds.length ≤ 1000 ∧ ∀ H', Same H H' → Q (.bl (risD ds)) H'
abbrev sRisT : Stmt := topS 2
abbrev nRisT : List Str := ["things", "ahead", "behind"]
abbrev pRisT : List Str := ["things"]
theorem scRisT : FnScope nRisT pRisT (defScope sRisT) := ⟨rfl, rfl, rfl, by decide +kernel, rfl, by decide +kernel, by decide +kernel⟩
theorem ok_RisT {f : Addr} {fd : FuncData} {k : Nat} (F : Fun K "is_rising" "is_rising" sRisT f fd) (m_zip : mg "zip" = none) (m_all : mg "all" = none) : FnOk P w K mg base CX0 (k + 1) f fd pRisT spRisT := by
  refine F.ok scRisT (fun vs H Q E h => ?_) (fun cdv A outer s H vs Q E hr h => ?_)
  · obtain ⟨a, xs, ds, rfl, _⟩ := h
    rfl
  · obtain ⟨a, xs, ds, rfl, ea, hD, hal, hdp, hl, q⟩ := h
    have nd := scRisT.nd
    have hlen := hD.length
    refine ⟨_, pss_one (ps_ret (pe_callB (cr_all rfl) (by rfl) m_all (by decide +kernel) (pa_cons (pe_lc (own := [("ahead", 1), ("behind", 2)]) (g := gTup K 2 (gCons (gName 1) (gCons (gName 2) gNil))) (by rfl) nd (pi_zipA (by rfl) m_zip (pa_cons (pv 0) (pa_cons (pe_slice sl_tupA (pv 0) (po_some pe_int) po_none) pa_nil))) (blkOk_by (own := [("ahead", 1), ("behind", 2)]) (N := nRisT) (sc := defScope sRisT) (by decide +kernel)) (fun _ _ _ _ _ => (pg_tup (by rfl) (pgs_cons (pg_name (i := 1) nd rfl (.inl rfl)) (pgs_cons (pg_name (i := 2) nd rfl (.inl rfl)) pgs_nil)))) (fun _ _ _ _ _ => pts_nil)
          (fun _ _ _ _ _ => (pe_cmpR (op_ltDK (K := K) (by rfl) hr.units) (pv 1) (pv 2) (nomark _)))) pa_nil))), ?_⟩
    refine ⟨_, rfl, _, rfl, _, rfl, ?_⟩
    dsimp only [tNoPart]
    refine slA_same ea fun t2 H2 s2 e2 => ?_
    rw [cutV_drop1] at e2
    refine ⟨a, t2, xs, xs.drop 1, rfl, .inr ⟨SqT.of (s2 _ _ ea), SqT.of e2, fun M nM => ?_⟩⟩
    refine lc_sameM (walk_zipG (n := ds.length - 1) (by rw [List.length_drop, hlen]; omega)) (List.range (ds.length - 1)) (fun j => .bl (ltD ds j)) (by rw [List.length_range]) (by rw [List.length_range]; omega) nM (fun H s => ⟨SqT.of (s _ _ (s2 _ _ ea)), SqT.of (s _ _ e2)⟩) ?_ ?_
    · rintro j y x H3 H3' hy s3 ⟨T0, xx, yy, rfl, nT, rfl, hxx, hyy⟩ Q1 q1
      obtain rfl : j = y := by
        have h9 := (List.getElem?_eq_some_iff.mp hy).2
        rw [List.getElem_range] at h9
        exact h9
      dsimp only at hxx hyy
      rw [List.getElem?_drop, show 1 + j = j + 1 by omega] at hyy
      have s4 := same_new nT (.tup [xx, yy])
      have eT : (upd H3 T0 (.tup [xx, yy])) T0 = some (.tup [xx, yy]) := upd_same
      generalize (upd H3 T0 (.tup [xx, yy])) = H4 at s4 eT
      obtain ⟨d, hd, dx⟩ := hD.get hxx
      obtain ⟨e, he, dy⟩ := hD.get hyy
      have k4 : KpT H H4 := Same.tup (s2.trans (s3.trans s4))
      have md := List.mem_of_getElem? hd
      have me := List.mem_of_getElem? he
      refine ⟨T0, _, rfl, SqT.of eT, rfl, _, _, rfl, _, _, rfl, rfl, rfl, ?_⟩
      refine ⟨_, rfl, _, rfl, d, e, Dt.dp _ _ (Dt.kp k4 _ _ dx), Dt.dp _ _ (Dt.kp k4 _ _ dy), hal d md e me, (hdp d md).1, (hdp d md).2, ?_⟩
      have e9 : ltD ds j = dataLt d e := by
        unfold ltD
        rw [List.getD_eq_getElem?_getD, List.getD_eq_getElem?_getD, hd, he]
        rfl
      rw [← e9]
      exact q1 _ s4
    intro H3 s3 eM
    refine ⟨M, (List.range (ds.length - 1)).map (ltD ds), rfl, SqL.of (by rw [eM, List.map_map]; rfl), ?_⟩
    rw [all_map_id]
    exact q _ (s2.trans s3)
abbrev sRisL : Stmt := topS 2
abbrev nRisL : List Str := ["things", "ahead", "behind"]
abbrev pRisL : List Str := ["things"]
theorem scRisL : FnScope nRisL pRisL (defScope sRisL) := ⟨rfl, rfl, rfl, by decide +kernel, rfl, by decide +kernel, by decide +kernel⟩
theorem ok_RisL {f : Addr} {fd : FuncData} {k : Nat} (F : Fun K "is_rising" "is_rising" sRisL f fd) (m_zip : mg "zip" = none) (m_all : mg "all" = none) : FnOk P w K mg base CX0 (k + 1) f fd pRisL spRisL := by
  refine F.ok scRisL (fun vs H Q E h => ?_) (fun cdv A outer s H vs Q E hr h => ?_)
  · obtain ⟨a, xs, ds, rfl, _⟩ := h
    rfl
  · obtain ⟨a, xs, ds, rfl, ea, hD, hal, hdp, hl, q⟩ := h
    have nd := scRisL.nd
    have hlen := hD.length
    refine ⟨_, pss_one (ps_ret (pe_callB (cr_all rfl) (by rfl) m_all (by decide +kernel) (pa_cons (pe_lc (own := [("ahead", 1), ("behind", 2)]) (g := gTup K 2 (gCons (gName 1) (gCons (gName 2) gNil))) (by rfl) nd (pi_zip (by rfl) m_zip (pa_cons (pv 0) (pa_cons (pe_slice sl_list (pv 0) (po_some pe_int) po_none) pa_nil))) (blkOk_by (own := [("ahead", 1), ("behind", 2)]) (N := nRisL) (sc := defScope sRisL) (by decide +kernel)) (fun _ _ _ _ _ => (pg_tup (by rfl) (pgs_cons (pg_name (i := 1) nd rfl (.inl rfl)) (pgs_cons (pg_name (i := 2) nd rfl (.inl rfl)) pgs_nil)))) (fun _ _ _ _ _ => pts_nil)
          (fun _ _ _ _ _ => (pe_cmpR (op_ltDK (K := K) (by rfl) hr.units) (pv 1) (pv 2) (nomark _)))) pa_nil))), ?_⟩
    refine ⟨_, rfl, _, rfl, _, rfl, a, xs, rfl, SqL.of ea, fun t2 nt2 => ?_⟩
    have s2 := same_new nt2 (.lst (cutV xs (some 1) none))
    have e2 : (upd H t2 (.lst (cutV xs (some 1) none))) t2 = some (.lst (xs.drop 1)) := by rw [upd_same, cutV_drop1]
    generalize (upd H t2 (.lst (cutV xs (some 1) none))) = H2 at s2 e2
    refine ⟨a, t2, xs, xs.drop 1, rfl, SqL.of (s2 _ _ ea), SqL.of e2, fun M nM => ?_⟩
    refine lc_sameM (walk_zip (n := ds.length - 1) (by rw [List.length_drop, hlen]; omega)) (List.range (ds.length - 1)) (fun j => .bl (ltD ds j)) (by rw [List.length_range]) (by rw [List.length_range]; omega) nM (fun H s => ⟨SqL.of (s _ _ (s2 _ _ ea)), SqL.of (s _ _ e2)⟩) ?_ ?_
    · rintro j y x H3 H3' hy s3 ⟨T0, xx, yy, rfl, nT, rfl, hxx, hyy⟩ Q1 q1
      obtain rfl : j = y := by
        have h9 := (List.getElem?_eq_some_iff.mp hy).2
        rw [List.getElem_range] at h9
        exact h9
      dsimp only at hxx hyy
      rw [List.getElem?_drop, show 1 + j = j + 1 by omega] at hyy
      have s4 := same_new nT (.tup [xx, yy])
      have eT : (upd H3 T0 (.tup [xx, yy])) T0 = some (.tup [xx, yy]) := upd_same
      generalize (upd H3 T0 (.tup [xx, yy])) = H4 at s4 eT
      obtain ⟨d, hd, dx⟩ := hD.get hxx
      obtain ⟨e, he, dy⟩ := hD.get hyy
      have k4 : KpT H H4 := Same.tup (s2.trans (s3.trans s4))
      have md := List.mem_of_getElem? hd
      have me := List.mem_of_getElem? he
      refine ⟨T0, _, rfl, SqT.of eT, rfl, _, _, rfl, _, _, rfl, rfl, rfl, ?_⟩
      refine ⟨_, rfl, _, rfl, d, e, Dt.dp _ _ (Dt.kp k4 _ _ dx), Dt.dp _ _ (Dt.kp k4 _ _ dy), hal d md e me, (hdp d md).1, (hdp d md).2, ?_⟩
      have e9 : ltD ds j = dataLt d e := by
        unfold ltD
        rw [List.getD_eq_getElem?_getD, List.getD_eq_getElem?_getD, hd, he]
        rfl
      rw [← e9]
      exact q1 _ s4
    intro H3 s3 eM
    refine ⟨M, (List.range (ds.length - 1)).map (ltD ds), rfl, SqL.of (by rw [eM, List.map_map]; rfl), ?_⟩
    rw [all_map_id]
    exact q _ (s2.trans s3)
/-- a yes or no of a thing whose texts are short -/
def spB1s (φ : Tg → Bool) : Sp := fun vs H Q _ => ∃ (p : Addr) (v : V) (t : Tg), vs = [v] ∧ TgAt p H v t ∧ t.sm = true ∧ ∀ H', Same H H' → Q (.bl (φ t)) H'
abbrev sIsWord : Stmt := topS 15
abbrev nIsWord : List Str := ["thing", "sign"]
abbrev pIsWord : List Str := ["thing"]
theorem scIsWord : FnScope nIsWord pIsWord (defScope sIsWord) := ⟨rfl, rfl, rfl, by decide +kernel, rfl, by decide +kernel, by decide +kernel⟩
theorem ok_IsWord {f : Addr} {fd : FuncData} {k : Nat} (F : Fun K "is_word" "is_word" sIsWord f fd) (m_isinstance : mg "isinstance" = none) (m_str : mg "str" = none) (m_len : mg "len" = none) (m_all : mg "all" = none) (iLONGEST_WORD : MgInt mg "LONGEST_WORD" 8) : FnOk P w K mg base CX0 (k + 1) f fd pIsWord (spB1s Tg.word) := by
  refine F.ok scIsWord (fun vs H Q E h => ?_) (fun cdv A outer s H vs Q E hr h => ?_)
  · obtain ⟨p, v, t, rfl, _⟩ := h
    rfl
  · obtain ⟨p, v, t, rfl, hT, hs, q⟩ := h
    have nd := scIsWord.nd
    refine ⟨_, pss_cons (ps_if (PW.pt (pw_or (pt_not (pt_val (pe_callB call_isi (by rfl) m_isinstance (by decide +kernel) (pa_cons (pv 0) (pa_cons (pe_bltn (v := .ty "str") (by rfl) m_str (by decide +kernel) rfl) pa_nil))))) (pw_or1 (pt_not (pt_chain op_le op_le pe_int (pe_callB call_len_str (by rfl) m_len (by decide +kernel) (pa_cons (pv 0) pa_nil)) (pe_num (by rfl) iLONGEST_WORD)))))) (pss_one (ps_ret pe_bl)) pss_nil)
      (pss_one (ps_ret (pe_callB (cr_all rfl) (by rfl) m_all (by decide +kernel) (pa_cons (pe_lc (own := [("sign", 1)]) (g := gName 1) (by rfl) nd (pi_str (pv 0)) (blkOk_by (own := [("sign", 1)]) (N := nIsWord) (sc := defScope sIsWord) (by decide +kernel)) (fun _ _ _ _ _ => (pg_name (i := 1) nd rfl (.inl rfl))) (fun _ _ _ _ _ => pts_nil)
          (fun _ _ _ _ _ => (pe_chain op_le_str op_le_str pe_str (pv 1) pe_str))) pa_nil)))), ?_⟩
    refine ⟨_, rfl, _, _, _, _, t.isS, rfl, .ty "str", hT.ty, kit_ty t.kS, _, rfl, ?_⟩
    cases hc : t.isS with
    | false =>
      refine iteT ?_
      have e : t.word = false := by cases t <;> first | rfl | cases hc
      rw [e] at q
      exact q _ (same_refl _)
    | true =>
    refine iteF ?_
    obtain ⟨z, rfl, rfl⟩ : ∃ z, v = .str z ∧ t = .str z := by
      cases hT with
      | str x => exact ⟨_, rfl, rfl⟩
      | _ => cases hc
    have hz : z.length ≤ 400 := of_decide_eq_true hs
    have q1 : ∀ H', Same H H' → Q (.bl (decide (1 ≤ z.length) && (decide (z.length ≤ 8) && z.cps.toList.all signOk))) H' := q
    refine ⟨_, rfl, z, rfl, Nat.le_of_lt (small1000 (by omega)), _, _, rfl, rfl, _, rfl, ?_⟩
    by_cases h1 : 1 ≤ z.length
    rotate_left
    · rw [decide_eq_false (show ¬ ((1 : Int) ≤ (z.length : Nat)) by omega)]
      refine iteF ⟨_, rfl, ?_⟩
      refine iteT ?_
      rw [decide_eq_false h1] at q1
      exact q1 _ (same_refl _)
    rw [decide_eq_true (show ((1 : Int) ≤ (z.length : Nat)) by omega)]
    rw [decide_eq_true h1, Bool.true_and] at q1
    refine iteT ⟨_, _, rfl, rfl, _, rfl, ?_⟩
    by_cases h8 : z.length ≤ 8
    rotate_left
    · rw [decide_eq_false (show ¬ (((z.length : Nat) : Int) ≤ 8) by omega)]
      refine iteT ?_
      rw [decide_eq_false h8] at q1
      exact q1 _ (same_refl _)
    rw [decide_eq_true (show (((z.length : Nat) : Int) ≤ 8) by omega)]
    rw [decide_eq_true h8, Bool.true_and] at q1
    refine iteF ⟨_, rfl, z, rfl, fun M nM => ?_⟩
    have hzc : z.cps.toList.length = z.length := by rw [Array.length_toList]; rfl
    refine lc_sameM (walk_str (z := z)) z.cps.toList (fun c => .bl (signOk c)) (by rw [Array.length_toList]) (by omega) nM (fun _ _ => trivial) ?_ ?_
    · rintro i c x H3 H3' hy s3 ⟨rfl, c', hc', rfl⟩ Q1 q1'
      rw [Array.getElem?_toList, hc'] at hy
      injection hy with hy
      subst hy
      refine ⟨rfl, _, rfl, _, _, rfl, rfl, _, rfl, ?_⟩
      have a1 : (!decide ((⟨#[c']⟩ : Str).cps.toList < ("a" : Str).cps.toList)) = decide (97 ≤ c') := by
        show (!decide ([c'] < [97])) = _
        rw [lt_one, ← decide_not]
        exact decide_eq_decide.mpr (by omega)
      have a2 : (!decide (("z" : Str).cps.toList < (⟨#[c']⟩ : Str).cps.toList)) = decide (c' ≤ 122) := by
        show (!decide ([122] < [c'])) = _
        rw [lt_one, ← decide_not]
        exact decide_eq_decide.mpr (by omega)
      have q2 := q1' _ (same_refl _)
      unfold signOk at q2
      rw [a1]
      refine ite2 (fun c1 => ?_) (fun c1 => ?_)
      · rw [c1, Bool.true_and] at q2
        refine ⟨_, _, rfl, rfl, ?_⟩
        rw [a2]
        exact q2
      · rw [Bool.eq_false_iff.mpr c1, Bool.false_and] at q2
        exact q2
    intro H3 s3 eM
    refine ⟨M, z.cps.toList.map signOk, rfl, SqL.of (by rw [eM, List.map_map]; rfl), ?_⟩
    rw [all_map_id]
    exact q1 _ s3
end
end Deed

namespace Deed
open PySem PySem.Spec PySem.W PyProof.Rows L2 LamX RZ
section
variable {P : Program} {w : World} {K : PySem.W.Frag} {mg : Str → Option Value} {base : Heap}
def spAreWords : Sp := fun vs H Q _ => ∃ (p : Addr) (v : V) (t : Tg) (lo hi : Int), vs = [v, .int lo, .int hi] ∧ TgAt p H v t ∧ t.sm = true ∧ hi ≤ 1000 ∧ ∀ H', Same H H' → Q (.bl (t.words lo hi)) H'
abbrev sAreWords : Stmt := topS 16
abbrev nAreWords : List Str := ["thing", "least", "most", "part"]
abbrev pAreWords : List Str := ["thing", "least", "most"]
theorem scAreWords : FnScope nAreWords pAreWords (defScope sAreWords) := ⟨rfl, rfl, rfl, by decide +kernel, rfl, by decide +kernel, by decide +kernel⟩
theorem ok_AreWords {f : Addr} {fd : FuncData} {k : Nat} (F : Fun K "are_words" "are_words" sAreWords f fd) (C_is_word : CallOk P w K mg base k "is_word" pIsWord (spB1s Tg.word)) (m_isinstance : mg "isinstance" = none) (m_tuple : mg "tuple" = none) (m_len : mg "len" = none) (m_all : mg "all" = none) : FnOk P w K mg base CX0 (k + 1) f fd pAreWords spAreWords := by
  refine F.ok scAreWords (fun vs H Q E h => ?_) (fun cdv A outer s H vs Q E hr h => ?_)
  · obtain ⟨p, v, t, lo, hi, rfl, _⟩ := h
    rfl
  · obtain ⟨p, v, t, lo, hi, rfl, hT, hs, hhi, q⟩ := h
    have nd := scAreWords.nd
    refine ⟨_, pss_cons (ps_if (PW.pt (pw_or (pt_not (pt_val (pe_callB call_isi (by rfl) m_isinstance (by decide +kernel) (pa_cons (pv 0) (pa_cons (pe_bltn (v := .ty "tuple") (by rfl) m_tuple (by decide +kernel) rfl) pa_nil))))) (pw_or1 (pt_not (pt_chain op_le op_le (pv 1) (pe_callB call_len_seq (by rfl) m_len (by decide +kernel) (pa_cons (pv 0) pa_nil)) (pv 2)))))) (pss_one (ps_ret pe_bl)) pss_nil)
      (pss_one (ps_ret (pe_callB (cr_all rfl) (by rfl) m_all (by decide +kernel) (pa_cons (pe_lc (own := [("part", 3)]) (g := gName 3) (by rfl) nd (pi_tup (pv 0)) (blkOk_by (own := [("part", 3)]) (N := nAreWords) (sc := defScope sAreWords) (by decide +kernel)) (fun _ _ _ _ _ => (pg_name (i := 3) nd rfl (.inl rfl))) (fun _ _ _ _ _ => pts_nil)
          (fun _ _ _ _ _ => (pe_call C_is_word.ok hr (by rfl) C_is_word.g C_is_word.kp C_is_word.b .nil pass0 (pa_cons (pv 3) pa_nil)))) pa_nil)))), ?_⟩
    refine ⟨_, rfl, _, _, _, _, t.isT, rfl, .ty "tuple", hT.ty, kit_ty t.kT, _, rfl, ?_⟩
    cases hc : t.isT with
    | false =>
      refine iteT ?_
      have e : t.words lo hi = false := by cases t <;> first | rfl | cases hc
      rw [e] at q
      exact q _ (same_refl _)
    | true =>
    refine iteF ?_
    obtain ⟨a, xs, ts, rfl, rfl, ea, hts⟩ := hT.tupOf hc
    have hlen := hts.length
    have q1 : ∀ H', Same H H' → Q (.bl (decide (lo ≤ (ts.length : Int)) && (decide ((ts.length : Int) ≤ hi) && ts.all Tg.word))) H' := q
    refine ⟨_, rfl, _, rfl, a, _, rfl, .inr (SqT.of ea), _, _, rfl, rfl, _, rfl, ?_⟩
    rw [hlen]
    by_cases h1 : lo ≤ (ts.length : Int)
    rotate_left
    · rw [decide_eq_false h1]
      refine iteF ⟨_, rfl, ?_⟩
      refine iteT ?_
      rw [decide_eq_false h1] at q1
      exact q1 _ (same_refl _)
    rw [decide_eq_true h1]
    rw [decide_eq_true h1, Bool.true_and] at q1
    refine iteT ⟨_, rfl, _, _, rfl, rfl, _, rfl, ?_⟩
    by_cases h2 : (ts.length : Int) ≤ hi
    rotate_left
    · rw [decide_eq_false h2]
      refine iteT ?_
      rw [decide_eq_false h2] at q1
      exact q1 _ (same_refl _)
    rw [decide_eq_true h2]
    rw [decide_eq_true h2, Bool.true_and] at q1
    refine iteF ⟨_, rfl, a, rfl, ⟨_, SqT.of ea⟩, fun M nM => ?_⟩
    refine lc_sameM (walk_tup (xs := xs)) ts (fun y => .bl y.word) hlen.symm (by omega) nM (fun H s => SqT.of (s _ _ ea)) ?_ ?_
    · rintro i y x H2' H2 hy s2 ⟨rfl, hx⟩ Q1 q1'
      exact ⟨rfl, _, rfl, p, x, y, rfl, TgAt.same s2 _ _ (hts.at hx hy), Tg.smAll_mem hs y (List.mem_of_getElem? hy), fun H3 s3 => q1' _ s3⟩
    intro H2 s2 eM
    refine ⟨M, ts.map Tg.word, rfl, SqL.of (by rw [eM, List.map_map]; rfl), ?_⟩
    rw [all_map_id]
    exact q1 _ s2
abbrev sAreFulls : Stmt := topS 17
abbrev nAreFulls : List Str := ["thing", "full"]
abbrev pAreFulls : List Str := ["thing"]
theorem scAreFulls : FnScope nAreFulls pAreFulls (defScope sAreFulls) := ⟨rfl, rfl, rfl, by decide +kernel, rfl, by decide +kernel, by decide +kernel⟩
theorem ok_AreFulls {f : Addr} {fd : FuncData} {k : Nat} (F : Fun K "are_fulls" "are_fulls" sAreFulls f fd) (C_are_words : CallOk P w K mg base k "are_words" pAreWords spAreWords) (C_is_rising : CallOk P w K mg base k "is_rising" pRisT spRisT) (m_isinstance : mg "isinstance" = none) (m_tuple : mg "tuple" = none) (m_len : mg "len" = none) (m_all : mg "all" = none) (iMOST_FULLS : MgInt mg "MOST_FULLS" 3) (iMOST_FULL_WORDS : MgInt mg "MOST_FULL_WORDS" 3) : FnOk P w K mg base CX0 (k + 1) f fd pAreFulls (spB1s Tg.fulls) := by
  refine F.ok scAreFulls (fun vs H Q E h => ?_) (fun cdv A outer s H vs Q E hr h => ?_)
  · obtain ⟨p, v, t, rfl, _⟩ := h
    rfl
  · obtain ⟨p, v, t, rfl, hT, hs, q⟩ := h
    have nd := scAreFulls.nd
    refine ⟨_, pss_cons (ps_if (PW.pt (pw_or (pt_not (pt_val (pe_callB call_isi (by rfl) m_isinstance (by decide +kernel) (pa_cons (pv 0) (pa_cons (pe_bltn (v := .ty "tuple") (by rfl) m_tuple (by decide +kernel) rfl) pa_nil))))) (pw_or1 (pt_not (pt_chain op_le op_le pe_int (pe_callB call_len_seq (by rfl) m_len (by decide +kernel) (pa_cons (pv 0) pa_nil)) (pe_num (by rfl) iMOST_FULLS)))))) (pss_one (ps_ret pe_bl)) pss_nil)
      (pss_one (ps_ret (pe_and (pe_callB (cr_all rfl) (by rfl) m_all (by decide +kernel) (pa_cons (pe_lc (own := [("full", 1)]) (g := gName 1) (by rfl) nd (pi_tup (pv 0)) (blkOk_by (own := [("full", 1)]) (N := nAreFulls) (sc := defScope sAreFulls) (by decide +kernel)) (fun _ _ _ _ _ => (pg_name (i := 1) nd rfl (.inl rfl))) (fun _ _ _ _ _ => pts_nil)
          (fun _ _ _ _ _ => (pe_call C_are_words.ok hr (by rfl) C_are_words.g C_are_words.kp C_are_words.b .nil pass0 (pa_cons (pv 1) (pa_cons pe_int (pa_cons (pe_num (by rfl) iMOST_FULL_WORDS) pa_nil)))))) pa_nil)) (pe_one (pe_call C_is_rising.ok hr (by rfl) C_is_rising.g C_is_rising.kp C_is_rising.b .nil pass0 (pa_cons (pv 0) pa_nil)))))), ?_⟩
    refine ⟨_, rfl, _, _, _, _, t.isT, rfl, .ty "tuple", hT.ty, kit_ty t.kT, _, rfl, ?_⟩
    cases hc : t.isT with
    | false =>
      refine iteT ?_
      have e : t.fulls = false := by cases t <;> first | rfl | cases hc
      rw [e] at q
      exact q _ (same_refl _)
    | true =>
    refine iteF ?_
    obtain ⟨a, xs, ts, rfl, rfl, ea, hts⟩ := hT.tupOf hc
    have hlen := hts.length
    have q1 : ∀ H', Same H H' → Q (.bl (decide (1 ≤ (ts.length : Int)) && (decide ((ts.length : Int) ≤ 3) && (ts.all (Tg.words 1 3) && risD (ts.map fun t => dWs t.toWs))))) H' := q
    refine ⟨_, rfl, a, _, rfl, .inr (SqT.of ea), _, _, rfl, rfl, _, rfl, ?_⟩
    rw [hlen]
    by_cases h1 : (1 : Int) ≤ (ts.length : Int)
    rotate_left
    · rw [decide_eq_false h1]
      refine iteF ⟨_, rfl, ?_⟩
      refine iteT ?_
      rw [decide_eq_false h1] at q1
      exact q1 _ (same_refl _)
    rw [decide_eq_true h1]
    rw [decide_eq_true h1, Bool.true_and] at q1
    refine iteT ⟨_, _, rfl, rfl, _, rfl, ?_⟩
    by_cases h2 : (ts.length : Int) ≤ 3
    rotate_left
    · rw [decide_eq_false h2]
      refine iteT ?_
      rw [decide_eq_false h2] at q1
      exact q1 _ (same_refl _)
    rw [decide_eq_true h2]
    rw [decide_eq_true h2, Bool.true_and] at q1
    refine iteF ⟨_, rfl, a, rfl, ⟨_, SqT.of ea⟩, fun M nM => ?_⟩
    refine lc_sameM (walk_tup (xs := xs)) ts (fun y => .bl (y.words 1 3)) hlen.symm (by omega) nM (fun H s => SqT.of (s _ _ ea)) ?_ ?_
    · rintro i y x H2' H2 hy s2 ⟨rfl, hx⟩ Q1 q1'
      exact ⟨rfl, _, rfl, p, x, y, 1, 3, rfl, TgAt.same s2 _ _ (hts.at hx hy), Tg.smAll_mem hs y (List.mem_of_getElem? hy), by decide, fun H3 s3 => q1' _ s3⟩
    intro H2 s2 eM
    refine ⟨M, ts.map (Tg.words 1 3), rfl, SqL.of (by rw [eM, List.map_map]; rfl), ?_⟩
    rw [all_map_id]
    refine ⟨_, rfl, ?_⟩
    refine ite2 (fun c => ?_) (fun c => ?_)
    · have c' : ts.all (Tg.words 1 3) = true := c
      rw [c', Bool.true_and] at q1
      have hD := DtAll.kp (Same.tup s2) _ _ (dt_fulls hts c')
      refine ⟨_, rfl, a, xs, _, rfl, s2 _ _ ea, hD, fun d hd e he => ?_, fun d hd => ?_, by rw [List.length_map]; omega, fun H3 s3 => q1 _ (s2.trans s3)⟩
      · obtain ⟨x, _, rfl⟩ := List.mem_map.mp hd
        obtain ⟨y, _, rfl⟩ := List.mem_map.mp he
        exact alike_ws _ _
      · obtain ⟨x, _, rfl⟩ := List.mem_map.mp hd
        exact ⟨fun z => (by cases z), Nat.le_trans (depth_ws _) (by decide)⟩
    · have c' : ts.all (Tg.words 1 3) = false := Bool.eq_false_iff.mpr c
      rw [c', Bool.false_and] at q1
      exact q1 _ s2
abbrev sIsForm : Stmt := topS 18
abbrev nIsForm : List Str := ["thing"]
abbrev pIsForm : List Str := ["thing"]
theorem scIsForm : FnScope nIsForm pIsForm (defScope sIsForm) := ⟨rfl, rfl, rfl, by decide +kernel, rfl, by decide +kernel, by decide +kernel⟩
theorem ok_IsForm {f : Addr} {fd : FuncData} {k : Nat} (F : Fun K "is_form" "is_form" sIsForm f fd) (C_is_word : CallOk P w K mg base k "is_word" pIsWord (spB1s Tg.word)) (C_are_fulls : CallOk P w K mg base k "are_fulls" pAreFulls (spB1s Tg.fulls)) (m_isinstance : mg "isinstance" = none) (m_tuple : mg "tuple" = none) (m_len : mg "len" = none) : FnOk P w K mg base CX0 (k + 1) f fd pIsForm (spB1s Tg.form) := by
  refine F.ok scIsForm (fun vs H Q E h => ?_) (fun cdv A outer s H vs Q E hr h => ?_)
  · obtain ⟨p, v, t, rfl, _⟩ := h
    rfl
  · obtain ⟨p, v, t, rfl, hT, hs, q⟩ := h
    have nd := scIsForm.nd
    refine ⟨_, pss_cons (ps_if (PW.pt (pw_or (pt_not (pt_val (pe_callB call_isi (by rfl) m_isinstance (by decide +kernel) (pa_cons (pv 0) (pa_cons (pe_bltn (v := .ty "tuple") (by rfl) m_tuple (by decide +kernel) rfl) pa_nil))))) (pw_or1 (pt_cmpR op_ne (pe_callB call_len_seq (by rfl) m_len (by decide +kernel) (pa_cons (pv 0) pa_nil)) pe_int (nomark _))))) (pss_one (ps_ret pe_bl)) pss_nil)
      (pss_one (ps_ret (pe_and (pe_call C_is_word.ok hr (by rfl) C_is_word.g C_is_word.kp C_is_word.b .nil pass0 (pa_cons (pe_ix ix_tup (pv 0) pe_int (fun _ _ => rfl)) pa_nil)) (pe_one (pe_call C_are_fulls.ok hr (by rfl) C_are_fulls.g C_are_fulls.kp C_are_fulls.b .nil pass0 (pa_cons (pe_ix ix_tup (pv 0) pe_int (fun _ _ => rfl)) pa_nil)))))), ?_⟩
    refine ⟨_, rfl, _, _, _, _, t.isT, rfl, .ty "tuple", hT.ty, kit_ty t.kT, _, rfl, ?_⟩
    cases hc : t.isT with
    | false =>
      refine iteT ?_
      have e : t.form = false := by cases t <;> first | rfl | cases hc
      rw [e] at q
      exact q _ (same_refl _)
    | true =>
    refine iteF ?_
    obtain ⟨a, xs, ts, rfl, rfl, ea, hts⟩ := hT.tupOf hc
    have hlen := hts.length
    refine ⟨_, rfl, a, _, rfl, .inr (SqT.of ea), rfl, _, rfl, ?_⟩
    by_cases h3 : ts.length = 2
    rotate_left
    · rw [show decide (V.int (xs.length : Nat) = V.int 2) = false from decide_eq_false fun z => h3 (by injection z with z; omega)]
      refine iteT ?_
      have e : (Tg.tup ts).form = false := by
        match ts, h3 with
        | [], _ => rfl
        | [_], _ => rfl
        | [_, _], h3 => exact absurd rfl h3
        | _ :: _ :: _ :: _, _ => rfl
      rw [e] at q
      exact q _ (same_refl _)
    rw [show decide (V.int (xs.length : Nat) = V.int 2) = true from decide_eq_true (by rw [hlen, h3]; rfl)]
    refine iteF ?_
    obtain ⟨t1, t2, rfl⟩ : ∃ x y, ts = [x, y] := by
      match ts, h3 with
      | [x, y], _ => exact ⟨x, y, rfl⟩
    match xs, hts with
    | [x1, x2], .cons hx1 (.cons hx2 .nil) =>
    have q1 : ∀ H', Same H H' → Q (.bl (t1.word && t2.fulls)) H' := q
    have m1 := Tg.smAll_mem hs t1 List.mem_cons_self
    have m2 := Tg.smAll_mem hs t2 (List.mem_cons_of_mem _ List.mem_cons_self)
    refine ⟨_, rfl, a, _, _, _, rfl, rfl, SqT.of ea, atI_nat (j := 0) rfl, p, x1, t1, rfl, hx1, m1, fun H1 s1 => ⟨_, rfl, ?_⟩⟩
    refine ite2 (fun c => ?_) (fun c => ?_)
    · rw [c, Bool.true_and] at q1
      exact ⟨_, rfl, a, _, _, _, rfl, rfl, SqT.of (s1 _ _ ea), atI_nat (j := 1) rfl, p, x2, t2, rfl, TgAt.same s1 _ _ hx2, m2, fun H2 s2 => q1 _ (s1.trans s2)⟩
    · rw [Bool.eq_false_iff.mpr c, Bool.false_and] at q1
      exact q1 _ s1
abbrev sAreForms : Stmt := topS 19
abbrev nAreForms : List Str := ["thing", "form"]
abbrev pAreForms : List Str := ["thing"]
theorem scAreForms : FnScope nAreForms pAreForms (defScope sAreForms) := ⟨rfl, rfl, rfl, by decide +kernel, rfl, by decide +kernel, by decide +kernel⟩
theorem ok_AreForms {f : Addr} {fd : FuncData} {k : Nat} (F : Fun K "are_forms" "are_forms" sAreForms f fd) (C_is_form : CallOk P w K mg base k "is_form" pIsForm (spB1s Tg.form)) (C_is_rising : CallOk P w K mg base k "is_rising" pRisL spRisL) (m_isinstance : mg "isinstance" = none) (m_tuple : mg "tuple" = none) (m_len : mg "len" = none) (m_all : mg "all" = none) (iMOST_FORMS : MgInt mg "MOST_FORMS" 8) : FnOk P w K mg base CX0 (k + 1) f fd pAreForms (spB1s Tg.forms) := by
  refine F.ok scAreForms (fun vs H Q E h => ?_) (fun cdv A outer s H vs Q E hr h => ?_)
  · obtain ⟨p, v, t, rfl, _⟩ := h
    rfl
  · obtain ⟨p, v, t, rfl, hT, hs, q⟩ := h
    have nd := scAreForms.nd
    refine ⟨_, pss_cons (ps_if (PW.pt (pw_or (pt_not (pt_val (pe_callB call_isi (by rfl) m_isinstance (by decide +kernel) (pa_cons (pv 0) (pa_cons (pe_bltn (v := .ty "tuple") (by rfl) m_tuple (by decide +kernel) rfl) pa_nil))))) (pw_or1 (pt_cmpR op_gt (pe_callB call_len_seq (by rfl) m_len (by decide +kernel) (pa_cons (pv 0) pa_nil)) (pe_num (by rfl) iMOST_FORMS) (nomark _))))) (pss_one (ps_ret pe_bl)) pss_nil)
      (pss_one (ps_ret (pe_and (pe_callB (cr_all rfl) (by rfl) m_all (by decide +kernel) (pa_cons (pe_lc (own := [("form", 1)]) (g := gName 1) (by rfl) nd (pi_tup (pv 0)) (blkOk_by (own := [("form", 1)]) (N := nAreForms) (sc := defScope sAreForms) (by decide +kernel)) (fun _ _ _ _ _ => (pg_name (i := 1) nd rfl (.inl rfl))) (fun _ _ _ _ _ => pts_nil)
          (fun _ _ _ _ _ => (pe_call C_is_form.ok hr (by rfl) C_is_form.g C_is_form.kp C_is_form.b .nil pass0 (pa_cons (pv 1) pa_nil)))) pa_nil)) (pe_one (pe_call C_is_rising.ok hr (by rfl) C_is_rising.g C_is_rising.kp C_is_rising.b .nil pass0 (pa_cons (pe_lc (own := [("form", 1)]) (g := gName 1) (by rfl) nd (pi_tup (pv 0)) (blkOk_by (own := [("form", 1)]) (N := nAreForms) (sc := defScope sAreForms) (by decide +kernel)) (fun _ _ _ _ _ => (pg_name (i := 1) nd rfl (.inl rfl))) (fun _ _ _ _ _ => pts_nil)
          (fun _ _ _ _ _ => (pe_ix (ix_tupK (K := K) (by rfl)) (pv 1) pe_int (fun _ _ => rfl)))) pa_nil)))))), ?_⟩
    refine ⟨_, rfl, _, _, _, _, t.isT, rfl, .ty "tuple", hT.ty, kit_ty t.kT, _, rfl, ?_⟩
    cases hc : t.isT with
    | false =>
      refine iteT ?_
      have e : t.forms = false := by cases t <;> first | rfl | cases hc
      rw [e] at q
      exact q _ (same_refl _)
    | true =>
    refine iteF ?_
    obtain ⟨a, xs, ts, rfl, rfl, ea, hts⟩ := hT.tupOf hc
    have hlen := hts.length
    have q1 : ∀ H', Same H H' → Q (.bl (decide ((ts.length : Int) ≤ 8) && (ts.all Tg.form && risD (ts.map fun t => .str t.toF1.1)))) H' := q
    refine ⟨_, rfl, a, _, rfl, .inr (SqT.of ea), _, _, rfl, rfl, _, rfl, ?_⟩
    rw [hlen]
    by_cases h8 : (ts.length : Int) ≤ 8
    rotate_left
    · rw [decide_eq_true (show (ts.length : Int) > 8 by omega)]
      refine iteT ?_
      rw [decide_eq_false h8] at q1
      exact q1 _ (same_refl _)
    rw [decide_eq_false (show ¬ (ts.length : Int) > 8 by omega)]
    rw [decide_eq_true h8, Bool.true_and] at q1
    refine iteF ⟨_, rfl, a, rfl, ⟨_, SqT.of ea⟩, fun M nM => ?_⟩
    refine lc_sameM (walk_tup (xs := xs)) ts (fun y => .bl y.form) hlen.symm (by omega) nM (fun H s => SqT.of (s _ _ ea)) ?_ ?_
    · rintro i y x H2' H2 hy s2 ⟨rfl, hx⟩ Q1 q1'
      exact ⟨rfl, _, rfl, p, x, y, rfl, TgAt.same s2 _ _ (hts.at hx hy), Tg.smAll_mem hs y (List.mem_of_getElem? hy), fun H3 s3 => q1' _ s3⟩
    intro H2 s2 eM
    refine ⟨M, ts.map Tg.form, rfl, SqL.of (by rw [eM, List.map_map]; rfl), ?_⟩
    rw [all_map_id]
    refine ⟨_, rfl, ?_⟩
    refine ite2 (fun c => ?_) (fun c => ?_)
    rotate_left
    · have c' : ts.all Tg.form = false := Bool.eq_false_iff.mpr c
      rw [c', Bool.false_and] at q1
      exact q1 _ s2
    have c' : ts.all Tg.form = true := c
    rw [c', Bool.true_and] at q1
    have hD := DtAll.kp (Same.tup s2) _ _ (dt_forms hts c')
    rw [List.map_map] at hD
    refine ⟨_, rfl, a, rfl, ⟨_, SqT.of (s2 _ _ ea)⟩, fun M2 nM2 => ?_⟩
    refine lc_sameM (walk_tup (xs := xs)) ts (fun y => .str y.toF1.1) hlen.symm (by omega) nM2 (fun H s => SqT.of (s _ _ (s2 _ _ ea))) ?_ ?_
    · rintro i y x H3' H3 hy s3 ⟨rfl, hx⟩ Q1 q1'
      have hd : (ts.map (dF1 ∘ Tg.toF1))[i]? = some (dF1 y.toF1) := by rw [List.getElem?_map, hy]; rfl
      obtain ⟨b, ys, rfl, eb, hys⟩ := (Dt.kp (Same.tup s3) _ _ (hD.at hx hd)).tupAt
      cases hys with
      | cons hy1 hys =>
      cases hy1
      exact ⟨rfl, _, rfl, b, _, _, _, rfl, rfl, SqT.of eb, atI_nat (j := 0) rfl, q1' _ (same_refl _)⟩
    intro H3 s3 eM2
    refine ⟨M2, _, ts.map fun y => .str y.toF1.1, rfl, eM2, ?_, fun d hd e he => ?_, fun d hd => ?_, by rw [List.length_map]; omega, fun H4 s4 => q1 _ (s2.trans (s3.trans s4))⟩
    · have e1 : (ts.map fun y : Tg => V.str y.toF1.1) = (ts.map fun y : Tg => y.toF1.1).map V.str := by rw [List.map_map]; rfl
      have e2 : (ts.map fun y : Tg => PyData.str y.toF1.1) = (ts.map fun y : Tg => y.toF1.1).map PyData.str := by rw [List.map_map]; rfl
      rw [e1, e2]
      exact DtAll.strs _
    · obtain ⟨x, _, rfl⟩ := List.mem_map.mp hd
      obtain ⟨y, _, rfl⟩ := List.mem_map.mp he
      simp [alike]
    · obtain ⟨x, _, rfl⟩ := List.mem_map.mp hd
      exact ⟨fun z => (by cases z), by simp [PyData.depth]⟩
end
end Deed

namespace Deed
open PySem PySem.Spec PySem.W PyProof.Rows L2 LamX RZ
/-! ### == of data; xs[i] += n; a def that may raise where it does not -/
section
variable {X : Cx}
def rEqP (K : PySem.W.Frag) (f : Bool → Bool) : R2 := fun x y H Q => ∃ d e, Dp K H x d ∧ Dp K H y e ∧ d.plain = true ∧ e.plain = true ∧ d.depth ≤ 8 ∧ Q (.bl (f (PyData.eqv d e))) H
theorem op_eqP {K : PySem.W.Frag} (hK : X.K = K) (hu : X.A.units + 64 < cLine) : OpR X (compareOp .Eq) (rEqP K id) := by
  subst hK
  intro pins s σ H x y v u Q I rx ry h
  obtain ⟨d, e, h1, h2, p1, p2, hd, q⟩ := h
  obtain ⟨as, r1⟩ := Dp.reads I d x v h1 rx
  obtain ⟨bs, r2⟩ := Dp.reads I e y u h2 ry
  have := Nat.min_le_left d.depth e.depth
  exact PySem.SeqAt.eq_plain r1 r2 p1 p2 (by omega) ⟨.bl _, H, I, rfl, q⟩
theorem op_neP {K : PySem.W.Frag} (hK : X.K = K) (hu : X.A.units + 64 < cLine) : OpR X (compareOp .NotEq) (rEqP K not) := by
  subst hK
  intro pins s σ H x y v u Q I rx ry h
  obtain ⟨d, e, h1, h2, p1, p2, hd, q⟩ := h
  obtain ⟨as, r1⟩ := Dp.reads I d x v h1 rx
  obtain ⟨bs, r2⟩ := Dp.reads I e y u h2 ry
  have := Nat.min_le_left d.depth e.depth
  exact PySem.SeqAt.ne_plain r1 r2 p1 p2 (by omega) ⟨.bl _, H, I, rfl, q⟩
def rGetL (K : PySem.W.Frag) : V → V → Hp → VK → Prop := fun x y H Q => ∃ p xs k v, x = .ref p ∧ y = .int k ∧ SqL K H p xs ∧ 0 ≤ k ∧ k < 2 ^ 63 ∧ xs[k.toNat]? = some v ∧ Q v H
theorem get_list : PGet X (rGetL X.K) := by
  intro pins s σ H x y ov iv Q I rx ry h
  obtain ⟨p, xs, k, v, rfl, rfl, hq, h0, h1, hv, q⟩ := h
  cases rx
  obtain ⟨t, rfl⟩ := ry
  obtain ⟨its, r, pl, hz⟩ := I.list hq
  obtain ⟨w, ew, rw'⟩ := r.get hv
  exact getItem_listL pl.isList h0 h1 ew ⟨v, H, I, rw', q⟩
end
section
variable {P : Program} {w : World} {K : PySem.W.Frag} {mg : Str → Option Value} {base : Heap} {k : Nat} {f : Addr} {fd : FuncData} {ps : List Str} {sp sp' : Sp}
theorem FnOk.ofX (F : FnOk P w K mg base (L2.CX P w) k f fd ps sp) (h : ∀ vs H Q E, sp' vs H Q E → sp vs H Q (fun _ _ _ => False)) : FnOk P w K mg base L2.CX0 k f fd ps sp' :=
  ⟨fun vs H Q E z => F.len vs H Q _ (h vs H Q E z), fun A outer s H args us vs Q E hr he hb hv hs => codeAny_mono (F.run A outer s H args us vs Q _ hr he hb hv (h vs H Q E hs)) fun r s' hq => by
    cases r with
    | error e =>
      obtain ⟨_, _, _, _, _, _, _, _, _, _, _, _, z⟩ := (show L2.CX P w outer H s (fun _ _ _ => False) e s' from hq)
      exact z.elim
    | ok fl => cases fl <;> exact hq⟩
end
theorem Dt.tref {H : Hp} {a : Addr} {ds : List PyData} (h : Dt H (.ref a) (.tuple ds)) : ∃ xs, H a = some (.tup xs) ∧ DtAll H xs ds := by
  cases h with
  | tup e ha => exact ⟨_, e, ha⟩
theorem eqv_ws (a b : List Str) : PyData.eqv (dWs a) (dWs b) = decide (a = b) := by
  have := eqvAll_map (α := Str) a b
  simp only [dWs, PyData.eqv]
  exact this
theorem plain_ws (a : List Str) : (dWs a).plain = true := by
  simp only [dWs, PyData.plain]
  exact plainAll_map (α := Str) a
theorem cutSeg {α : Type} (f : α → V) (l : List α) (i j : Nat) (h : i ≤ j) : cutV (l.map f) (some (i : Int)) (some (j : Int)) = ((l.drop i).take (j - i)).map f := by
  unfold cutV
  rw [HT.sIx_nat, HT.sIx_nat, List.length_map, ← List.map_drop, ← List.map_take]
  congr 1
  rcases Nat.lt_or_ge l.length i with h1 | h1
  · rw [Nat.min_eq_right (by omega), List.drop_of_length_le (by omega), List.drop_of_length_le (by omega), List.take_nil, List.take_nil]
  · rw [Nat.min_eq_left h1]
    rcases Nat.lt_or_ge l.length j with h2 | h2
    · rw [Nat.min_eq_right (by omega), List.take_of_length_le (by rw [List.length_drop]; omega), List.take_of_length_le (by rw [List.length_drop]; omega)]
    · rw [Nat.min_eq_left h2]
/-- what a full adds to the number at e, of the first i numbers -/
def hitU (ns : List Int) (cw f : List Str) (i e : Nat) : Int := if f.length ≤ e ∧ e - f.length < i ∧ (cw.drop (e - f.length)).take f.length = f then ns.getD (e - f.length) 0 else 0
def hit (ns : List Int) (cw f : List Str) (e : Nat) : Int := hitU ns cw f ns.length e
def rowB (ns : List Int) (fs : List (List Str)) (cw : List Str) : List Int := (List.range ns.length).map fun e => (fs.map fun f => hit ns cw f e).sum
theorem hitU_more (ns : List Int) (cw f : List Str) (i e : Nat) : hitU ns cw f (i + 1) e = hitU ns cw f i e + if e = i + f.length ∧ (cw.drop i).take f.length = f then ns.getD i 0 else 0 := by
  unfold hitU
  by_cases h1 : e = i + f.length
  · subst h1
    have e1 : i + f.length - f.length = i := by omega
    rw [e1]
    by_cases h2 : (cw.drop i).take f.length = f
    · rw [if_pos ⟨by omega, by omega, h2⟩, if_neg (fun z => absurd z.2.1 (by omega)), if_pos ⟨rfl, h2⟩]
      omega
    · rw [if_neg (fun z => h2 z.2.2), if_neg (fun z => h2 z.2.2), if_neg (fun z => h2 z.2)]
      rfl
  · rw [if_neg (fun z : e = i + f.length ∧ _ => h1 z.1), Int.add_zero]
    by_cases h3 : f.length ≤ e
    · by_cases h4 : e - f.length < i
      · by_cases h5 : (cw.drop (e - f.length)).take f.length = f
        · rw [if_pos ⟨h3, by omega, h5⟩, if_pos ⟨h3, h4, h5⟩]
        · rw [if_neg (fun z => h5 z.2.2), if_neg (fun z => h5 z.2.2)]
      · rw [if_neg (fun z => absurd z.2.1 (by omega)), if_neg (fun z => h4 z.2.1)]
    · rw [if_neg (fun z => h3 z.1), if_neg (fun z => h3 z.1)]
theorem hitU_zero (ns : List Int) (cw f : List Str) (e : Nat) : hitU ns cw f 0 e = 0 := if_neg fun z => absurd z.2.1 (by omega)
theorem seg_long {cw f : List Str} {i : Nat} (hf : f ≠ []) (h : (cw.drop i).take f.length = f) : i + f.length ≤ cw.length := by
  have e := congrArg List.length h
  rw [List.length_take, List.length_drop] at e
  have : 0 < f.length := List.length_pos_iff.mpr hf
  omega
theorem sum_more (fs : List (List Str)) (g : List Str → Int) {j : Nat} {f : List Str} (h : fs[j]? = some f) : ((fs.take (j + 1)).map g).sum = ((fs.take j).map g).sum + g f := by
  rw [take_more h, List.map_append, List.sum_append]
  simp
theorem set_range (n e : Nat) (B : Nat → Int) (v : Int) : ((List.range n).map B).set e v = (List.range n).map fun x => if x = e then v else B x := by
  apply List.ext_getElem?
  intro i
  rw [List.getElem?_set, List.length_map, List.length_range, List.getElem?_map, List.getElem?_map]
  by_cases hi : i < n
  · rw [List.getElem?_range hi]
    by_cases he : e = i
    · subst he
      simp [hi]
    · rw [if_neg he]
      show some (B i) = some (if i = e then v else B i)
      rw [if_neg fun z => he z.symm]
  · rw [List.getElem?_eq_none (by rw [List.length_range]; omega)]
    by_cases he : e = i
    · subst he
      simp [hi]
    · simp [he]
section
variable {P : Program} {w : World} {K : PySem.W.Frag} {mg : Str → Option Value} {base : Heap}
abbrev sCountsB : Stmt := topS 22
abbrev nCountsB : List Str := ["counts", "fulls", "copy", "behind", "full", "place", "many", "end"]
abbrev pCountsB : List Str := ["counts", "fulls", "copy"]
theorem scCountsB : FnScope nCountsB pCountsB (defScope sCountsB) := ⟨rfl, rfl, rfl, by decide +kernel, rfl, by decide +kernel, by decide +kernel⟩
def spCountsB : Sp := fun vs H Q _ => ∃ (a f c : Addr) (ns : List Int) (fs : List (List Str)) (cw : List Str), vs = [.ref a, .ref f, .ref c] ∧ H a = some (.lst (ns.map V.int)) ∧ Dt H (.ref f) (dFs fs) ∧ Dt H (.ref c) (dWs cw) ∧ (∀ x ∈ fs, x ≠ []) ∧ ns.length = cw.length + 1 ∧ cw.length ≤ 500 ∧ fs.length ≤ 500 ∧
  ∀ l H', Same H H' → H l = none → H' l = some (.lst ((rowB ns fs cw).map V.int)) → Q (.ref l) H'
theorem ok_CountsB {f : Addr} {fd : FuncData} {k : Nat} (F : Fun K "counts_behind" "counts_behind" sCountsB f fd) (m_len : mg "len" = none) (m_enumerate : mg "enumerate" = none) : FnOk P w K mg base CX0 (k + 1) f fd pCountsB spCountsB := by
  refine F.ok scCountsB (fun vs H Q E h => ?_) (fun cdv A outer s H vs Q E hr h => ?_)
  · obtain ⟨a, f, c, ns, fs, cw, rfl, _⟩ := h
    rfl
  · obtain ⟨a, fa, c, ns, fs, cw, rfl, ea, hF, hC, hne, hn, hcl, hfl, q⟩ := h
    have nd := scCountsB.nd
    refine ⟨_, pss_cons (ps_set (i := 3) nd rfl (.inl rfl) (pe_op op_rep (pe_lst (pa_cons pe_int pa_nil)) (pe_callB call_len_seq (by rfl) m_len (by decide +kernel) (pa_cons (pv 0) pa_nil))))
      (pss_cons (ps_for PassesOwn.never rfl (pi_tup (pv 1)) (pg_name (i := 4) nd rfl (.inl rfl))
        (pss_one (ps_for PassesOwn.never rfl (pi_enumB true (by rfl) m_enumerate (pa_cons (pv 0) pa_nil)) (pg_tup (by rfl) (pgs_cons (pg_name (i := 5) nd rfl (.inl rfl)) (pgs_cons (pg_name (i := 6) nd rfl (.inl rfl)) pgs_nil)))
        (pss_cons (ps_set (i := 7) nd rfl (.inl rfl) (pe_op op_add (pv 5) (pe_callB call_len_seq (by rfl) m_len (by decide +kernel) (pa_cons (pv 4) pa_nil))))
      (pss_one (ps_if (pt_cmpR (op_eqP (K := K) rfl hr.units) (pe_slice sl_tupA (pv 2) (po_some (pv 5)) (po_some (pv 7))) (pv 4) (nomark _)) (pss_one (ps_augS (pv 3) (pv 7) get_list (pv 6) ip_add set_list)) pss_nil))))))
      (pss_one (ps_ret (pv 3)))), ?_⟩
    obtain ⟨xf, ef, hxf⟩ := hF.tref
    obtain ⟨zf, rfl, rfl, hzf⟩ := hxf.ofRefs (enc := fun f : List Str => f.map PyData.str)
    obtain ⟨xc, ec, hxc⟩ := hC.tref
    obtain rfl := hxc.ofStrs
    refine ⟨(by show 1 ≤ sizeLine; decide), fun l0 nl0 => ?_⟩
    have s0 := same_new nl0 (.lst [.int 0])
    have e0 : (upd H l0 (.lst [.int 0])) l0 = some (.lst [.int 0]) := upd_same
    generalize (upd H l0 (.lst [.int 0])) = H0 at s0 e0
    have hnl : (ns.map V.int).length = ns.length := List.length_map _
    refine ⟨_, rfl, a, _, rfl, .inl (SqL.of (s0 _ _ ea)), l0, _, _, rfl, rfl, e0, by omega, by omega, ?_, fun b nb => ?_⟩
    · rw [hnl]
      exact Nat.le_of_lt (small1000 (by simp; omega))
    have eb : (List.replicate (((ns.map V.int).length : Nat) : Int).toNat [V.int 0]).flatten = ((List.range ns.length).map fun _ => (0 : Int)).map V.int := by
      rw [hnl, Int.toNat_natCast, List.map_map]
      generalize ns.length = m
      induction m with
      | zero => rfl
      | succ m ih =>
        rw [List.replicate_succ, List.flatten_cons, ih, List.range_succ_eq_map]
        simp
    rw [eb]
    have s1 : Same H0 (upd H0 b (.lst (((List.range ns.length).map fun _ => (0 : Int)).map V.int))) := same_new nb _
    have nbH : H b = none := none_back s0 nb
    have e1 : (upd H0 b (.lst (((List.range ns.length).map fun _ => (0 : Int)).map V.int))) b = some (.lst (((List.range ns.length).map fun _ => (0 : Int)).map V.int)) := upd_same
    generalize (upd H0 b (.lst (((List.range ns.length).map fun _ => (0 : Int)).map V.int))) = H1 at s1 e1
    have s01 := s0.trans s1
    refine ⟨_, rfl, fa, rfl, ⟨_, SqT.of (s01 _ _ ef)⟩, ?_⟩
    refine for_tup (xs := zf.map fun z => V.ref z.1) (fun j σ H' => ∃ y4 y5 y6 y7, σ = [some (.ref a), some (.ref fa), some (.ref c), some (.ref b), y4, y5, y6, y7] ∧ Same H H' ∧ H' b = some (.lst (((List.range ns.length).map fun e => (((zf.map (·.2)).take j).map fun f => hit ns cw f e).sum).map V.int)))
      ⟨none, none, none, none, rfl, s01, by simpa using e1⟩ (fun j σ H' _ hj => ?_) ?_ ?_
    · obtain ⟨_, _, _, _, _, sh, _⟩ := hj
      exact SqT.of (sh _ _ ef)
    · rintro j x σ H2 hx ⟨y4, y5, y6, y7, rfl, s2, e2⟩
      rw [List.getElem?_map] at hx
      obtain ⟨z, hz, rfl⟩ := Option.map_eq_some_iff.mp hx
      have zm := List.mem_of_getElem? hz
      have fz : (zf.map (·.2))[j]? = some z.2 := by rw [List.getElem?_map, hz]; rfl
      have zne : z.2 ≠ [] := hne _ (List.mem_of_getElem? fz)
      obtain ⟨xz, ez, hxz⟩ := (hzf z zm).tref
      obtain rfl := hxz.ofStrs
      refine ⟨_, rfl, a, _, rfl, SqL.of (s2 _ _ ea), ?_⟩
      refine for_it (walk_enumB (c := true) (xs := ns.map V.int)) (fun i σ H' => ∃ y5 y6 y7, σ = [some (.ref a), some (.ref fa), some (.ref c), some (.ref b), some (.ref z.1), y5, y6, y7] ∧ Same H H' ∧ H' b = some (.lst (((List.range ns.length).map fun e => (((zf.map (·.2)).take j).map fun f => hit ns cw f e).sum + hitU ns cw z.2 i e).map V.int)))
        ⟨_, _, _, rfl, s2, ?_⟩ (fun i σ H' _ h => ?_) ?_ ?_
      · rw [e2]
        congr 3
        exact List.map_congr_left fun e _ => by rw [hitU_zero, Int.add_zero]
      · obtain ⟨_, _, _, _, sh, _⟩ := h
        exact SqL.of (sh _ _ ea)
      · rintro i x σ H3 H3' hi ⟨y5, y6, y7, rfl, s3, e3⟩ ⟨T0, xx, yy, rfl, nT, rfl, hxx, hyy⟩
        rw [hnl] at hi
        injection hxx with hxx
        subst hxx
        dsimp only at hyy
        rw [List.getElem?_map, List.getElem?_eq_getElem hi] at hyy
        injection hyy with hyy
        subst hyy
        have nTH : H T0 = none := none_back s3 nT
        have nbT : b ≠ T0 := fun z => by rw [← z, e3] at nT; cases nT
        have s4 := same_new nT (.tup [.int (i : Nat), .int ns[i]])
        have eT : (upd H3 T0 (.tup [.int (i : Nat), .int ns[i]])) T0 = some (.tup [.int (i : Nat), .int ns[i]]) := upd_same
        have e4 := s4 _ _ e3
        generalize (upd H3 T0 (.tup [.int (i : Nat), .int ns[i]])) = H4 at s4 eT e4
        have s04 := s3.trans s4
        refine ⟨T0, _, rfl, SqT.of eT, rfl, _, _, rfl, _, _, rfl, rfl, ?_⟩
        have ez4 : H4 z.1 = some (.tup (z.2.map V.str)) := s04 _ _ ez
        have hzl : (z.2.map V.str).length = z.2.length := List.length_map _
        refine ⟨_, rfl, _, rfl, z.1, _, rfl, .inr (SqT.of ez4), _, _, rfl, rfl, ?_⟩
        refine ⟨_, rfl, _, rfl, _, rfl, _, rfl, _, rfl, ?_⟩
        refine slA_same (s04 _ _ ec) fun t5 H5 s5 e5 => ?_
        have ek : ((i : Nat) : Int) + ((z.2.map V.str).length : Nat) = ((i + z.2.length : Nat) : Int) := by rw [hzl]; omega
        rw [ek, cutSeg V.str cw i (i + z.2.length) (by omega), show i + z.2.length - i = z.2.length by omega] at e5
        have s05 := s04.trans s5
        refine ⟨_, rfl, dWs ((cw.drop i).take z.2.length), dWs z.2, .tup (SqT.of e5) (DtAll.dp _ _ (DtAll.strs _)), .tup (SqT.of (s05 _ _ ez)) (DtAll.dp _ _ (DtAll.strs _)), plain_ws _, plain_ws _, Nat.le_trans (depth_ws _) (by decide), _, rfl, ?_⟩
        rw [eqv_ws]
        have eb5 := s5 _ _ e4
        refine ite2 (fun c1 => ?_) (fun c1 => ?_)
        · have c1' : (cw.drop i).take z.2.length = z.2 := of_decide_eq_true c1
          have lo := seg_long zne c1'
          have hend : i + z.2.length < ns.length := by omega
          refine ⟨_, rfl, _, rfl, b, _, (i : Int) + ((z.2.map V.str).length : Nat), .int ((((zf.map (·.2)).take j).map fun f => hit ns cw f (i + z.2.length)).sum + hitU ns cw z.2 i (i + z.2.length)), rfl, rfl, SqL.of eb5, by omega, by omega, ?_, _, rfl, _, _, rfl, rfl, b, _, _, i + z.2.length, rfl, rfl, eb5, ?_, ?_⟩
          · rw [ek, Int.toNat_natCast, List.getElem?_map, List.getElem?_map, List.getElem?_range hend]
            rfl
          · rw [List.length_map, List.length_map, List.length_range, ek]
            unfold ixN
            rw [if_pos (by omega), if_pos (by omega), Int.toNat_natCast]
          · refine ⟨_, _, _, rfl, same_put nbH s05 _, ?_⟩
            rw [upd_same, show (V.int ((((zf.map (·.2)).take j).map fun f => hit ns cw f (i + z.2.length)).sum + hitU ns cw z.2 i (i + z.2.length) + ns[i])) = V.int _ from rfl, ← List.map_set, set_range]
            congr 3
            refine List.map_congr_left fun e he => ?_
            rw [hitU_more]
            by_cases hee : e = i + z.2.length
            · subst hee
              rw [if_pos rfl, if_pos ⟨rfl, c1'⟩, List.getD_eq_getElem?_getD, List.getElem?_eq_getElem hi]
              show _ = _ + (_ + ns[i])
              omega
            · rw [if_neg hee, if_neg (fun z => hee z.1), Int.add_zero]
        · have c1' : ¬ (cw.drop i).take z.2.length = z.2 := fun e => c1 (decide_eq_true e)
          refine ⟨_, _, _, rfl, s05, ?_⟩
          rw [eb5]
          congr 3
          refine List.map_congr_left fun e he => ?_
          rw [hitU_more, if_neg (fun z => c1' z.2), Int.add_zero]
      · rintro σ H3 ⟨y5, y6, y7, rfl, s3, e3⟩
        refine ⟨_, _, _, _, rfl, s3, ?_⟩
        rw [e3, hnl]
        congr 3
        refine List.map_congr_left fun e he => ?_
        rw [sum_more _ _ fz]
        rfl
    · rintro σ H2 ⟨y4, y5, y6, y7, rfl, s2, e2⟩
      refine ⟨_, rfl, q b H2 s2 nbH ?_⟩
      rw [e2, List.take_of_length_le (by simp)]
      rfl
end
end Deed

namespace Deed
open PySem PySem.Spec PyProof.Rows L2 LamX
/-! ### refusals: promises of defs that may raise; a def that calls what it got and tells what was raised -/
section
variable {P : Program} {w : World} {K : PySem.W.Frag} {mg : Str → Option Value} {base : Heap} {k : Nat} {f : Addr} {fd : FuncData} {ps : List Str} {sp sp' : Sp}
theorem FnOk.toX (F : FnOk P w K mg base L2.CX0 k f fd ps sp) : FnOk P w K mg base (L2.CX P w) k f fd ps sp :=
  ⟨F.len, fun A outer s H args us vs Q E hr he hb hv hs => codeAny_mono (F.run A outer s H args us vs Q E hr he hb hv hs) fun r s' hq => by
    cases r with
    | error e => exact (show False from hq).elim
    | ok fl => cases fl <;> exact hq⟩
def orSp (a b : Sp) : Sp := fun vs H Q E => a vs H Q E ∨ b vs H Q E
theorem FnOk.or {CX : CXT} (F : FnOk P w K mg base CX k f fd ps sp) (G : FnOk P w K mg base CX k f fd ps sp') : FnOk P w K mg base CX k f fd ps (orSp sp sp') :=
  ⟨fun vs H Q E h => h.elim (F.len vs H Q E) (G.len vs H Q E), fun A outer s H args us vs Q E hr he hb hv hs => hs.elim (F.run A outer s H args us vs Q E hr he hb hv) (G.run A outer s H args us vs Q E hr he hb hv)⟩
end
/-- an own class of refusals over ValueError, made with a text -/
structure ExcCl (K : PySem.W.Frag) (mg : Str → Option Value) (x : Str) (C : Addr) : Prop where
  xP : PySem.W.excIn K C [.type "ValueError", .type "Exception", .type "BaseException", .type "object"] "ValueError.__new__" = true
  gP : mg x = some (.ref C)
  kP : PySem.W.keepIn K (.ref C) = true
  bP : PySem.W.subIn K (.ref C) (.type "BaseException") = some true
  tP : PySem.W.typeIn K (.ref C) = some (.type "type")
  eP : PySem.W.exmOne K (.ref C) (.ref C) = some true
/-- a def that may raise -/
structure CallX (P : Program) (w : World) (K : PySem.W.Frag) (mg : Str → Option Value) (base : Heap) (L : Nat) (x : Str) (ps : List Str) (sp : Sp) where
  f : Addr
  fd : FuncData
  g : mg x = some (.ref f)
  kp : PySem.W.keepIn K (.ref f) = true
  b : Binds K fd ps []
  ok : FnOk P w K mg base (L2.CX P w) L f fd ps sp
def CallX.mono {P : Program} {w : World} {K : PySem.W.Frag} {mg : Str → Option Value} {base : Heap} {L L' : Nat} {x : Str} {ps : List Str} {sp : Sp} (c : CallX P w K mg base L x ps sp) (h : L ≤ L') : CallX P w K mg base L' x ps sp := ⟨c.f, c.fd, c.g, c.kp, c.b, c.ok.mono h⟩
def Df.callX {P : Program} {w : World} {K : PySem.W.Frag} {mg : Str → Option Value} {base : Heap} {L : Nat} {x : Str} {st : Stmt} {ps : List Str} {f : Addr} {fd : FuncData} {sp : Sp} (D : Df K mg x st ps f fd) (G : FnOk P w K mg base (L2.CX P w) L f fd ps sp) : CallX P w K mg base L x ps sp := ⟨f, fd, D.g, D.F.kp, D.b, G⟩
/-- the words for what is raised, class by class -/
def chain (K : PySem.W.Frag) (Q : VK) : List (Addr × Str) → XK
  | [] => fun _ _ _ => False
  | (C, z) :: r => fun cls d H => ∃ b, PySem.W.exmOne K cls (.ref C) = some b ∧ (b = true → Q (.str z) H) ∧ (b = false → chain K Q r cls d H)
def TWhy (K : PySem.W.Frag) (l : List (Addr × Str)) (ret : Str) : (XK → Hp → VK → Prop) → Hp → VK → Prop := fun tl H Q => tl (chain K Q l) H (fun _ H' => Q (.str ret) H')
theorem chain_many {K : PySem.W.Frag} {Q : VK} {D : Ends} (hD : D.rt = Q) : ∀ {l : List (Addr × Str)} {cls : Value} {d : Option Addr} {σ : L2.St} {H : Hp}, chain K Q l cls d H → wMany K (fun _ _ _ _ => False) D (l.map fun p => (Value.ref p.1, fun _ _ _ => tRet (tC (.str p.2)))) cls d σ H
  | [], _, _, _, _, h => h
  | (C, z) :: r, cls, d, σ, H, h => by
    obtain ⟨b, e1, e2, e3⟩ := h
    exact ⟨b, e1, fun hb a _ => by
      show D.rt (.str z) H
      rw [hD]
      exact e2 hb, fun hb => chain_many hD (e3 hb)⟩
section
variable {X : Cx}
theorem why_gives {Ng : List Str} {x a q ret : Str} {sg : Scope} {g : Addr} {cdg : Value} {j : Nat} {p1 p2 p3 p5 p6 p8 : Pos} {h0 : ExceptHandler} {hds : List ExceptHandler} {l : List (Addr × Str)} (hst : ∀ f : Addr, (L2.start Ng [V.ref f])[0]? = some (some (V.ref f)))
    (hh : ∀ s H, HdsOk (cxOf C8.CX0 X.prog X.w X.K X.mg X.base Ng x sg g cdg X.A X.stack s H C8.E0).nox (h0 :: hds) (l.map fun p => (Value.ref p.1, fun _ _ _ => tRet (tC (.str p.2))))) :
    GivesTo X Ng x sg g cdg [.Try [.Expr (.Call (.Name a p1) [] [] p2) p3] (h0 :: hds) [] [] p8, .Return (some (.Constant (.str ret) j p5)) p6] a q (TWhy X.K l ret) := by
  intro f c' s H Q tl act hc h
  refine ⟨_, pss_cons (ps_try_many (X := (cxOf C8.CX0 X.prog X.w X.K X.mg X.base Ng x sg g cdg X.A X.stack s H C8.E0).nox) (Wout := fun _ _ _ _ => False) (l := l.map fun p => (Value.ref p.1, fun _ _ _ => tRet (tC (.str p.2))))
      (tb := fun W D σ H => ∃ Ech : XK, (∀ cls d σ' H', Ech cls d H' → W cls d σ' H') ∧ σ[0]? = some (some (.ref f)) ∧ H c' = some (CodeO c' q) ∧ tl Ech H (fun _ H' => D.nx σ H'))
      rfl rfl LamX.takes0 (fun W pn xe tk _ => ?_) (hh s H)) (pss_one (ps_ret pe_str)), ?_⟩
  · refine ⟨fun pins s' σ H' D I h' => ?_⟩
    obtain ⟨Ech, hW, h1, h2, h3⟩ := h'
    have hp := act W pn xe Ech p1 p2 tk hW
    have hq := pss_one (ps_expr (pos := p3) hp)
    exact hq.run pins s' σ H' D I ⟨h1, h2, h3⟩
  · exact ⟨chain X.K Q l, fun cls d σ' H' hc => chain_many rfl hc, hst f, hc, h⟩
end
mutual
theorem TgAt.ext {p : Addr} {H H' : Hp} (k : ExtN H H') : ∀ (t : Tg) (v : V), TgAt p H v t → TgAt p H' v t
  | .non, _, h => by cases h; exact .non
  | .bl _, _, h => by cases h; exact .bl _
  | .int _, _, h => by cases h; exact .int _
  | .str _, _, h => by cases h; exact .str _
  | .lst, _, h => by
    cases h with
    | lst n e => exact .lst n (k _ _ e fun _ z => by cases z)
  | .tup ts, _, h => by
    cases h with
    | tup e ha => exact .tup (k _ _ e fun _ z => by cases z) (TgAll.ext k ts _ ha)
  | .dct, _, h => by
    cases h with
    | dct n e => exact .dct n (k _ _ e fun _ z => by cases z)
theorem TgAll.ext {p : Addr} {H H' : Hp} (k : ExtN H H') : ∀ (ts : List Tg) (vs : List V), TgAll p H vs ts → TgAll p H' vs ts
  | [], _, h => by cases h; exact .nil
  | t :: ts, _, h => by
    cases h with
    | cons h1 h2 => exact .cons (TgAt.ext k t _ h1) (TgAll.ext k ts _ h2)
end
end Deed

namespace Deed
open PySem PySem.Spec PyProof.Rows L2 LamX
section
variable {J : It} {n : Nat} {G : Hp → Prop} {Y : Nat → Hp → V → Hp → Prop} {g : TG} {te : TE} {vs : List Nat} {σ : L2.St} {H1 : Hp} {D : Addr} {Qd : Hp → Prop} {α : Type}
/-- new objects of whatever kind -/
theorem lc_newG (w : Walk J n G Y) (ys : List α) (O : α → Addr → Hp → Prop) (hO : ∀ y t H H' xs, H D = some (.lst xs) → (∀ a o, a ≠ D → H a = some o → H' a = some o) → O y t H → O y t H') (hn : ys.length = n) (hlen : ys.length ≤ 1000) (nD : H1 D = none) (hG : ∀ H, Same H1 H → G H)
    (hs : ∀ i y x H H', ys[i]? = some y → Same H1 H → (∃ xs, H D = some (.lst xs)) → Y i H x H' → ∀ (Q1 : V → Hp → Prop), (∀ t H4, Same H H4 → O y t H4 → Q1 (.ref t) H4) →
      g x (wipe σ vs) H' fun σ2 H2 => wipe σ2 vs = wipe σ vs ∧ te σ2 H2 Q1)
    (hd : ∀ H (zs : List (Addr × α)), Same H1 H → H D = some (.lst (zs.map fun z => .ref z.1)) → zs.map (·.2) = ys → (∀ z ∈ zs, O z.2 z.1 H) → Qd H) : LcGoal J g tYes te vs σ H1 D Qd := by
  refine lc_gen w ys (fun _ => true) (fun H => Same H1 H ∧ ∃ xs, H D = some (.lst xs)) Same (fun H y u => ∃ t, u = .ref t ∧ O y t H) hn hlen ⟨same_new nD _, _, upd_same⟩ (fun H h => hG H h.1) (fun H H' h1 h2 => ⟨⟨h1.1.trans h2, h1.2.imp fun xs e => h2 _ _ e⟩, fun xs e => h2 _ _ e⟩) (fun H xs l h1 _ => ⟨same_put nD h1.1 _, _, upd_same⟩) (fun H H' y u h1 h2 e => ?_) (fun H xs l y u h1 h2 e => ?_) (fun i y x H H' hy h1 hY Q1 Q0 q1 q0 => ?_) (fun H zs h1 e ez hz => ?_)
  · obtain ⟨t, e1, e2⟩ := e
    obtain ⟨xs, hx⟩ := h1.2
    exact ⟨t, e1, hO y t H H' xs hx (fun a o _ h => h2 a o h) e2⟩
  · obtain ⟨t, e1, e2⟩ := e
    exact ⟨t, e1, hO y t H _ xs h2 (fun a o n h => by rw [upd_ne n]; exact h) e2⟩
  · exact hs i y x H H' hy h1.1 h1.2 hY Q1 (fun t H4 s4 e4 => q1 rfl _ H4 s4 ⟨t, rfl, e4⟩)
  · have key : ∀ zs : List (V × α), (∀ z ∈ zs, ∃ t, z.1 = .ref t ∧ O z.2 t H) → ∃ ws : List (Addr × α), zs.map (·.1) = ws.map (fun z => V.ref z.1) ∧ ws.map (·.2) = zs.map (·.2) ∧ ∀ z ∈ ws, O z.2 z.1 H := by
      intro zs
      induction zs with
      | nil => exact fun _ => ⟨[], rfl, rfl, fun _ h => nomatch h⟩
      | cons z r ih =>
        intro h
        obtain ⟨ws, a1, a2, a3⟩ := ih fun x hx => h x (List.mem_cons_of_mem _ hx)
        obtain ⟨t, e1, e2⟩ := h z List.mem_cons_self
        refine ⟨(t, z.2) :: ws, ?_, ?_, fun x hx => ?_⟩
        · rw [List.map_cons, List.map_cons, a1, e1]
        · rw [List.map_cons, List.map_cons, a2]
        · rcases List.mem_cons.mp hx with h | h
          · rw [h]
            exact e2
          · exact a3 x h
    obtain ⟨ws, a1, a2, a3⟩ := key zs hz
    exact hd H ws h1.1 (by rw [e, a1]) (by rw [a2, ez, List.filter_eq_self.mpr fun _ _ => rfl]) a3
end
end Deed

namespace Deed
open PySem PySem.Spec PyProof.Rows L2 LamX
theorem dc_walk {J : It} {n : Nat} {G : Hp → Prop} {Y : Nat → Hp → V → Hp → Prop} {g : TG} {tt : TT} {tk tv : TE} {vs : List Nat} {σ : L2.St} {H1 : Hp} {D : Addr} {Qd : Hp → Prop} (wk : Walk J n G Y) (Pv : Nat → Hp → Prop) (h0 : Pv 0 (upd H1 D (.dK []))) (hl : ∀ i H, i ≤ n → Pv i H → G H)
    (hs : ∀ i x H H', i < n → Pv i H → Y i H x H' → g x (wipe σ vs) H' fun σ2 H2 => wipe σ2 vs = wipe σ vs ∧ tt σ2 H2 fun b H3 => if b = true then tk σ2 H3 fun y H4 => tv σ2 H4 fun z H5 => ∃ kvs k, y = kV k ∧ H5 D = some (.dK kvs) ∧ kvs.length < sizeLine ∧ Pv (i + 1) (upd H5 D (.dK (putK kvs k z))) else Pv (i + 1) H3)
    (hd : ∀ H, Pv n H → Qd H) : ∃ W : Nat → Nat → Hp → Prop, (∃ m, W 0 m (upd H1 D (.dK []))) ∧ ∀ i m H, W i m H → (J.stop i H ∧ Qd H) ∨ (J.go i H ∧ ∃ Nx : Hp → Prop, (∀ H', Nx H' → ∃ m', m' < m ∧ W (i + 1) m' H') ∧ ∀ x H', J.yld i H x H' → g x (wipe σ vs) H' fun σ2 H2 => wipe σ2 vs = wipe σ vs ∧ tt σ2 H2 fun b H3 =>
        if b = true then tk σ2 H3 fun y H4 => tv σ2 H4 fun z H5 => ∃ kvs k, y = kV k ∧ H5 D = some (.dK kvs) ∧ kvs.length < sizeLine ∧ Nx (upd H5 D (.dK (putK kvs k z))) else Nx H3) := by
  refine ⟨fun i m H => m = n - i ∧ i ≤ n ∧ Pv i H, ⟨n, rfl, Nat.zero_le _, h0⟩, ?_⟩
  rintro i m H ⟨rfl, hi, pp⟩
  have qq := hl i H hi pp
  rcases Nat.lt_or_ge i n with hlt | hge
  · refine .inr ⟨wk.1 i H hlt qq, Pv (i + 1), fun H' pn => ⟨n - (i + 1), by omega, rfl, hlt, pn⟩, fun x H' yy => ?_⟩
    exact hs i x H H' hlt pp (wk.3 i H x H' hlt qq yy)
  · obtain rfl : i = n := by omega
    exact .inl ⟨wk.2 H qq, hd H pp⟩
end Deed

namespace Deed
open PySem PySem.Spec PySem.W PyProof.Rows L2 LamX RZ
/-! ### forms that are some; what says a word; the rows of counts -/
theorem lt_trans {a b c : PyData} (h1 : dataLt a b = true) (h2 : dataLt b c = true) : dataLt a c = true := lex_trans _ _ _ h1 h2
theorem risD_get {ds : List PyData} (h : risD ds = true) {j : Nat} (hj : j + 1 < ds.length) : dataLt (ds.getD j .none) (ds.getD (j + 1) .none) = true := List.all_eq_true.mp h j (List.mem_range.mpr (by omega))
theorem risD_lt {ds : List PyData} (h : risD ds = true) : ∀ (d i : Nat), i + d + 1 < ds.length → dataLt (ds.getD i .none) (ds.getD (i + d + 1) .none) = true
  | 0, i, hi => risD_get h hi
  | d + 1, i, hi => lt_trans (risD_lt h d i (by omega)) (risD_get h (j := i + d + 1) (by omega))
theorem risD_pairwise {ds : List PyData} (h : risD ds = true) : ds.Pairwise (fun a b => dataLt a b = true) := by
  refine List.pairwise_iff_getElem.mpr fun i j hi hj hij => ?_
  have := risD_lt h (j - i - 1) i (by omega)
  rw [show i + (j - i - 1) + 1 = j by omega, List.getD_eq_getElem?_getD, List.getD_eq_getElem?_getD, List.getElem?_eq_getElem hi, List.getElem?_eq_getElem hj] at this
  exact this
theorem risD_of {ds : List PyData} (h : ds.Pairwise (fun a b => dataLt a b = true)) : risD ds = true := by
  refine List.all_eq_true.mpr fun j hj => ?_
  have hj' := List.mem_range.mp hj
  have := List.pairwise_iff_getElem.mp h j (j + 1) (by omega) (by omega) (by omega)
  show dataLt (ds.getD j .none) (ds.getD (j + 1) .none) = true
  rw [List.getD_eq_getElem?_getD, List.getD_eq_getElem?_getD, List.getElem?_eq_getElem (by omega), List.getElem?_eq_getElem (by omega)]
  exact this
theorem lt_ne {a b : PyData} (h : dataLt a b = true) : a ≠ b := fun z => by
  rw [z, dataLt_self] at h
  cases h
structure FsOk (fs : List (List Str)) : Prop where
  pos : fs ≠ []
  few : fs.length ≤ 3
  ws : ∀ f ∈ fs, f ≠ [] ∧ f.length ≤ 3
  up : (fs.map dWs).Pairwise (fun a b => dataLt a b = true)
structure FmOk (fm : List Fm1) : Prop where
  few : fm.length ≤ 8
  up : (fm.map fun x => PyData.str x.1).Pairwise (fun a b => dataLt a b = true)
  fs : ∀ x ∈ fm, FsOk x.2
theorem FmOk.nd {fm : List Fm1} (h : FmOk fm) : (fm.map (·.1)).Nodup := by
  have := h.up
  rw [List.pairwise_map] at this
  exact List.pairwise_map.mpr (this.imp fun {a b} z e => lt_ne z (congrArg PyData.str e))
theorem fsOk_of {t : Tg} (h : t.fulls = true) : FsOk t.toFs := by
  obtain ⟨ts, rfl, h1, h2, h3, h4⟩ := Tg.fulls_tup h
  refine ⟨fun z => ?_, ?_, fun f hf => ?_, ?_⟩
  · have := congrArg List.length z
    simp [Tg.toFs] at this
    rw [this] at h1
    simp at h1
  · show (ts.map Tg.toWs).length ≤ 3
    rw [List.length_map]
    exact h2
  · obtain ⟨t, ht, rfl⟩ := List.mem_map.mp (show f ∈ ts.map Tg.toWs from hf)
    obtain ⟨us, rfl, g1, g2, _⟩ := Tg.words_tup (List.all_eq_true.mp h3 t ht)
    have e : (Tg.toWs (.tup us)).length = us.length := List.length_map _
    refine ⟨fun z => ?_, by omega⟩
    rw [z] at e
    simp at e
    omega
  · show ((ts.map Tg.toWs).map dWs).Pairwise _
    rw [List.map_map]
    exact risD_pairwise h4
theorem fmOk_of {t : Tg} (h : t.forms = true) : FmOk t.toFm := by
  obtain ⟨ts, rfl, h1, h2, h3⟩ := Tg.forms_tup h
  refine ⟨?_, ?_, fun x hx => ?_⟩
  · show (ts.map Tg.toF1).length ≤ 8
    rw [List.length_map]
    exact h1
  · show ((ts.map Tg.toF1).map fun x => PyData.str x.1).Pairwise _
    rw [List.map_map]
    exact risD_pairwise h3
  · obtain ⟨t, ht, rfl⟩ := List.mem_map.mp (show x ∈ ts.map Tg.toF1 from hx)
    obtain ⟨y, b, rfl, _, hb⟩ := Tg.form_tup (List.all_eq_true.mp h2 t ht)
    exact fsOk_of hb
/-- what says a word -/
def fulF (fm : List Fm1) (w : Str) : List (List Str) := ((fm.find? fun x => decide (x.1 = w)).map (·.2)).getD [[w]]
theorem fulF_ok {fm : List Fm1} (h : FmOk fm) (w : Str) : FsOk (fulF fm w) := by
  unfold fulF
  cases e : fm.find? fun x => decide (x.1 = w) with
  | none => exact ⟨by simp, by simp, fun f hf => by simp at hf; subst hf; simp, by simp⟩
  | some x => exact h.fs x (List.mem_of_find?_eq_some e)
def row0 (cw : List Str) : List Int := 1 :: List.replicate cw.length 0
def rowAt (cw : List Str) (Fs : List (List (List Str))) : List Int := Fs.foldl (fun r fs => rowB r fs cw) (row0 cw)
theorem rowB_len (ns : List Int) (fs : List (List Str)) (cw : List Str) : (rowB ns fs cw).length = ns.length := by
  unfold rowB
  rw [List.length_map, List.length_range]
theorem rowAt_len (cw : List Str) : ∀ Fs : List (List (List Str)), (rowAt cw Fs).length = cw.length + 1 := by
  intro Fs
  unfold rowAt
  have key : ∀ (Fs : List (List (List Str))) (r : List Int), (Fs.foldl (fun r fs => rowB r fs cw) r).length = r.length := by
    intro Fs
    induction Fs with
    | nil => exact fun _ => rfl
    | cons fs r ih => exact fun ns => (ih _).trans (rowB_len _ _ _)
  rw [key]
  simp [row0]
theorem rowAt_more (cw : List Str) (Fs : List (List (List Str))) (fs : List (List Str)) : rowAt cw (Fs ++ [fs]) = rowB (rowAt cw Fs) fs cw := by
  unfold rowAt
  rw [List.foldl_append]
  rfl
/-- the rows, for each number of the draft's first words -/
def rowsF (cw : List Str) (Fs : List (List (List Str))) : List (List Int) := (List.range (Fs.length + 1)).map fun i => rowAt cw (Fs.take i)
section
variable {P : Program} {w : World} {K : PySem.W.Frag} {mg : Str → Option Value} {base : Heap}
/-- what is due where these are none -/
def BadT (CF CD CC : Addr) (tf td tc : Tg) (E : XK) (H : Hp) : Prop := ∀ H', Same H H' → (tf.forms = false → E (.ref CF) none H') ∧ (tf.forms = true → td.words 0 12 = false → E (.ref CD) none H') ∧ (tf.forms = true → td.words 0 12 = true → tc.words 0 30 = false → E (.ref CC) none H')
theorem BadT.same {CF CD CC : Addr} {tf td tc : Tg} {E : XK} {H H1 : Hp} (h : BadT CF CD CC tf td tc E H) (s : Same H H1) : BadT CF CD CC tf td tc E H1 := fun H' s' => h H' (s.trans s')
def Ok3 (tf td tc : Tg) : Prop := tf.forms = true ∧ td.words 0 12 = true ∧ tc.words 0 30 = true
def spTx (CF CD CC : Addr) (R : List Fm1 → List Str → List Str → Hp → V → Hp → Prop) : Sp := fun vs H Q E => ∃ (p : Addr) (f d c : V) (tf td tc : Tg), vs = [f, d, c] ∧ TgAt p H f tf ∧ TgAt p H d td ∧ TgAt p H c tc ∧ tf.sm = true ∧ td.sm = true ∧ tc.sm = true ∧ BadT CF CD CC tf td tc E H ∧
  (Ok3 tf td tc → ∀ r H', Same H H' → R tf.toFm td.toWs tc.toWs H r H' → Q r H')
abbrev sCheckT : Stmt := topS 20
abbrev nCheckT : List Str := ["forms", "draft", "copy"]
abbrev pCheckT : List Str := ["forms", "draft", "copy"]
theorem scCheckT : FnScope nCheckT pCheckT (defScope sCheckT) := ⟨rfl, rfl, rfl, by decide +kernel, rfl, by decide +kernel, by decide +kernel⟩
theorem okX_CheckT {f CF CD CC : Addr} {fd : FuncData} {k : Nat} (F : Fun K "check_texts" "check_texts" sCheckT f fd) (NF : ExcCl K mg "NoForms" CF) (ND : ExcCl K mg "NoDraft" CD) (NC : ExcCl K mg "NoCopy" CC) (C_are_forms : CallOk P w K mg base k "are_forms" pAreForms (spB1s Tg.forms)) (C_are_words : CallOk P w K mg base k "are_words" pAreWords spAreWords) (iMOST_DRAFT_WORDS : MgInt mg "MOST_DRAFT_WORDS" 12) (iMOST_COPY_WORDS : MgInt mg "MOST_COPY_WORDS" 30) :
    FnOk P w K mg base (L2.CX P w) (k + 1) f fd pCheckT (spTx CF CD CC fun _ _ _ _ r _ => r = .non) := by
  refine F.okX scCheckT (fun vs H Q E h => ?_) (fun cdv A outer s H vs Q E hr h => ?_)
  · obtain ⟨p, f, d, c, tf, td, tc, rfl, _⟩ := h
    rfl
  · obtain ⟨p, fv, dv, cv, tf, td, tc, rfl, hf, hd, hc, sf, sd, sc, bad, q⟩ := h
    refine ⟨_, pss_cons (ps_if (pt_not (pt_val (pe_call C_are_forms.ok hr (by rfl) C_are_forms.g C_are_forms.kp C_are_forms.b .nil pass0 (pa_cons (pv 0) pa_nil)))) (pss_one (ps_raise rfl (takes_of rfl rfl rfl rfl) (pmk_own PySem.F.excBase_ValueError NF.xP NF.gP NF.kP (raises_own NF.bP NF.tP) rfl))) pss_nil)
      (pss_cons (ps_if (pt_not (pt_val (pe_call C_are_words.ok hr (by rfl) C_are_words.g C_are_words.kp C_are_words.b .nil pass0 (pa_cons (pv 1) (pa_cons pe_int (pa_cons (pe_num (by rfl) iMOST_DRAFT_WORDS) pa_nil)))))) (pss_one (ps_raise rfl (takes_of rfl rfl rfl rfl) (pmk_own PySem.F.excBase_ValueError ND.xP ND.gP ND.kP (raises_own ND.bP ND.tP) rfl))) pss_nil)
      (pss_one (ps_if (pt_not (pt_val (pe_call C_are_words.ok hr (by rfl) C_are_words.g C_are_words.kp C_are_words.b .nil pass0 (pa_cons (pv 2) (pa_cons pe_int (pa_cons (pe_num (by rfl) iMOST_COPY_WORDS) pa_nil)))))) (pss_one (ps_raise rfl (takes_of rfl rfl rfl rfl) (pmk_own PySem.F.excBase_ValueError NC.xP NC.gP NC.kP (raises_own NC.bP NC.tP) rfl))) pss_nil))), ?_⟩
    refine ⟨_, rfl, p, fv, tf, rfl, hf, sf, fun H1 s1 => ⟨_, rfl, ?_⟩⟩
    cases c1 : tf.forms with
    | false => exact iteT ((bad _ s1).1 c1)
    | true =>
    refine iteF ⟨_, rfl, p, dv, td, 0, 12, rfl, TgAt.same s1 _ _ hd, sd, by decide, fun H2 s2 => ⟨_, rfl, ?_⟩⟩
    cases c2 : td.words 0 12 with
    | false => exact iteT ((bad _ (s1.trans s2)).2.1 c1 c2)
    | true =>
    refine iteF ⟨_, rfl, p, cv, tc, 0, 30, rfl, TgAt.same (s1.trans s2) _ _ hc, sc, by decide, fun H3 s3 => ⟨_, rfl, ?_⟩⟩
    have s13 := s1.trans (s2.trans s3)
    cases c3 : tc.words 0 30 with
    | false => exact iteT ((bad _ s13).2.2 c1 c2 c3)
    | true => exact iteF (q ⟨c1, c2, c3⟩ .non H3 s13 rfl)
abbrev sFullsOf : Stmt := topS 21
abbrev nFullsOf : List Str := ["forms", "draft", "told", "short", "fulls", "word"]
abbrev pFullsOf : List Str := ["forms", "draft"]
theorem scFullsOf : FnScope nFullsOf pFullsOf (defScope sFullsOf) := ⟨rfl, rfl, rfl, by decide +kernel, rfl, by decide +kernel, by decide +kernel⟩
def spFullsOf : Sp := fun vs H Q _ => ∃ (f d : Addr) (fm : List Fm1) (ds : List Str), vs = [.ref f, .ref d] ∧ Dt H (.ref f) (dFm fm) ∧ Dt H (.ref d) (dWs ds) ∧ FmOk fm ∧ ds.length ≤ 500 ∧
  ∀ l H' (zs : List (Addr × List (List Str))), Same H H' → H l = none → H' l = some (.lst (zs.map fun z => .ref z.1)) → zs.map (·.2) = ds.map (fulF fm) → (∀ z ∈ zs, Dt H' (.ref z.1) (dFs z.2)) → Q (.ref l) H'
theorem fm_refs {H : Hp} : ∀ {xs : List V} {fm : List Fm1}, DtAll H xs (fm.map dF1) → ∃ zs : List (Addr × Addr × Fm1), xs = zs.map (fun z => V.ref z.1) ∧ fm = zs.map (·.2.2) ∧ ∀ z ∈ zs, H z.1 = some (.tup [.str z.2.2.1, .ref z.2.1]) ∧ Dt H (.ref z.2.1) (dFs z.2.2.2)
  | _, [], h => by
    cases h
    exact ⟨[], rfl, rfl, fun _ h => nomatch h⟩
  | _, x :: r, h => by
    cases h with
    | cons h1 h2 =>
      obtain ⟨zs, e1, e2, e3⟩ := fm_refs h2
      cases h1 with
      | @tup a ys _ ea ha =>
        cases ha with
        | cons g1 g2 =>
        cases g2 with
        | cons g2 g3 =>
        cases g3
        cases g1
        obtain ⟨b, zz, rfl, eb, hb⟩ := g2.tupAt
        refine ⟨(a, b, x) :: zs, by rw [e1]; rfl, by rw [e2]; rfl, fun z hz => ?_⟩
        rcases List.mem_cons.mp hz with e | hz
        · rw [e]
          exact ⟨ea, .tup eb hb⟩
        · exact e3 z hz
theorem fm_val (zs : List (Addr × Addr × Fm1)) (w : Str) : valV (zs.map fun z => ((Sum.inr z.2.2.1 : Key), V.ref z.2.1)) (Sum.inr w) = (zs.find? fun z => decide (z.2.2.1 = w)).map fun z => V.ref z.2.1 := by
  unfold valV
  induction zs with
  | nil => rfl
  | cons z r ih =>
    rw [List.map_cons, List.find?_cons, List.find?_cons]
    by_cases h : z.2.2.1 = w
    · rw [decide_eq_true (show (Sum.inr z.2.2.1 : Key) = Sum.inr w from congrArg Sum.inr h), decide_eq_true h]
      rfl
    · rw [decide_eq_false (show ¬ (Sum.inr z.2.2.1 : Key) = Sum.inr w from fun e => h (by injection e)), decide_eq_false h]
      exact ih
theorem fulF_find (zs : List (Addr × Addr × Fm1)) (w : Str) : fulF (zs.map (·.2.2)) w = ((zs.find? fun z => decide (z.2.2.1 = w)).map fun z => z.2.2.2).getD [[w]] := by
  unfold fulF
  rw [List.find?_map, Option.map_map]
  rfl
theorem ok_FullsOf {f : Addr} {fd : FuncData} {k : Nat} (F : Fun K "fulls_of" "fulls_of" sFullsOf f fd) : FnOk P w K mg base CX0 (k + 1) f fd pFullsOf spFullsOf := by
  refine F.ok scFullsOf (fun vs H Q E h => ?_) (fun cdv A outer s H vs Q E hr h => ?_)
  · obtain ⟨f, d, fm, ds, rfl, _⟩ := h
    rfl
  · obtain ⟨fa, d, fm, ds, rfl, hF, hD, hok, hl, q⟩ := h
    have nd := scFullsOf.nd
    have hu := hu_of hr
    refine ⟨_, pss_cons (ps_set (i := 2) nd rfl (.inr rfl) (pe_dc (own := [("short", 3), ("fulls", 4)]) (g := gTup K 2 (gCons (gName 3) (gCons (gName 4) gNil))) (by rfl) nd (pi_tup (pv 0)) (blkOk_by (own := [("short", 3), ("fulls", 4)]) (N := nFullsOf) (sc := defScope sFullsOf) (by decide +kernel)) (fun _ _ _ _ _ => (pg_tup (by rfl) (pgs_cons (pg_name (i := 3) nd rfl (.inl rfl)) (pgs_cons (pg_name (i := 4) nd rfl (.inl rfl)) pgs_nil)))) (fun _ _ _ _ _ => pts_nil)
          (fun _ _ _ _ _ => pv 3) (fun _ _ _ _ _ => pv 4)))
      (pss_one (ps_ret (pe_lc (own := [("word", 5)]) (g := gName 5) (by rfl) nd (pi_tup (pv 1)) (blkOk_by (own := [("word", 5)]) (N := nFullsOf) (sc := defScope sFullsOf) (by decide +kernel)) (fun _ _ _ _ _ => (pg_name (i := 5) nd rfl (.inl rfl))) (fun _ _ _ _ _ => pts_nil)
          (fun _ _ _ _ _ => (pe_dget2 hu (pv 2) (pv 5) (pe_tup (pa_cons (pe_tup (pa_cons (pv 5) pa_nil)) pa_nil)) ⟨rfl, rfl, rfl, rfl⟩))))), ?_⟩
    obtain ⟨xf, ef, hxf⟩ := hF.tref
    obtain ⟨zs, rfl, rfl, hzs⟩ := fm_refs hxf
    obtain ⟨xd, ed, hxd⟩ := hD.tref
    obtain rfl := hxd.ofStrs
    have hnd : (zs.map fun z => z.2.2.1).Nodup := by
      have := hok.nd
      rw [List.map_map] at this
      exact this
    have hzl : zs.length ≤ 8 := by
      have := hok.few
      rw [List.length_map] at this
      exact this
    refine ⟨_, rfl, fa, rfl, ⟨_, SqT.of ef⟩, fun D nD => ?_⟩
    refine dc_walk (walk_tup (xs := zs.map fun z => V.ref z.1)) (fun i H' => H' D = some (.dK ((zs.take i).map fun z => ((Sum.inr z.2.2.1 : Key), V.ref z.2.1))) ∧ Same H H') ⟨upd_same, same_new nD _⟩ (fun i H' _ h => SqT.of (h.2 _ _ ef)) ?_ ?_
    · rintro i x H2' H2 hi ⟨eD, s2⟩ ⟨rfl, hx⟩
      rw [List.getElem?_map] at hx
      obtain ⟨z, hz, rfl⟩ := Option.map_eq_some_iff.mp hx
      have zm := List.mem_of_getElem? hz
      obtain ⟨e1, e2⟩ := hzs z zm
      refine ⟨z.1, _, rfl, SqT.of (s2 _ _ e1), rfl, _, _, rfl, _, _, rfl, rfl, rfl, ?_⟩
      refine ⟨_, rfl, _, rfl, _, Sum.inr z.2.2.1, rfl, eD, ?_, ?_, ?_⟩
      · rw [List.length_map, List.length_take]
        exact small1000 (by omega)
      · rw [upd_same, putK_new, take_more hz, List.map_append]
        · rfl
        · rw [fm_val]
          cases hfind : (zs.take i).find? fun y => decide (y.2.2.1 = z.2.2.1) with
          | none => rfl
          | some y =>
            exfalso
            have h1 := List.find?_some hfind
            have h2 := List.mem_of_find?_eq_some hfind
            obtain ⟨j, hj, ej⟩ := List.mem_iff_getElem.mp h2
            have hji : j < i ∧ j < zs.length := by
              rw [List.length_take] at hj
              omega
            have hil : i < zs.length := (List.getElem?_eq_some_iff.mp hz).1
            have := List.pairwise_iff_getElem.mp hnd j i (by rw [List.length_map]; exact hji.2) (by rw [List.length_map]; exact hil) hji.1
            refine this ?_
            rw [List.getElem_map, List.getElem_map]
            rw [List.getElem_take] at ej
            have e9 : zs[i] = z := by
              rw [List.getElem?_eq_getElem hil] at hz
              injection hz
            rw [ej, e9]
            exact of_decide_eq_true h1
      · exact same_put nD s2 _
    rintro H2 ⟨eD, s2⟩
    rw [List.length_map, List.take_length] at eD
    refine ⟨_, rfl, d, rfl, ⟨_, SqT.of (s2 _ _ ed)⟩, fun M nM => ?_⟩
    have nMH : H M = none := none_back s2 nM
    refine lc_newG (walk_tup (xs := ds.map V.str)) ds (fun w t H' => Dt H' (.ref t) (dFs (fulF (zs.map fun z : Addr × Addr × Fm1 => z.2.2) w))) (fun y t H H' xs e1 e2 hO => Dt.kp (fun b us eb => e2 b _ (fun z => by rw [z, e1] at eb; cases eb) eb) _ _ hO) (by rw [List.length_map]) (by omega) nM (fun H' s => SqT.of (s _ _ (s2 _ _ ed))) ?_ ?_
    · rintro i y x H3' H3 hy s3 _ ⟨rfl, hx⟩ Q1 q1
      rw [List.getElem?_map, hy] at hx
      injection hx with hx
      subst hx
      have eD3 := s3 _ _ eD
      refine ⟨rfl, _, rfl, D, rfl, .inl ⟨_, .inl eD3⟩, _, rfl, _, rfl, (by show 1 ≤ sizeLine; decide), fun t1 nt1 => ?_⟩
      have s4 := same_new nt1 (.tup [.str y])
      have e4 : (upd H3 t1 (.tup [.str y])) t1 = some (.tup [.str y]) := upd_same
      generalize (upd H3 t1 (.tup [.str y])) = H4 at s4 e4
      refine ⟨(by show 1 ≤ sizeLine; decide), fun t2 nt2 => ?_⟩
      have s5 := same_new nt2 (.tup [.ref t1])
      have e5 : (upd H4 t2 (.tup [.ref t1])) t2 = some (.tup [.ref t1]) := upd_same
      generalize (upd H4 t2 (.tup [.ref t1])) = H5 at s5 e5
      refine ⟨_, DGet.k (k := Sum.inr y) (s5 _ _ (s4 _ _ eD3)), ?_⟩
      have s35 := s4.trans s5
      have s05 := s2.trans (s3.trans s35)
      rw [fm_val]
      rw [fulF_find] at q1
      cases hfind : zs.find? fun z => decide (z.2.2.1 = y) with
      | none =>
        rw [hfind] at q1
        exact q1 t2 H5 s35 (.tup e5 (.cons (.tup (s5 _ _ e4) (.cons (.str y) .nil)) .nil))
      | some z =>
        rw [hfind] at q1
        exact q1 z.2.1 H5 s35 (Dt.kp (Same.tup s05) _ _ (hzs z (List.mem_of_find?_eq_some hfind)).2)
    · rintro H3 ws s3 eM ew hw
      refine q M H3 (ws.map fun z => (z.1, fulF (zs.map fun z : Addr × Addr × Fm1 => z.2.2) z.2)) (s2.trans s3) nMH ?_ ?_ fun z hz => ?_
      · rw [eM, List.map_map]
        rfl
      · rw [List.map_map, ← ew, List.map_map]
        rfl
      · obtain ⟨y, hy, rfl⟩ := List.mem_map.mp hz
        exact hw y hy
end
end Deed

namespace Deed
open PySem PySem.Spec PySem.W PyProof.Rows L2 LamX RZ
/-- a list of lists of numbers -/
def RowsAt (H : Hp) (r : Addr) (rs : List (List Int)) : Prop := ∃ zs : List (Addr × List Int), H r = some (.lst (zs.map fun z => .ref z.1)) ∧ zs.map (·.2) = rs ∧ ∀ z ∈ zs, H z.1 = some (.lst (z.2.map V.int))
theorem RowsAt.same {H H' : Hp} {r : Addr} {rs : List (List Int)} (h : RowsAt H r rs) (s : Same H H') : RowsAt H' r rs := by
  obtain ⟨zs, h1, h2, h3⟩ := h
  exact ⟨zs, s _ _ h1, h2, fun z hz => s _ _ (h3 z hz)⟩
theorem reps (n : Nat) (x : V) : (List.replicate n [x]).flatten = List.replicate n x := by
  induction n with
  | zero => rfl
  | succ n ih => rw [List.replicate_succ, List.flatten_cons, ih, List.replicate_succ]; rfl
theorem atI_last1 {α : Type} {l : List α} {x : α} : atI (l ++ [x]) (-1) = some x := by
  unfold atI ixN
  rw [if_neg (by decide), if_pos (by rw [List.length_append]; simp; omega)]
  show (l ++ [x])[(-1 + ((l ++ [x]).length : Int)).toNat]? = some x
  rw [List.length_append, show (-1 + ((l.length + [x].length : Nat) : Int)).toNat = l.length by simp; omega, List.getElem?_append_right (Nat.le_refl _)]
  simp
theorem atI_lastG {α : Type} {l : List α} {x : α} (h : l.getLast? = some x) : atI l (-1) = some x := by
  have e := List.getLast?_eq_some_iff.mp h
  obtain ⟨ys, rfl⟩ := e
  exact atI_last1
section
variable {P : Program} {w : World} {K : PySem.W.Frag} {mg : Str → Option Value} {base : Heap}
abbrev FssF (fm : List Fm1) (ds : List Str) : List (List (List Str)) := ds.map (fulF fm)
abbrev CkX (P : Program) (w : World) (K : PySem.W.Frag) (mg : Str → Option Value) (base : Heap) (CF CD CC : Addr) (k : Nat) := CallX P w K mg base k "check_texts" pCheckT (spTx CF CD CC fun _ _ _ _ r _ => r = .non)
theorem toWs_len {t : Tg} {lo hi : Int} (h : t.words lo hi = true) : (t.toWs.length : Int) ≤ hi := by
  obtain ⟨ts, rfl, _, h2, _⟩ := Tg.words_tup h
  show ((ts.map Tg.toS).length : Int) ≤ hi
  rw [List.length_map]
  exact h2
theorem dt_ref {p : Addr} {H : Hp} {v : V} {t : Tg} {lo hi : Int} (h : TgAt p H v t) (ht : t.words lo hi = true) : ∃ a, v = .ref a ∧ H a = some (.tup (t.toWs.map V.str)) := by
  have := dt_ws h ht
  obtain ⟨a, xs, rfl, ea, ha⟩ := this.tupAt
  obtain rfl := ha.ofStrs
  exact ⟨a, rfl, ea⟩
def RCounts : List Fm1 → List Str → List Str → Hp → V → Hp → Prop := fun fm ds cs H v H' => ∃ r, v = .ref r ∧ H r = none ∧ RowsAt H' r (rowsF cs (FssF fm ds))
abbrev sCountsOf : Stmt := topS 23
abbrev nCountsOf : List Str := ["forms", "draft", "copy", "rows", "fulls"]
abbrev pCountsOf : List Str := ["forms", "draft", "copy"]
theorem scCountsOf : FnScope nCountsOf pCountsOf (defScope sCountsOf) := ⟨rfl, rfl, rfl, by decide +kernel, rfl, by decide +kernel, by decide +kernel⟩
theorem okX_CountsOf {f CF CD CC : Addr} {fd : FuncData} {k : Nat} (F : Fun K "counts_of" "counts_of" sCountsOf f fd) (C_ck : CkX P w K mg base CF CD CC k) (C_fulls_of : CallOk P w K mg base k "fulls_of" pFullsOf spFullsOf) (C_counts_behind : CallOk P w K mg base k "counts_behind" pCountsB spCountsB) (m_len : mg "len" = none) :
    FnOk P w K mg base (L2.CX P w) (k + 1) f fd pCountsOf (spTx CF CD CC RCounts) := by
  refine F.okX scCountsOf (fun vs H Q E h => ?_) (fun cdv A outer s H vs Q E hr h => ?_)
  · obtain ⟨p, f, d, c, tf, td, tc, rfl, _⟩ := h
    rfl
  · obtain ⟨p, fv, dv, cv, tf, td, tc, rfl, hf, hd, hc, sf, sd, sc, bad, q⟩ := h
    have nd := scCountsOf.nd
    refine ⟨_, pss_cons (ps_expr (pe_call C_ck.ok hr (by rfl) C_ck.g C_ck.kp C_ck.b .nil (passes_call (takes_of rfl rfl rfl rfl) (fun _ _ _ _ h => h)) (pa_cons (pv 0) (pa_cons (pv 1) (pa_cons (pv 2) pa_nil)))))
      (PSs.nox (pss_cons (ps_set (i := 3) nd rfl (.inl rfl) (pe_lst (pa_cons (pe_op op_cat (pe_lst (pa_cons pe_int pa_nil)) (pe_op op_rep (pe_lst (pa_cons pe_int pa_nil)) (pe_callB call_len_seq (by rfl) m_len (by decide +kernel) (pa_cons (pv 2) pa_nil)))) pa_nil)))
      (pss_cons (ps_for PassesOwn.never rfl (pi_list (pe_call C_fulls_of.ok hr (by rfl) C_fulls_of.g C_fulls_of.kp C_fulls_of.b .nil pass0 (pa_cons (pv 0) (pa_cons (pv 1) pa_nil)))) (pg_name (i := 4) nd rfl (.inl rfl))
        (pss_one (ps_expr (pe_bm PySem.F.plainAttrs_list PySem.F.slot_list_append PySem.F.type_list_append mt_append (pv 3) (pa_cons (pe_call C_counts_behind.ok hr (by rfl) C_counts_behind.g C_counts_behind.kp C_counts_behind.b .nil pass0 (pa_cons (pe_ix ix_list (pv 3) (pe_un un_neg pe_int) (fun _ _ => rfl)) (pa_cons (pv 4) (pa_cons (pv 2) pa_nil)))) pa_nil)))))
      (pss_one (ps_ret (pv 3)))))), ?_⟩
    refine ⟨_, rfl, _, rfl, _, rfl, p, fv, dv, cv, tf, td, tc, rfl, hf, hd, hc, sf, sd, sc, bad, fun ok r H1 s1 hr1 => ?_⟩
    subst hr1
    have fmk := fmOk_of ok.1
    have dfm := dt_fm hf ok.1
    obtain ⟨fa, xsf, rfl, ef, _⟩ := dfm.tupAt
    obtain ⟨da, rfl, ed⟩ := dt_ref hd ok.2.1
    obtain ⟨ca, rfl, ec⟩ := dt_ref hc ok.2.2
    have ld := toWs_len ok.2.1
    have lc := toWs_len ok.2.2
    have q := q ok
    generalize tf.toFm = fm at fmk dfm q
    generalize td.toWs = ds at ed ld q
    generalize tc.toWs = cw at ec lc q
    refine ⟨(by show 1 ≤ sizeLine; decide), fun l1 nl1 => ?_⟩
    have s2 := same_new nl1 (.lst [.int 1])
    have e2 : (upd H1 l1 (.lst [.int 1])) l1 = some (.lst [.int 1]) := upd_same
    generalize (upd H1 l1 (.lst [.int 1])) = H2 at s2 e2
    refine ⟨(by show 1 ≤ sizeLine; decide), fun l2 nl2 => ?_⟩
    have s3 := same_new nl2 (.lst [.int 0])
    have e3 : (upd H2 l2 (.lst [.int 0])) l2 = some (.lst [.int 0]) := upd_same
    generalize (upd H2 l2 (.lst [.int 0])) = H3 at s3 e3
    have s03 := s1.trans (s2.trans s3)
    have hcl : (cw.map V.str).length = cw.length := List.length_map _
    refine ⟨_, rfl, ca, _, rfl, .inr (SqT.of (s03 _ _ ec)), l2, _, _, rfl, rfl, e3, by omega, by omega, ?_, fun l3 nl3 => ?_⟩
    · rw [hcl, Int.toNat_natCast]
      exact Nat.le_of_lt (small1000 (by simp; omega))
    rw [hcl, Int.toNat_natCast, reps]
    have s4 := same_new nl3 (.lst (List.replicate cw.length (V.int 0)))
    have e4 : (upd H3 l3 (.lst (List.replicate cw.length (V.int 0)))) l3 = some (.lst (List.replicate cw.length (V.int 0))) := upd_same
    generalize (upd H3 l3 (.lst (List.replicate cw.length (V.int 0)))) = H4 at s4 e4
    refine ⟨l1, l3, _, _, rfl, rfl, (s3.trans s4) _ _ e2, e4, Nat.le_of_lt (small1000 (by simp; omega)), fun l4 nl4 => ?_⟩
    have s5 := same_new nl4 (.lst ([.int 1] ++ List.replicate cw.length (V.int 0)))
    have e5 : (upd H4 l4 (.lst ([.int 1] ++ List.replicate cw.length (V.int 0)))) l4 = some (.lst ((row0 cw).map V.int)) := by
      rw [upd_same]
      unfold row0
      rw [List.map_cons, List.map_replicate]
      rfl
    generalize (upd H4 l4 (.lst ([.int 1] ++ List.replicate cw.length (V.int 0)))) = H5 at s5 e5
    refine ⟨(by show 1 ≤ sizeLine; decide), fun r nr => ?_⟩
    have s6 := same_new nr (.lst [.ref l4])
    have e6 : (upd H5 r (.lst [.ref l4])) r = some (.lst [.ref l4]) := upd_same
    have s05 := s03.trans (s4.trans s5)
    have nrH : H r = none := none_back s05 nr
    have nr5 : r ≠ l4 := fun z => by rw [z, e5] at nr; cases nr
    generalize (upd H5 r (.lst [.ref l4])) = H6 at s6 e6
    have s06 := s05.trans s6
    refine ⟨_, rfl, _, rfl, fa, da, fm, ds, rfl, Dt.kp (Same.tup s06) _ _ dfm, .tup (s06 _ _ ed) (DtAll.strs _), fmk, by omega, fun l H7 ws s7 nl e7 ew hw => ?_⟩
    have s07 := s06.trans s7
    refine ⟨l, rfl, ⟨_, SqL.of e7⟩, ?_⟩
    have lne : l ≠ r := fun z => by rw [z, e6] at nl; cases nl
    have wl : ws.length = ds.length := by
      have := congrArg List.length ew
      rw [List.length_map, List.length_map] at this
      exact this
    refine for_list (xs := ws.map fun z => V.ref z.1) (fun j σ H' => ∃ y4, σ = [some (.ref fa), some (.ref da), some (.ref ca), some (.ref r), y4] ∧ Same H H' ∧ H' l = some (.lst (ws.map fun z => .ref z.1)) ∧ (∀ z ∈ ws, Dt H' (.ref z.1) (dFs z.2)) ∧
      ∃ zs : List (Addr × List Int), H' r = some (.lst (zs.map fun z => .ref z.1)) ∧ zs.map (·.2) = (List.range (j + 1)).map (fun i => rowAt cw ((FssF fm ds).take i)) ∧ ∀ z ∈ zs, H' z.1 = some (.lst (z.2.map V.int)) ∧ z.1 ≠ r)
      ⟨none, rfl, s07, e7, hw, [(l4, row0 cw)], s7 _ _ e6, rfl, fun z hz => ?_⟩ (fun j σ H' _ h => ?_) ?_ ?_
    · rw [List.mem_singleton.mp hz]
      exact ⟨s7 _ _ (s6 _ _ e5), nr5.symm⟩
    · obtain ⟨_, _, _, h, _⟩ := h
      exact SqL.of h
    · rintro j x σ H8 hx ⟨y4, rfl, s8, e8, hw8, zs, er, ez, hz⟩
      rw [List.getElem?_map] at hx
      obtain ⟨z, hzj, rfl⟩ := Option.map_eq_some_iff.mp hx
      have zm := List.mem_of_getElem? hzj
      have fz : (FssF fm ds)[j]? = some z.2 := by
        show (ds.map (fulF fm))[j]? = _
        rw [← ew, List.getElem?_map, hzj]
        rfl
      have fk : FsOk z.2 := by
        have fz : (ds.map (fulF fm))[j]? = some z.2 := fz
        rw [List.getElem?_map] at fz
        obtain ⟨w, _, e⟩ := Option.map_eq_some_iff.mp fz
        rw [← e]
        exact fulF_ok fmk w
      -- the last row
      obtain ⟨zl, za, rfl⟩ : ∃ zl za, zs = zl ++ [za] := by
        rcases List.eq_nil_or_concat zs with h | ⟨zl, za, h⟩
        · subst h
          have := congrArg List.length ez
          simp at this
        · exact ⟨zl, za, by rw [h]; simp⟩
      rw [List.range_succ, List.map_append, List.map_append] at ez
      obtain ⟨ez1, ez2⟩ := List.append_inj' ez rfl
      have eza : za.2 = rowAt cw ((FssF fm ds).take j) := by
        injection ez2
      obtain ⟨ea, nea⟩ := hz za (List.mem_append_right _ (List.mem_singleton.mpr rfl))
      have hat : atI ((zl ++ [za]).map fun z => V.ref z.1) (-1) = some (.ref za.1) := by
        rw [List.map_append]
        exact atI_last1
      have jl : j < ds.length := by
        rw [← wl]
        exact (List.getElem?_eq_some_iff.mp hzj).1
      have zlen : (zl ++ [za]).length = j + 1 := by
        have h1 := congrArg List.length ez1
        rw [List.length_map, List.length_map, List.length_range] at h1
        rw [List.length_append, h1]
        rfl
      refine ⟨_, rfl, .inl ⟨rfl, _, SqL.of er⟩, _, rfl, _, rfl, r, _, _, _, rfl, rfl, SqL.of er, hat, _, rfl, _, rfl, za.1, z.1, ca, za.2, z.2, cw, rfl, ea, hw8 z zm, .tup (s8 _ _ ec) (DtAll.strs _), fun x hx => (fk.ws x hx).1, ?_, by omega, Nat.le_trans fk.few (by decide), fun l9 H9 s9 nl9 e9 => ?_⟩
      · rw [eza, rowAt_len]
      have er9 := s9 _ _ er
      refine ⟨r, _, _, rfl, rfl, er9, ?_, ?_⟩
      · rw [List.length_map, zlen]
        exact small1000 (by omega)
      have n9r : l9 ≠ r := fun z => by rw [z, er] at nl9; cases nl9
      have kp : ∀ b o, b ≠ r → H8 b = some o → (upd H9 r (.lst (((zl ++ [za]).map fun z => V.ref z.1) ++ [V.ref l9]))) b = some o := fun b o n e => by
        rw [upd_ne n]
        exact s9 _ _ e
      refine ⟨_, rfl, same_put nrH (s8.trans s9) _, kp _ _ lne e8, fun y hy => Dt.kp (fun b xs e => kp b _ (fun z => by rw [z, er] at e; cases e) e) _ _ (hw8 y hy), (zl ++ [za]) ++ [(l9, rowB za.2 z.2 cw)], ?_, ?_, fun y hy => ?_⟩
      · rw [upd_same]
        simp
      · rw [List.map_append, List.map_append, List.range_succ, List.map_append, List.range_succ, List.map_append, ← ez1, ← ez2]
        show _ = _ ++ [rowAt cw ((FssF fm ds).take (j + 1))]
        rw [take_more fz, rowAt_more, ← eza]
        rfl
      · rcases List.mem_append.mp hy with hy | hy
        · obtain ⟨g1, g2⟩ := hz y hy
          exact ⟨kp _ _ g2 g1, g2⟩
        · rw [List.mem_singleton.mp hy]
          exact ⟨by rw [upd_ne n9r]; exact e9, n9r⟩
    · rintro σ H8 ⟨y4, rfl, s8, e8, hw8, zs, er, ez, hz⟩
      refine ⟨_, rfl, q (.ref r) H8 s8 ⟨r, rfl, nrH, zs, er, ?_, fun z hzz => (hz z hzz).1⟩⟩
      rw [ez]
      unfold rowsF
      rw [List.length_map, List.length_map, wl]
end
end Deed

namespace Deed
open PySem PySem.Spec PySem.W PyProof.Rows L2 LamX RZ
/-! ### how many ways; the reaches; where they part -/
theorem pi_enumBK (c : Bool) {X : Cx} {K : PySem.W.Frag} (h : X.K = K) {x : Expr} {ta : TA} {p pos tpos : Pos} {elts : List Expr} {kk : Nat} (hg : Gl X "enumerate") (hm : X.mg "enumerate" = none) (ha : PA X [x] ta) (hs : starEach [x] X.env = [(false, eval x X.env)] := by rfl) :
    PI X (.Tuple elts kk tpos) (.Call (.Name "enumerate" p) [x] [] pos) (iEnumB K c ta) := by
  subst h
  exact pi_enumB c hg hm ha hs
theorem pt_truthK {X : Cx} {K : PySem.W.Frag} (h : X.K = K) {a : Expr} {ta : TE} (ha : PE X a ta) (he : ∀ whole, isTrue a X.env whole = (do let v ← whole; standAt a.pos; holding [v] (truthy v)) := by intro _; rfl) :
    PT X a (fun σ H Q => ta σ H fun x H' => ∃ k, TruV K x H' k ∧ Q k H') := by
  subst h
  exact pt_truth ha he
/-- tuple(list), its K told -/
def rTupOf (K : PySem.W.Frag) : List V → Hp → VK → Prop := fun xs H Q => ∃ p ys, xs = [.ref p] ∧ SqL K H p ys ∧ ∀ t, H t = none → Q (.ref t) (upd H t (.tup ys))
theorem call_tupOf {X : Cx} {K : PySem.W.Frag} (h : X.K = K) : CallR X (.type "tuple") (rTupOf K) := by
  subst h
  intro pins s σ H xs us Q I r hh
  obtain ⟨p, ys, rfl, hs, q⟩ := hh
  exact call_tuple_of pins s σ H _ us Q I r ⟨p, ys, rfl, .inl ⟨hs, q⟩⟩
/-- how many ways -/
def cntF (cw : List Str) (Fs : List (List (List Str))) : Int := (rowAt cw Fs).getD cw.length 0
def reachR (row : List Int) : List Int := ((List.range row.length).filter fun p => decide (row.getD p 0 > 0)).map fun p : Nat => (p : Int)
def reachF (cw : List Str) (Fs : List (List (List Str))) : List (List Int) := (rowsF cw Fs).map reachR
/-- a list of tuples of numbers -/
def TupsAt (H : Hp) (r : Addr) (rs : List (List Int)) : Prop := ∃ zs : List (Addr × List Int), H r = some (.lst (zs.map fun z => .ref z.1)) ∧ zs.map (·.2) = rs ∧ ∀ z ∈ zs, H z.1 = some (.tup (z.2.map V.int))
theorem TupsAt.same {H H' : Hp} {r : Addr} {rs : List (List Int)} (h : TupsAt H r rs) (s : Same H H') : TupsAt H' r rs := by
  obtain ⟨zs, h1, h2, h3⟩ := h
  exact ⟨zs, s _ _ h1, h2, fun z hz => s _ _ (h3 z hz)⟩
theorem rowsF_len (cw : List Str) (Fs : List (List (List Str))) : (rowsF cw Fs).length = Fs.length + 1 := by
  unfold rowsF
  rw [List.length_map, List.length_range]
theorem rowsF_last (cw : List Str) (Fs : List (List (List Str))) : (rowsF cw Fs).getLast? = some (rowAt cw Fs) := by
  unfold rowsF
  rw [List.range_succ, List.map_append, List.getLast?_append]
  simp
section
variable {P : Program} {w : World} {K : PySem.W.Frag} {mg : Str → Option Value} {base : Heap}
/-- where they are forms, a draft and a copy -/
def spTg (R : List Fm1 → List Str → List Str → Hp → V → Hp → Prop) : Sp := fun vs H Q _ => ∃ (p : Addr) (f d c : V) (tf td tc : Tg), vs = [f, d, c] ∧ TgAt p H f tf ∧ TgAt p H d td ∧ TgAt p H c tc ∧ tf.sm = true ∧ td.sm = true ∧ tc.sm = true ∧ Ok3 tf td tc ∧
  ∀ r H', Same H H' → R tf.toFm td.toWs tc.toWs H r H' → Q r H'
theorem spTg_of {CF CD CC : Addr} {R : List Fm1 → List Str → List Str → Hp → V → Hp → Prop} {k : Nat} {f : Addr} {fd : FuncData} {ps : List Str} (F : FnOk P w K mg base (L2.CX P w) k f fd ps (spTx CF CD CC R)) : FnOk P w K mg base CX0 k f fd ps (spTg R) := by
  refine Deed.FnOk.ofX F fun vs H Q E h => ?_
  obtain ⟨p, f, d, c, tf, td, tc, rfl, hf, hd, hc, sf, sd, sc, ok, q⟩ := h
  refine ⟨p, f, d, c, tf, td, tc, rfl, hf, hd, hc, sf, sd, sc, fun H' _ => ⟨fun z => ?_, fun _ z => ?_, fun _ _ z => ?_⟩, fun _ => q⟩
  · rw [ok.1] at z
    cases z
  · rw [ok.2.1] at z
    cases z
  · rw [ok.2.2] at z
    cases z
def CallX.g0 {CF CD CC : Addr} {R : List Fm1 → List Str → List Str → Hp → V → Hp → Prop} {k : Nat} {x : Str} {ps : List Str} (C : CallX P w K mg base k x ps (spTx CF CD CC R)) : CallOk P w K mg base k x ps (spTg R) := ⟨C.f, C.fd, C.g, C.kp, C.b, spTg_of C.ok⟩
def RMany : List Fm1 → List Str → List Str → Hp → V → Hp → Prop := fun fm ds cs _ v _ => v = .int (cntF cs (FssF fm ds))
def RSays : List Fm1 → List Str → List Str → Hp → V → Hp → Prop := fun fm ds cs _ v _ => v = .bl (decide (cntF cs (FssF fm ds) > 0))
def RReach : List Fm1 → List Str → List Str → Hp → V → Hp → Prop := fun fm ds cs H v H' => ∃ r, v = .ref r ∧ H r = none ∧ TupsAt H' r (reachF cs (FssF fm ds))
abbrev sWaysM : Stmt := topS 25
abbrev nWaysM : List Str := ["forms", "draft", "copy"]
abbrev pWaysM : List Str := ["forms", "draft", "copy"]
theorem scWaysM : FnScope nWaysM pWaysM (defScope sWaysM) := ⟨rfl, rfl, rfl, by decide +kernel, rfl, by decide +kernel, by decide +kernel⟩
theorem okX_WaysM {f CF CD CC : Addr} {fd : FuncData} {k : Nat} (F : Fun K "ways_many" "ways_many" sWaysM f fd) (C_counts_of : CallX P w K mg base k "counts_of" pCountsOf (spTx CF CD CC RCounts)) : FnOk P w K mg base (L2.CX P w) (k + 1) f fd pWaysM (spTx CF CD CC RMany) := by
  refine F.okX scWaysM (fun vs H Q E h => ?_) (fun cdv A outer s H vs Q E hr h => ?_)
  · obtain ⟨p, f, d, c, tf, td, tc, rfl, _⟩ := h
    rfl
  · obtain ⟨p, fv, dv, cv, tf, td, tc, rfl, hf, hd, hc, sf, sd, sc, bad, q⟩ := h
    refine ⟨_, pss_one (ps_ret (pe_ix ix_list (pe_ix ix_list (pe_call C_counts_of.ok hr (by rfl) C_counts_of.g C_counts_of.kp C_counts_of.b .nil (passes_call (takes_of rfl rfl rfl rfl) (fun _ _ _ _ h => h)) (pa_cons (pv 0) (pa_cons (pv 1) (pa_cons (pv 2) pa_nil)))) (pe_un un_neg pe_int) (fun _ _ => rfl)) (pe_un un_neg pe_int) (fun _ _ => rfl))), ?_⟩
    refine ⟨_, rfl, _, rfl, _, rfl, p, fv, dv, cv, tf, td, tc, rfl, hf, hd, hc, sf, sd, sc, bad, fun ok r H1 s1 hr1 => ?_⟩
    obtain ⟨r, rfl, _, zs, er, ez, hz⟩ := hr1
    have hl := rowsF_last tc.toWs (FssF tf.toFm td.toWs)
    rw [← ez, List.getLast?_map] at hl
    obtain ⟨z, hzl, ezl⟩ := Option.map_eq_some_iff.mp hl
    have zm := List.mem_of_getLast? hzl
    have e0 : atI (zs.map fun z => V.ref z.1) (-1) = some (.ref z.1) := atI_lastG (by rw [List.getLast?_map, hzl]; rfl)
    have hlen : z.2.length = tc.toWs.length + 1 := by rw [ezl, rowAt_len]
    have e1 : atI (z.2.map V.int) (-1) = some (.int (cntF tc.toWs (FssF tf.toFm td.toWs))) := by
      refine atI_lastG ?_
      rw [List.getLast?_eq_getElem?, List.length_map, List.getElem?_map, hlen, Nat.add_sub_cancel]
      unfold cntF
      rw [← ezl, List.getD_eq_getElem?_getD, List.getElem?_eq_getElem (by omega)]
      rfl
    exact ⟨_, rfl, r, _, _, _, rfl, rfl, SqL.of er, e0, _, rfl, z.1, _, _, _, rfl, rfl, SqL.of (hz z zm), e1, q ok _ H1 s1 rfl⟩
abbrev sSays : Stmt := topS 24
abbrev nSays : List Str := ["forms", "draft", "copy"]
abbrev pSays : List Str := ["forms", "draft", "copy"]
theorem scSays : FnScope nSays pSays (defScope sSays) := ⟨rfl, rfl, rfl, by decide +kernel, rfl, by decide +kernel, by decide +kernel⟩
theorem okX_Says {f CF CD CC : Addr} {fd : FuncData} {k : Nat} (F : Fun K "says" "says" sSays f fd) (C_ways_many : CallX P w K mg base k "ways_many" pWaysM (spTx CF CD CC RMany)) : FnOk P w K mg base (L2.CX P w) (k + 1) f fd pSays (spTx CF CD CC RSays) := by
  refine F.okX scSays (fun vs H Q E h => ?_) (fun cdv A outer s H vs Q E hr h => ?_)
  · obtain ⟨p, f, d, c, tf, td, tc, rfl, _⟩ := h
    rfl
  · obtain ⟨p, fv, dv, cv, tf, td, tc, rfl, hf, hd, hc, sf, sd, sc, bad, q⟩ := h
    refine ⟨_, pss_one (ps_ret (pe_cmpR op_gt (pe_call C_ways_many.ok hr (by rfl) C_ways_many.g C_ways_many.kp C_ways_many.b .nil (passes_call (takes_of rfl rfl rfl rfl) (fun _ _ _ _ h => h)) (pa_cons (pv 0) (pa_cons (pv 1) (pa_cons (pv 2) pa_nil)))) pe_int (nomark _))), ?_⟩
    refine ⟨_, rfl, _, rfl, _, rfl, p, fv, dv, cv, tf, td, tc, rfl, hf, hd, hc, sf, sd, sc, bad, fun ok r H1 s1 hr1 => ?_⟩
    obtain rfl := hr1
    exact ⟨_, _, rfl, rfl, q ok _ H1 s1 rfl⟩
abbrev sReachesOf : Stmt := topS 28
abbrev nReachesOf : List Str := ["forms", "draft", "copy", "rows", "row", "place", "many"]
abbrev pReachesOf : List Str := ["forms", "draft", "copy"]
theorem scReachesOf : FnScope nReachesOf pReachesOf (defScope sReachesOf) := ⟨rfl, rfl, rfl, by decide +kernel, rfl, by decide +kernel, by decide +kernel⟩
theorem okX_ReachesOf {f CF CD CC : Addr} {fd : FuncData} {k : Nat} (F : Fun K "reaches_of" "reaches_of" sReachesOf f fd) (C_counts_of : CallX P w K mg base k "counts_of" pCountsOf (spTx CF CD CC RCounts)) (m_tuple : mg "tuple" = none) (m_enumerate : mg "enumerate" = none) : FnOk P w K mg base (L2.CX P w) (k + 1) f fd pReachesOf (spTx CF CD CC RReach) := by
  refine F.okX scReachesOf (fun vs H Q E h => ?_) (fun cdv A outer s H vs Q E hr h => ?_)
  · obtain ⟨p, f, d, c, tf, td, tc, rfl, _⟩ := h
    rfl
  · obtain ⟨p, fv, dv, cv, tf, td, tc, rfl, hf, hd, hc, sf, sd, sc, bad, q⟩ := h
    have nd := scReachesOf.nd
    refine ⟨_, pss_cons (ps_set (i := 3) nd rfl (.inl rfl) (pe_call C_counts_of.ok hr (by rfl) C_counts_of.g C_counts_of.kp C_counts_of.b .nil (passes_call (takes_of rfl rfl rfl rfl) (fun _ _ _ _ h => h)) (pa_cons (pv 0) (pa_cons (pv 1) (pa_cons (pv 2) pa_nil)))))
      (PSs.nox (pss_one (ps_ret (pe_lc (own := [("row", 4)]) (g := gName 4) (by rfl) nd (pi_list (pv 3)) (blkOk_by (own := [("row", 4)]) (N := nReachesOf) (sc := defScope sReachesOf) (by decide +kernel)) (fun _ _ _ _ _ => (pg_name (i := 4) nd rfl (.inl rfl))) (fun _ _ _ _ _ => pts_nil)
          (fun _ _ _ _ _ => (pe_callTy (call_tupOf (K := K) (by rfl)) (by rfl) m_tuple (by decide +kernel) (pa_cons (pe_lc (own := [("place", 5), ("many", 6)]) (g := gTup K 2 (gCons (gName 5) (gCons (gName 6) gNil))) (by rfl) nd (pi_enumBK (K := K) true (by rfl) (by rfl) m_enumerate (pa_cons (pv 4) pa_nil)) (blkOk_by (own := [("place", 5), ("many", 6)]) (N := nReachesOf) (sc := { kind := .function, names := [(".0", .local), ("row", .local), ("tuple", .globalImplicit), ("enumerate", .globalImplicit)], isGenerator := false, isCoroutine := false }) (by decide +kernel)) (fun _ _ _ _ _ => (pg_tup (by rfl) (pgs_cons (pg_name (i := 5) nd rfl (.inl rfl)) (pgs_cons (pg_name (i := 6) nd rfl (.inl rfl)) pgs_nil)))) (fun _ _ _ _ _ => (pts_one (pt_cmpR op_gt (pv 6) pe_int (nomark _))))
          (fun _ _ _ _ _ => (pv 5))) pa_nil))))))), ?_⟩
    refine ⟨_, rfl, _, rfl, _, rfl, p, fv, dv, cv, tf, td, tc, rfl, hf, hd, hc, sf, sd, sc, bad, fun ok r H1 s1 hr1 => ?_⟩
    obtain ⟨r, rfl, nr, zs, er, ez, hz⟩ := hr1
    have ld := toWs_len ok.2.1
    have lc := toWs_len ok.2.2
    have hzl : zs.length = td.toWs.length + 1 := by
      have := congrArg List.length ez
      rw [List.length_map, rowsF_len, List.length_map] at this
      exact this
    have hrow : ∀ z ∈ zs, z.2.length = tc.toWs.length + 1 := fun z hzz => by
      have h1 : z.2 ∈ rowsF tc.toWs (FssF tf.toFm td.toWs) := by
        rw [← ez]
        exact List.mem_map.mpr ⟨z, hzz, rfl⟩
      obtain ⟨i, _, e⟩ := List.mem_map.mp h1
      rw [← e, rowAt_len]
    refine ⟨_, rfl, r, rfl, ⟨_, SqL.of er⟩, fun M nM => ?_⟩
    have nMH : H M = none := none_back s1 nM
    refine lc_sameT (walk_list (xs := zs.map fun z => V.ref z.1)) zs (fun _ => true) (fun z => (reachR z.2).map V.int) (by rw [List.length_map]) (by omega) nM (fun H s => SqL.of (s _ _ er)) ?_ ?_
    · rintro i z x H2' H2 hy s2 ⟨rfl, hx⟩ Q1 Q0 q1 q0
      rw [List.getElem?_map, hy] at hx
      injection hx with hx
      subst hx
      have zm := List.mem_of_getElem? hy
      have ezz := s2 _ _ (hz z zm)
      refine ⟨rfl, ?_⟩
      unfold tYes
      dsimp only
      rw [if_pos rfl]
      have hzlen : z.2.length ≤ 100 := by
        rw [hrow z zm]
        omega
      refine ⟨_, rfl, z.1, _, rfl, SqL.of ezz, fun N nN => ?_⟩
      refine lc_sameV (walk_enumB (c := true) (xs := z.2.map V.int)) (List.range z.2.length) (fun p => decide (z.2.getD p 0 > 0)) (fun p => .int (p : Nat)) (by rw [List.length_range, List.length_map]) (by rw [List.length_range]; omega) nN (fun H s => SqL.of (s _ _ ezz)) ?_ ?_
      · rintro j y x H3 H3' hyj s3 ⟨T0, xx, yy, rfl, nT, rfl, hxx, hyy⟩ Q2 Q3 q2 q3
        obtain rfl : j = y := by
          have h9 := (List.getElem?_eq_some_iff.mp hyj).2
          rw [List.getElem_range] at h9
          exact h9
        have hj : j < z.2.length := by
          have := (List.getElem?_eq_some_iff.mp hyj).1
          rw [List.length_range] at this
          exact this
        injection hxx with hxx
        subst hxx
        dsimp only at hyy
        rw [List.getElem?_map, List.getElem?_eq_getElem hj] at hyy
        injection hyy with hyy
        subst hyy
        have s4 := same_new nT (.tup [.int (j : Nat), .int z.2[j]])
        have eT : (upd H3 T0 (.tup [.int (j : Nat), .int z.2[j]])) T0 = some (.tup [.int (j : Nat), .int z.2[j]]) := upd_same
        generalize (upd H3 T0 (.tup [.int (j : Nat), .int z.2[j]])) = H4 at s4 eT
        have eg : z.2.getD j 0 = z.2[j] := by rw [List.getD_eq_getElem?_getD, List.getElem?_eq_getElem hj]; rfl
        rw [eg] at q2 q3
        refine ⟨T0, _, rfl, SqT.of eT, rfl, _, _, rfl, _, _, rfl, rfl, rfl, ?_⟩
        refine ⟨_, rfl, _, _, rfl, rfl, _, rfl, ?_⟩
        refine ite2 (fun c => ?_) (fun c => ?_)
        · exact ⟨_, rfl, q2 c _ s4⟩
        · exact q3 (Bool.eq_false_iff.mpr c) _ s4
      · intro H3 s3 eN
        refine ⟨N, _, rfl, SqL.of eN, fun t nt => ?_⟩
        refine q1 rfl t _ (s3.trans (same_new nt _)) ?_
        rw [upd_same]
        congr 2
        unfold reachR
        rw [List.map_map]
        rfl
    · intro H2 ws s2 eM ew hw
      refine q ok (.ref M) H2 (s1.trans s2) ⟨M, rfl, nMH, ws.map fun z => (z.1, reachR z.2.2), ?_, ?_, fun z hzz => ?_⟩
      · rw [eM, List.map_map]
        rfl
      · rw [List.map_map, reachF, ← ez, List.map_map]
        have e1 : zs.filter (fun _ => true) = zs := List.filter_eq_self.mpr fun _ _ => rfl
        rw [e1] at ew
        rw [← ew, List.map_map]
        rfl
      · obtain ⟨y, hy, rfl⟩ := List.mem_map.mp hzz
        exact hw y hy
/-- where they part -/
def RParts : List Fm1 → List Str → List Str → Hp → V → Hp → Prop := fun fm ds cs _ v H' => if cntF cs (FssF fm ds) > 0 then v = .non else
  ∃ (t : Addr) (rr : List Int) (m : Int), v = .ref t ∧ ((reachF cs (FssF fm ds)).filter fun r => !r.isEmpty).getLast? = some rr ∧ rr.getLast? = some m ∧ H' t = some (.tup [.int ((((reachF cs (FssF fm ds)).filter fun r => !r.isEmpty).length : Int) - 1), .int m])
theorem reach0 (cw : List Str) (Fs : List (List (List Str))) : ∃ r rs, reachF cw Fs = (0 :: r) :: rs := by
  unfold reachF rowsF
  rw [List.range_succ_eq_map, List.map_cons, List.map_cons]
  have e : reachR (rowAt cw (Fs.take 0)) = 0 :: (reachR (rowAt cw (Fs.take 0))).tail := by
    show reachR (row0 cw) = 0 :: (reachR (row0 cw)).tail
    unfold reachR row0
    rw [List.length_cons, List.range_succ_eq_map, List.filter_cons]
    rfl
  rw [e]
  exact ⟨_, _, rfl⟩
theorem reachF_len (cw : List Str) (Fs : List (List (List Str))) : (reachF cw Fs).length = Fs.length + 1 := by
  unfold reachF
  rw [List.length_map, rowsF_len]
abbrev sPartsAt : Stmt := topS 31
abbrev nPartsAt : List Str := ["forms", "draft", "copy", "reached", "reach"]
abbrev pPartsAt : List Str := ["forms", "draft", "copy"]
theorem scPartsAt : FnScope nPartsAt pPartsAt (defScope sPartsAt) := ⟨rfl, rfl, rfl, by decide +kernel, rfl, by decide +kernel, by decide +kernel⟩
theorem okX_PartsAt {f CF CD CC : Addr} {fd : FuncData} {k : Nat} (F : Fun K "parts_at" "parts_at" sPartsAt f fd) (C_says : CallX P w K mg base k "says" pSays (spTx CF CD CC RSays)) (C_reaches_of : CallOk P w K mg base k "reaches_of" pReachesOf (spTg RReach)) (m_len : mg "len" = none) : FnOk P w K mg base (L2.CX P w) (k + 1) f fd pPartsAt (spTx CF CD CC RParts) := by
  refine F.okX scPartsAt (fun vs H Q E h => ?_) (fun cdv A outer s H vs Q E hr h => ?_)
  · obtain ⟨p, f, d, c, tf, td, tc, rfl, _⟩ := h
    rfl
  · obtain ⟨p, fv, dv, cv, tf, td, tc, rfl, hf, hd, hc, sf, sd, sc, bad, q⟩ := h
    have nd := scPartsAt.nd
    refine ⟨_, pss_cons (ps_if (pt_val (pe_call C_says.ok hr (by rfl) C_says.g C_says.kp C_says.b .nil (passes_call (takes_of rfl rfl rfl rfl) (fun _ _ _ _ h => h)) (pa_cons (pv 0) (pa_cons (pv 1) (pa_cons (pv 2) pa_nil))))) (pss_one (ps_ret pe_non)) pss_nil)
      (PSs.nox (pss_cons (ps_setLc (i := 3) (own := [("reach", 4)]) (g := gName 4) (by rfl) nd rfl rfl (sw_true rfl rfl rfl (by decide +kernel)) (pi_list (pe_call C_reaches_of.ok hr (by rfl) C_reaches_of.g C_reaches_of.kp C_reaches_of.b .nil pass0 (pa_cons (pv 0) (pa_cons (pv 1) (pa_cons (pv 2) pa_nil))))) (blkOk_by (own := [("reach", 4)]) (N := nPartsAt) (sc := defScope sPartsAt) (by decide +kernel)) (fun _ _ _ _ _ => (pg_name (i := 4) nd rfl (.inl rfl))) (fun _ _ _ _ _ => (pts_one (pt_truthK (K := K) (by rfl) (pv 4))))
          (fun _ _ _ _ _ => (pv 4)))
      (pss_one (ps_ret (pe_tup (pa_cons (pe_op op_sub (pe_callB call_len_seq (by rfl) m_len (by decide +kernel) (pa_cons (pv 3) pa_nil)) pe_int) (pa_cons (pe_ix ix_tup (pe_ix ix_list (pv 3) (pe_un un_neg pe_int) (fun _ _ => rfl)) (pe_un un_neg pe_int) (fun _ _ => rfl)) pa_nil))))))), ?_⟩
    refine ⟨_, rfl, _, rfl, _, rfl, p, fv, dv, cv, tf, td, tc, rfl, hf, hd, hc, sf, sd, sc, bad, fun ok r H1 s1 hr1 => ?_⟩
    obtain rfl := hr1
    refine ⟨_, rfl, ?_⟩
    have q := q ok
    refine ite2 (fun c => ?_) (fun c => ?_)
    · refine q .non H1 s1 ?_
      unfold RParts
      rw [if_pos (of_decide_eq_true c)]
    have c' : ¬ cntF tc.toWs (FssF tf.toFm td.toWs) > 0 := fun z => c (decide_eq_true z)
    refine ⟨_, rfl, _, rfl, _, rfl, p, fv, dv, cv, tf, td, tc, rfl, TgAt.same s1 _ _ hf, TgAt.same s1 _ _ hd, TgAt.same s1 _ _ hc, sf, sd, sc, ok, fun r H2 s2 hr2 => ?_⟩
    obtain ⟨r, rfl, nr, zs, er, ez, hz⟩ := hr2
    have ld := toWs_len ok.2.1
    have hzl : zs.length = td.toWs.length + 1 := by
      have := congrArg List.length ez
      rw [List.length_map, reachF_len, List.length_map] at this
      exact this
    refine ⟨r, rfl, ⟨_, SqL.of er⟩, fun M nM => ?_⟩
    show LcGoal (Itl K r) (gName 4) (fun σ H Q => tVar 4 σ H fun x H' => ∃ k, TruV K x H' k ∧ Q k H') (tVar 4) [4] _ H2 M _
    refine lc_sameV (walk_list (xs := zs.map fun z => V.ref z.1)) zs (fun z => !z.2.isEmpty) (fun z => .ref z.1) (by rw [List.length_map]) (by omega) nM (fun H s => SqL.of (s _ _ er)) ?_ ?_
    · rintro i z x H3' H3 hy s3 ⟨rfl, hx⟩ Q1 Q0 q1 q0
      rw [List.getElem?_map, hy] at hx
      injection hx with hx
      subst hx
      have ezz := s3 _ _ (hz z (List.mem_of_getElem? hy))
      refine ⟨rfl, _, rfl, !z.2.isEmpty, .inr (.inl ⟨_, SqT.of ezz, by cases z.2 <;> rfl⟩), ?_⟩
      refine ite2 (fun c => ?_) (fun c => ?_)
      · exact ⟨_, rfl, q1 c _ (same_refl _)⟩
      · exact q0 (Bool.eq_false_iff.mpr c) _ (same_refl _)
    intro H3 s3 eM
    have s03 := s1.trans (s2.trans s3)
    have ef : (zs.filter fun z => !z.2.isEmpty).map (·.2) = (reachF tc.toWs (FssF tf.toFm td.toWs)).filter fun r => !r.isEmpty := by
      rw [← ez, List.filter_map]
      rfl
    obtain ⟨r0, rs0, e0⟩ := reach0 tc.toWs (FssF tf.toFm td.toWs)
    have ne : (zs.filter fun z => !z.2.isEmpty) ≠ [] := fun z => by
      rw [z, e0] at ef
      cases ef
    obtain ⟨z, hzl2⟩ : ∃ z, (zs.filter fun z => !z.2.isEmpty).getLast? = some z := ⟨_, List.getLast?_eq_some_getLast ne⟩
    have zm := List.mem_filter.mp (List.mem_of_getLast? hzl2)
    have zne : z.2 ≠ [] := fun e => by
      rw [e] at zm
      cases zm.2
    obtain ⟨m, hm⟩ : ∃ m, z.2.getLast? = some m := ⟨_, List.getLast?_eq_some_getLast zne⟩
    have hat1 : atI ((zs.filter fun z => !z.2.isEmpty).map fun z => V.ref z.1) (-1) = some (.ref z.1) := atI_lastG (by rw [List.getLast?_map, hzl2]; rfl)
    have hat2 : atI (z.2.map V.int) (-1) = some (.int m) := atI_lastG (by rw [List.getLast?_map, hm]; rfl)
    refine ⟨_, rfl, M, _, rfl, .inl (SqL.of eM), _, _, rfl, rfl, _, rfl, _, rfl, M, _, _, _, rfl, rfl, SqL.of eM, hat1, _, rfl, z.1, _, _, _, rfl, rfl, SqT.of (s3 _ _ (hz z zm.1)), hat2, (by show 2 ≤ sizeLine; decide), fun t nt => ?_⟩
    refine q (.ref t) _ (s03.trans (same_new nt _)) ?_
    unfold RParts
    rw [if_neg c']
    refine ⟨t, z.2, m, rfl, ?_, hm, ?_⟩
    · rw [← ef, List.getLast?_map, hzl2]
      rfl
    · rw [upd_same, ← ef, List.length_map, List.length_map]
end
end Deed

namespace Deed
open PySem PySem.Spec PySem.W PyProof.Rows L2 LamX RZ
/-! ### ways, the first of them -/
theorem nodup_lenK {α : Type} : ∀ {l m : List α}, l.Nodup → (∀ x ∈ l, x ∈ m) → l.length ≤ m.length
  | [], _, _, _ => Nat.zero_le _
  | a :: r, m, hn, h => by
    obtain ⟨s, t, rfl⟩ := List.append_of_mem (h a List.mem_cons_self)
    rw [List.nodup_cons] at hn
    have := nodup_lenK (l := r) (m := s ++ t) hn.2 fun x hx => by
      have hx' := h x (List.mem_cons_of_mem _ hx)
      rw [List.mem_append, List.mem_cons] at hx'
      rw [List.mem_append]
      rcases hx' with hx' | hx' | hx'
      · exact .inl hx'
      · exact absurd (hx' ▸ hx) hn.1
      · exact .inr hx'
    rw [List.length_append] at this
    rw [List.length_cons, List.length_append, List.length_cons]
    omega
def dI (u : List Int) : PyData := .tuple (u.map PyData.int)
theorem listLt_int : ∀ u v : List Int, listLt u v = decide (u < v)
  | [], [] => (decide_eq_false (List.lt_irrefl _)).symm
  | [], b :: v => (decide_eq_true (List.nil_lt_cons b v)).symm
  | a :: u, [] => (decide_eq_false (List.not_lt_nil _)).symm
  | a :: u, b :: v => by
    unfold listLt
    by_cases h : a = b
    · rw [if_pos h, listLt_int u v]
      exact decide_eq_decide.mpr ⟨fun z => List.cons_lt_cons_iff.mpr (.inr ⟨h, z⟩), fun z => by
        rcases List.cons_lt_cons_iff.mp z with z | ⟨_, z⟩
        · omega
        · exact z⟩
    · rw [if_neg h]
      exact decide_eq_decide.mpr ⟨fun z => List.cons_lt_cons_iff.mpr (.inl z), fun z => by
        rcases List.cons_lt_cons_iff.mp z with z | ⟨z, _⟩
        · exact z
        · exact absurd z h⟩
theorem dI_lt (u v : List Int) : dataLt (dI u) (dI v) = decide (u < v) := (DatumOrd.lt_eq (α := Tup Int) ⟨u⟩ ⟨v⟩).trans (listLt_int u v)
theorem dI_alike (u v : List Int) : PySem.W.alike (dI u) (dI v) = true := DatumOrd.alike (α := Tup Int) ⟨u⟩ ⟨v⟩
theorem dI_depth (u : List Int) : (dI u).depth ≤ 8 := by
  have := depth_ints u
  simp only [dI, PyData.depth]
  omega
theorem dI_non (u : List Int) : dI u ≠ .none := fun z => by cases z
theorem snoc_le : ∀ {u v : List Int} (j : Int), u.length = v.length → u ≤ v → u ++ [j] ≤ v ++ [j]
  | [], [], _, _, _ => List.le_refl _
  | a :: u, b :: v, j, hl, h => by
    rcases List.cons_le_cons_iff.mp h with h | ⟨e, h⟩
    · exact List.cons_le_cons_iff.mpr (.inl h)
    · exact List.cons_le_cons_iff.mpr (.inr ⟨e, snoc_le j (by simpa using hl) h⟩)
/-- the numbers of the fulls by which the words come to a copy -/
def IsWay : List (List (List Str)) → List Str → List Int → Prop
  | [], cs, u => cs = [] ∧ u = []
  | F :: Fs, cs, u => ∃ (j : Nat) (f cs' : List Str) (u' : List Int), F[j]? = some f ∧ cs = f ++ cs' ∧ u = (j : Int) :: u' ∧ IsWay Fs cs' u'
theorem isWay_snoc (F : List (List Str)) : ∀ (Fs : List (List (List Str))) (cs : List Str) (u : List Int), IsWay (Fs ++ [F]) cs u ↔ ∃ (j : Nat) (f cs' : List Str) (u' : List Int), F[j]? = some f ∧ cs = cs' ++ f ∧ u = u' ++ [(j : Int)] ∧ IsWay Fs cs' u'
  | [], cs, u => by
    constructor
    · rintro ⟨j, f, cs', u', h1, rfl, rfl, rfl, rfl⟩
      exact ⟨j, f, [], [], h1, by simp, rfl, rfl, rfl⟩
    · rintro ⟨j, f, cs', u', h1, rfl, rfl, rfl, rfl⟩
      exact ⟨j, f, [], [], h1, by simp, rfl, rfl, rfl⟩
  | G :: Fs, cs, u => by
    constructor
    · rintro ⟨j, f, cs', u', h1, rfl, rfl, h⟩
      obtain ⟨j2, f2, cs2, u2, h2, rfl, rfl, h'⟩ := (isWay_snoc F Fs cs' u').mp h
      exact ⟨j2, f2, f ++ cs2, (j : Int) :: u2, h2, by simp, rfl, j, f, cs2, u2, h1, rfl, rfl, h'⟩
    · rintro ⟨j2, f2, cs2, u2, h2, rfl, rfl, j, f, cs', u', h1, rfl, rfl, h⟩
      exact ⟨j, f, cs' ++ f2, u' ++ [(j2 : Int)], h1, by simp, rfl, (isWay_snoc F Fs _ _).mpr ⟨j2, f2, cs', u', h2, rfl, rfl, h⟩⟩
theorem isWay_len : ∀ {Fs : List (List (List Str))} {cs : List Str} {u : List Int}, IsWay Fs cs u → u.length = Fs.length
  | [], _, _, ⟨_, e⟩ => by rw [e]; rfl
  | F :: Fs, _, _, ⟨_, _, _, _, _, _, e, h⟩ => by rw [e, List.length_cons, List.length_cons, isWay_len h]
/-- the first of those at e -/
def MinAt (C : Nat → List Int → Prop) (g : Nat → Option (List Int)) : Prop := (∀ e m, g e = some m → C e m ∧ ∀ u, C e u → m ≤ u) ∧ ∀ e u, C e u → ∃ m, g e = some m
theorem MinAt.congr {C C' : Nat → List Int → Prop} {g : Nat → Option (List Int)} (h : MinAt C g) (e : ∀ e u, C e u ↔ C' e u) : MinAt C' g :=
  ⟨fun x m hm => ⟨(e _ _).mp (h.1 x m hm).1, fun u hu => (h.1 x m hm).2 u ((e _ _).mpr hu)⟩, fun x u hu => h.2 x u ((e _ _).mpr hu)⟩
theorem MinAt.zero {C : Nat → List Int → Prop} (h : ∀ e u, ¬ C e u) : MinAt C fun _ => none := ⟨fun _ _ z => (by cases z), fun e u hu => absurd hu (h e u)⟩
def minW (u0 : List Int) (o : Option (List Int)) : List Int := if o.getD u0 < u0 then o.getD u0 else u0
def putG (g : Nat → Option (List Int)) (e0 : Nat) (u : List Int) : Nat → Option (List Int) := fun e => if e = e0 then some u else g e
theorem MinAt.put {C : Nat → List Int → Prop} {g : Nat → Option (List Int)} (h : MinAt C g) (e0 : Nat) (u0 : List Int) : MinAt (fun e u => C e u ∨ e = e0 ∧ u = u0) (putG g e0 (minW u0 (g e0))) := by
  refine ⟨fun e m hm => ?_, fun e u hu => ?_⟩
  · unfold putG at hm
    by_cases he : e = e0
    · subst he
      rw [if_pos rfl] at hm
      injection hm with hm
      subst hm
      cases hg : g e with
      | none =>
        have e1 : minW u0 none = u0 := if_neg (List.lt_irrefl u0)
        rw [e1]
        refine ⟨.inr ⟨rfl, rfl⟩, fun u hu => ?_⟩
        rcases hu with hu | ⟨_, rfl⟩
        · obtain ⟨m, z⟩ := h.2 e u hu
          rw [hg] at z
          cases z
        · exact List.le_refl _
      | some m =>
        obtain ⟨h1, h2⟩ := h.1 e m hg
        by_cases hlt : m < u0
        · have e1 : minW u0 (some m) = m := if_pos hlt
          rw [e1]
          refine ⟨.inl h1, fun u hu => ?_⟩
          rcases hu with hu | ⟨_, rfl⟩
          · exact h2 u hu
          · exact List.le_of_lt hlt
        · have e1 : minW u0 (some m) = u0 := if_neg hlt
          rw [e1]
          refine ⟨.inr ⟨rfl, rfl⟩, fun u hu => ?_⟩
          rcases hu with hu | ⟨_, rfl⟩
          · exact List.le_trans hlt (h2 u hu)
          · exact List.le_refl _
    · rw [if_neg he] at hm
      obtain ⟨h1, h2⟩ := h.1 e m hm
      refine ⟨.inl h1, fun u hu => ?_⟩
      rcases hu with hu | ⟨z, _⟩
      · exact h2 u hu
      · exact absurd z he
  · unfold putG
    by_cases he : e = e0
    · rw [if_pos he]
      exact ⟨_, rfl⟩
    · rw [if_neg he]
      rcases hu with hu | ⟨z, _⟩
      · exact h.2 e u hu
      · exact absurd z he
def wayC (Fs : List (List (List Str))) (cw : List Str) (e : Nat) (u : List Int) : Prop := e ≤ cw.length ∧ IsWay Fs (cw.take e) u
def stepC (g : Nat → Option (List Int)) (fs : List (List Str)) (cw : List Str) (e : Nat) (u : List Int) : Prop := ∃ (p : Nat) (u' : List Int) (j : Nat) (f : List Str), g p = some u' ∧ fs[j]? = some f ∧ (cw.drop p).take f.length = f ∧ e = p + f.length ∧ u = u' ++ [(j : Int)]
theorem stepC_min {Fs : List (List (List Str))} {F : List (List Str)} {cw : List Str} {g g' : Nat → Option (List Int)} (h : MinAt (wayC Fs cw) g) (h' : MinAt (stepC g F cw) g') : MinAt (wayC (Fs ++ [F]) cw) g' := by
  have key : ∀ e v, wayC (Fs ++ [F]) cw e v → ∃ u, stepC g F cw e u ∧ u ≤ v := by
    rintro e v ⟨he, hv⟩
    obtain ⟨j, f, cs', v', hj, hcs, rfl, hw⟩ := (isWay_snoc F Fs _ _).mp hv
    have hl := congrArg List.length hcs
    rw [List.length_take, Nat.min_eq_left he, List.length_append] at hl
    have e1 : cs' = cw.take cs'.length := by
      have := congrArg (List.take cs'.length) hcs
      rw [List.take_take, List.take_left, Nat.min_eq_left (by omega)] at this
      exact this.symm
    have e2 : (cw.drop cs'.length).take f.length = f := by
      have := congrArg (List.drop cs'.length) hcs
      rw [List.drop_left, List.drop_take, hl, Nat.add_sub_cancel_left] at this
      exact this
    obtain ⟨u', hu'⟩ := h.2 cs'.length v' ⟨by omega, by rw [← e1]; exact hw⟩
    obtain ⟨h1, h2⟩ := h.1 _ _ hu'
    exact ⟨u' ++ [(j : Int)], ⟨cs'.length, u', j, f, hu', hj, e2, hl, rfl⟩, snoc_le _ ((isWay_len h1.2).trans (isWay_len hw).symm) (h2 _ ⟨by omega, by rw [← e1]; exact hw⟩)⟩
  refine ⟨fun e m hm => ?_, fun e v hv => ?_⟩
  · obtain ⟨⟨p, u', j, f, hg, hj, hseg, rfl, rfl⟩, h2⟩ := h'.1 e m hm
    obtain ⟨⟨hp, hw⟩, _⟩ := h.1 p u' hg
    have hlen : p + f.length ≤ cw.length := by
      have := congrArg List.length hseg
      rw [List.length_take, List.length_drop] at this
      omega
    refine ⟨⟨hlen, (isWay_snoc F Fs _ _).mpr ⟨j, f, cw.take p, u', hj, ?_, rfl, hw⟩⟩, fun v hv => ?_⟩
    · rw [List.take_add, hseg]
    · obtain ⟨u, hu, hle⟩ := key _ v hv
      exact List.le_trans (h2 u hu) hle
  · obtain ⟨u, hu, _⟩ := key e v hv
    exact h'.2 e u hu
def g0 : Nat → Option (List Int) := fun e => if e = 0 then some [] else none
theorem g0_min (cw : List Str) : MinAt (wayC [] cw) g0 := by
  refine ⟨fun e m hm => ?_, fun e u hu => ?_⟩
  · unfold g0 at hm
    by_cases he : e = 0
    · subst he
      rw [if_pos rfl] at hm
      injection hm with hm
      subst hm
      exact ⟨⟨Nat.zero_le _, rfl, rfl⟩, fun u hu => by rw [hu.2.2]; exact List.le_refl _⟩
    · rw [if_neg he] at hm
      cases hm
  · obtain ⟨he, hc, _⟩ := hu
    have := congrArg List.length hc
    rw [List.length_take, Nat.min_eq_left he] at this
    rw [this]
    exact ⟨_, rfl⟩
/-- the ways, by the number of the copy's first words -/
structure WayV (H : Hp) (n : Nat) (g : Nat → Option (List Int)) (kvs : List (Key × V)) : Prop where
  nd : (kvs.map (·.1)).Nodup
  keys : ∀ k ∈ kvs.map (·.1), ∃ e : Nat, k = .inl (e : Int) ∧ e ≤ n
  get0 : ∀ e : Nat, g e = none → valV kvs (.inl (e : Int)) = none
  get1 : ∀ (e : Nat) u, g e = some u → ∃ t, valV kvs (.inl (e : Int)) = some (.ref t) ∧ H t = some (.tup (u.map V.int))
theorem WayV.kp {H H' : Hp} {n : Nat} {g : Nat → Option (List Int)} {kvs : List (Key × V)} (h : WayV H n g kvs) (k : KpT H H') : WayV H' n g kvs :=
  ⟨h.nd, h.keys, h.get0, fun e u he => by
    obtain ⟨t, h1, h2⟩ := h.get1 e u he
    exact ⟨t, h1, k _ _ h2⟩⟩
theorem WayV.len {H : Hp} {n : Nat} {g : Nat → Option (List Int)} {kvs : List (Key × V)} (h : WayV H n g kvs) : kvs.length ≤ n + 1 := by
  have := nodup_lenK (m := (List.range (n + 1)).map fun e : Nat => (Sum.inl (e : Int) : Key)) h.nd fun k hk => by
    obtain ⟨e, rfl, he⟩ := h.keys k hk
    exact List.mem_map.mpr ⟨e, List.mem_range.mpr (by omega), rfl⟩
  rw [List.length_map, List.length_map, List.length_range] at this
  exact this
theorem keys_put {kvs : List (Key × V)} {k : Key} {v : V} (h : (valV kvs k).isSome = true) : (putK kvs k v).map (·.1) = kvs.map (·.1) := by
  unfold putK
  rw [valV_any, if_pos h, List.map_map]
  refine List.map_congr_left fun kv _ => ?_
  show (if kv.1 = k then (kv.1, v) else kv).1 = kv.1
  by_cases e : kv.1 = k
  · rw [if_pos e]
  · rw [if_neg e]
theorem WayV.put {H : Hp} {n : Nat} {g : Nat → Option (List Int)} {kvs : List (Key × V)} (h : WayV H n g kvs) {e0 : Nat} (he0 : e0 ≤ n) {t : Addr} {u : List Int} (ht : H t = some (.tup (u.map V.int))) : WayV H n (putG g e0 u) (putK kvs (.inl (e0 : Int)) (.ref t)) := by
  have hv : ∀ e : Nat, valV (putK kvs (.inl (e0 : Int)) (.ref t)) (.inl (e : Int)) = if e = e0 then some (.ref t) else valV kvs (.inl (e : Int)) := fun e => by
    rw [valV_put]
    by_cases z : e = e0
    · rw [if_pos z, if_pos (by rw [z])]
    · rw [if_neg z, if_neg (fun y => z (by injection y with y; omega))]
  have hk : ∀ k ∈ (putK kvs (.inl (e0 : Int)) (.ref t)).map (·.1), k ∈ kvs.map (·.1) ∨ k = .inl (e0 : Int) := fun k hk => by
    cases hs : valV kvs (.inl (e0 : Int)) with
    | none =>
      rw [putK_new _ hs, List.map_append, List.mem_append] at hk
      rcases hk with hk | hk
      · exact .inl hk
      · exact .inr (by simpa using hk)
    | some y =>
      rw [keys_put (by rw [hs]; rfl)] at hk
      exact .inl hk
  refine ⟨?_, fun k hk' => ?_, fun e he => ?_, fun e v he => ?_⟩
  · cases hs : valV kvs (.inl (e0 : Int)) with
    | none => exact nd_putK _ h.nd hs
    | some y =>
      rw [keys_put (by rw [hs]; rfl)]
      exact h.nd
  · rcases hk k hk' with z | z
    · exact h.keys k z
    · exact ⟨e0, z, he0⟩
  · rw [hv]
    unfold putG at he
    by_cases z : e = e0
    · rw [if_pos z] at he
      cases he
    · rw [if_neg z] at he
      rw [if_neg z]
      exact h.get0 e he
  · rw [hv]
    unfold putG at he
    by_cases z : e = e0
    · rw [if_pos z] at he
      injection he with he
      subst he
      rw [if_pos z]
      exact ⟨t, rfl, ht⟩
    · rw [if_neg z] at he
      rw [if_neg z]
      exact h.get1 e v he
/-- the candidates of the first i places, of the i-th the first j fulls -/
def candC (kvs : List (Key × V)) (g : Nat → Option (List Int)) (fs : List (List Str)) (cw : List Str) (i j : Nat) (e : Nat) (u : List Int) : Prop := ∃ (i' p : Nat) (u' : List Int) (j' : Nat) (f : List Str), (kvs.map (·.1))[i']? = some (.inl (p : Int)) ∧ (i' < i ∨ i' = i ∧ j' < j) ∧ g p = some u' ∧ fs[j']? = some f ∧ (cw.drop p).take f.length = f ∧ e = p + f.length ∧ u = u' ++ [(j' : Int)]
theorem candC_zero (kvs : List (Key × V)) (g : Nat → Option (List Int)) (fs : List (List Str)) (cw : List Str) (e : Nat) (u : List Int) : ¬ candC kvs g fs cw 0 0 e u := by
  rintro ⟨i', p, u', j', f, _, h, _⟩
  omega
theorem candC_row (kvs : List (Key × V)) (g : Nat → Option (List Int)) (fs : List (List Str)) (cw : List Str) (i : Nat) (e : Nat) (u : List Int) : candC kvs g fs cw i fs.length e u ↔ candC kvs g fs cw (i + 1) 0 e u := by
  constructor
  · rintro ⟨i', p, u', j', f, h1, h2, h3, h4, h5⟩
    exact ⟨i', p, u', j', f, h1, by omega, h3, h4, h5⟩
  · rintro ⟨i', p, u', j', f, h1, h2, h3, h4, h5⟩
    have := (List.getElem?_eq_some_iff.mp h4).1
    exact ⟨i', p, u', j', f, h1, by omega, h3, h4, h5⟩
theorem candC_more {kvs : List (Key × V)} {g : Nat → Option (List Int)} {fs : List (List Str)} {cw : List Str} {i j p : Nat} {u0 : List Int} {f : List Str} (hi : (kvs.map (·.1))[i]? = some (.inl (p : Int))) (hg : g p = some u0) (hj : fs[j]? = some f) (hs : (cw.drop p).take f.length = f) (e : Nat) (u : List Int) : (candC kvs g fs cw i j e u ∨ e = p + f.length ∧ u = u0 ++ [(j : Int)]) ↔ candC kvs g fs cw i (j + 1) e u := by
  constructor
  · rintro (⟨i', p', u', j', f', h1, h2, h3⟩ | ⟨rfl, rfl⟩)
    · exact ⟨i', p', u', j', f', h1, by omega, h3⟩
    · exact ⟨i, p, u0, j, f, hi, by omega, hg, hj, hs, rfl, rfl⟩
  · rintro ⟨i', p', u', j', f', h1, h2, h3, h4, h5, h6, h7⟩
    by_cases z : i' = i ∧ j' = j
    · obtain ⟨rfl, rfl⟩ := z
      rw [hi] at h1
      injection h1 with h1
      injection h1 with h1
      obtain rfl : p = p' := by omega
      rw [hg] at h3
      injection h3 with h3
      rw [hj] at h4
      injection h4 with h4
      subst h3
      subst h4
      exact .inr ⟨h6, h7⟩
    · exact .inl ⟨i', p', u', j', f', h1, by omega, h3, h4, h5, h6, h7⟩
theorem candC_same {kvs : List (Key × V)} {g : Nat → Option (List Int)} {fs : List (List Str)} {cw : List Str} {i j p : Nat} {f : List Str} (hi : (kvs.map (·.1))[i]? = some (.inl (p : Int))) (hj : fs[j]? = some f) (hs : ¬ (cw.drop p).take f.length = f) (e : Nat) (u : List Int) : candC kvs g fs cw i j e u ↔ candC kvs g fs cw i (j + 1) e u := by
  constructor
  · rintro ⟨i', p', u', j', f', h1, h2, h3⟩
    exact ⟨i', p', u', j', f', h1, by omega, h3⟩
  · rintro ⟨i', p', u', j', f', h1, h2, h3, h4, h5, h6⟩
    by_cases z : i' = i ∧ j' = j
    · obtain ⟨rfl, rfl⟩ := z
      rw [hi] at h1
      injection h1 with h1
      injection h1 with h1
      obtain rfl : p = p' := by omega
      rw [hj] at h4
      injection h4 with h4
      subst h4
      exact absurd h5 hs
    · exact ⟨i', p', u', j', f', h1, by omega, h3, h4, h5, h6⟩
theorem candC_all {H : Hp} {n : Nat} {kvs : List (Key × V)} {g : Nat → Option (List Int)} (hw : WayV H n g kvs) (fs : List (List Str)) (cw : List Str) (e : Nat) (u : List Int) : candC kvs g fs cw kvs.length 0 e u ↔ stepC g fs cw e u := by
  constructor
  · rintro ⟨i', p, u', j', f, _, _, h3, h4, h5, h6, h7⟩
    exact ⟨p, u', j', f, h3, h4, h5, h6, h7⟩
  · rintro ⟨p, u', j', f, h3, h4, h5, h6, h7⟩
    obtain ⟨t, ht, _⟩ := hw.get1 p u' h3
    obtain ⟨i, hi, ei⟩ := List.mem_iff_getElem.mp (valV_in ht)
    refine ⟨i, p, u', j', f, by rw [List.getElem?_eq_getElem hi, ei], .inl ?_, h3, h4, h5, h6, h7⟩
    rw [List.length_map] at hi
    exact hi
theorem call_min2DK {X : Cx} {K : PySem.W.Frag} (h : X.K = K) (hc : X.calm = true) (hu : X.A.units + 64 < cLine) : CallR X (.builtin "min") (rMin2D K) := h ▸ call_min2D hc hu
section
variable {P : Program} {w : World} {K : PySem.W.Frag} {mg : Str → Option Value} {base : Heap}
abbrev sWaysBehind : Stmt := topS 26
abbrev nWaysBehind : List Str := ["ways", "fulls", "copy", "behind", "place", "which", "full", "end", "way"]
abbrev pWaysBehind : List Str := ["ways", "fulls", "copy"]
theorem scWaysBehind : FnScope nWaysBehind pWaysBehind (defScope sWaysBehind) := ⟨rfl, rfl, rfl, by decide +kernel, rfl, by decide +kernel, by decide +kernel⟩
def spWaysB : Sp := fun vs H Q _ => ∃ (a f c : Addr) (g : Nat → Option (List Int)) (kvs : List (Key × V)) (fs : List (List Str)) (cw : List Str), vs = [.ref a, .ref f, .ref c] ∧ H a = some (.dK kvs) ∧ WayV H cw.length g kvs ∧ (∀ e u, g e = some u → u.length ≤ 500) ∧ Dt H (.ref f) (dFs fs) ∧ Dt H (.ref c) (dWs cw) ∧ (∀ x ∈ fs, x ≠ []) ∧ cw.length ≤ 500 ∧ fs.length ≤ 500 ∧
  ∀ l H' g' kvs', Same H H' → H l = none → H' l = some (.dK kvs') → WayV H' cw.length g' kvs' → MinAt (stepC g fs cw) g' → Q (.ref l) H'
theorem ok_WaysB {f : Addr} {fd : FuncData} {k : Nat} (F : Fun K "ways_behind" "ways_behind" sWaysBehind f fd) (m_enumerate : mg "enumerate" = none) (m_len : mg "len" = none) (m_min : mg "min" = none) : FnOk P w K mg base CX0 (k + 1) f fd pWaysBehind spWaysB := by
  refine F.ok scWaysBehind (fun vs H Q E h => ?_) (fun cdv A outer s H vs Q E hr h => ?_)
  · obtain ⟨a, f, c, g, kvs, fs, cw, rfl, _⟩ := h
    rfl
  · obtain ⟨a, fa, c, g, kvs, fs, cw, rfl, ea, hW, hgl, hF, hC, hne, hcl, hfl, q⟩ := h
    have nd := scWaysBehind.nd
    have hu := hu_of hr
    refine ⟨_, pss_cons (ps_set (i := 3) nd rfl (.inl rfl) pe_dnewK)
      (pss_cons (ps_lock (ps_for PassesOwn.never rfl (pi_keys (pv 0)) (pg_name (i := 4) nd rfl (.inl rfl))
        (pss_one (ps_for PassesOwn.never rfl (pi_enumB false (by rfl) m_enumerate (pa_cons (pv 1) pa_nil)) (pg_tup (by rfl) (pgs_cons (pg_name (i := 5) nd rfl (.inl rfl)) (pgs_cons (pg_name (i := 6) nd rfl (.inl rfl)) pgs_nil)))
        (pss_cons (ps_set (i := 7) nd rfl (.inl rfl) (pe_op op_add (pv 4) (pe_callB call_len_seq (by rfl) m_len (by decide +kernel) (pa_cons (pv 6) pa_nil))))
      (pss_one (ps_if (pt_cmpR (op_eqP (K := K) rfl hr.units) (pe_slice sl_tupA (pv 2) (po_some (pv 4)) (po_some (pv 7))) (pv 6) (nomark _)) (pss_cons (ps_set (i := 8) nd rfl (.inl rfl) (pe_op op_catA (pe_dget hu (pv 0) (pv 4) (fun _ _ => rfl)) (pe_tup (pa_cons (pv 5) pa_nil))))
      (pss_one (ps_dput hu (pv 3) (pv 7) (pe_callB (call_min2DK (K := K) rfl (by rfl) hr.units) (by rfl) m_min (by decide +kernel) (pa_cons (pv 8) (pa_cons (pe_dget2 hu (pv 3) (pv 7) (pv 8) ⟨rfl, rfl, rfl, rfl⟩) pa_nil))) rfl))) pss_nil)))))))
      (pss_one (ps_ret (pv 3)))), ?_⟩
    obtain ⟨xf, ef, hxf⟩ := hF.tref
    obtain ⟨zf, rfl, rfl, hzf⟩ := hxf.ofRefs (enc := fun f : List Str => f.map PyData.str)
    obtain ⟨xc, ec, hxc⟩ := hC.tref
    obtain rfl := hxc.ofStrs
    refine fun b nb => ?_
    have nba : b ≠ a := fun z => by rw [z, ea] at nb; cases nb
    refine ⟨a, _, (same_new nb _ _ _ ea), trivial, fun od => ?_⟩
    have J0 : ∀ x o, x ≠ a → H x = some o → (upd (upd H b (.dK [])) a (.frz od (.dK kvs))) x = some o := fun x o nx e => by
      rw [upd_ne nx, upd_ne (fun z => by rw [z, nb] at e; cases e)]
      exact e
    have eb0 : (upd (upd H b (.dK [])) a (.frz od (.dK kvs))) b = some (.dK []) := by rw [upd_ne nba, upd_same]
    have ea0 : (upd (upd H b (.dK [])) a (.frz od (.dK kvs))) a = some (.frz od (.dK kvs)) := upd_same
    generalize (upd (upd H b (.dK [])) a (.frz od (.dK kvs))) = HL at J0 eb0 ea0
    have jt : ∀ {H'}, (∀ x o, x ≠ a → H x = some o → H' x = some o) → KpT H H' := fun J x xs e => J x _ (fun z => by rw [z, ea] at e; cases e) e
    have hzl : (zf.map fun z => V.ref z.1).length = (zf.map (·.2)).length := by rw [List.length_map, List.length_map]
    refine ⟨_, rfl, a, od, rfl, .inl ⟨kvs, ea0, ?_⟩⟩
    refine for_it walk_keys (fun i σ H' => ∃ y4 y5 y6 y7 y8 kvb g', σ = [some (.ref a), some (.ref fa), some (.ref c), some (.ref b), y4, y5, y6, y7, y8] ∧ (∀ x o, x ≠ a → H x = some o → H' x = some o) ∧ H' a = some (.frz od (.dK kvs)) ∧ H' b = some (.dK kvb) ∧ WayV H' cw.length g' kvb ∧ MinAt (candC kvs g (zf.map (·.2)) cw i 0) g')
      ⟨none, none, none, none, none, [], fun _ => none, rfl, J0, ea0, eb0, ⟨List.nodup_nil, fun k hk => (by cases hk), fun _ _ => rfl, fun _ _ z => (by cases z)⟩, MinAt.zero (candC_zero _ _ _ _)⟩ (fun i σ H' _ h => ?_) ?_ ?_
    · obtain ⟨_, _, _, _, _, _, _, _, _, h, _⟩ := h
      exact h
    · rintro i x σ H2' H2 hi ⟨y4, y5, y6, y7, y8, kvb, g', rfl, J2, ea2, eb2, hV2, hM2⟩ ⟨rfl, kk, vv, hkv, rfl⟩
      have hki : (kvs.map (·.1))[i]? = some kk := by rw [List.getElem?_map, hkv]; rfl
      obtain ⟨p, rfl, hp⟩ := hW.keys kk (List.mem_of_getElem? hki)
      obtain ⟨u0, hg0⟩ : ∃ u, g p = some u := by
        cases hgp : g p with
        | none => exact absurd (List.mem_of_getElem? hki) (valV_not (hW.get0 p hgp))
        | some u => exact ⟨u, rfl⟩
      obtain ⟨tp, htp, etp⟩ := hW.get1 p u0 hg0
      refine ⟨_, rfl, fa, _, rfl, SqT.of (jt J2 _ _ ef), ?_⟩
      refine for_it (walk_enumB (c := false) (xs := zf.map fun z => V.ref z.1)) (fun j σ H' => ∃ y5 y6 y7 y8 kvb g', σ = [some (.ref a), some (.ref fa), some (.ref c), some (.ref b), some (.int (p : Int)), y5, y6, y7, y8] ∧ (∀ x o, x ≠ a → H x = some o → H' x = some o) ∧ H' a = some (.frz od (.dK kvs)) ∧ H' b = some (.dK kvb) ∧ WayV H' cw.length g' kvb ∧ MinAt (candC kvs g (zf.map (·.2)) cw i j) g')
        ⟨_, _, _, _, kvb, g', rfl, J2, ea2, eb2, hV2, hM2⟩ (fun j σ H' _ h => ?_) ?_ ?_
      · obtain ⟨_, _, _, _, _, _, _, J, _⟩ := h
        exact SqT.of (jt J _ _ ef)
      · rintro j x σ H3 H3' hj ⟨y5, y6, y7, y8, kvb, g', rfl, J3, ea3, eb3, hV3, hM3⟩ ⟨T0, xx, yy, rfl, nT, rfl, hxx, hyy⟩
        injection hxx with hxx
        subst hxx
        dsimp only at hyy
        rw [List.getElem?_map] at hyy
        obtain ⟨z, hz, rfl⟩ := Option.map_eq_some_iff.mp hyy
        have zm := List.mem_of_getElem? hz
        have fz : (zf.map (·.2))[j]? = some z.2 := by rw [List.getElem?_map, hz]; rfl
        have jl : j < zf.length := (List.getElem?_eq_some_iff.mp hz).1
        obtain ⟨xz, ez, hxz⟩ := (hzf z zm).tref
        obtain rfl := hxz.ofStrs
        have s4 := same_new nT (.tup [.int (j : Nat), .ref z.1])
        have eT : (upd H3 T0 (.tup [.int (j : Nat), .ref z.1])) T0 = some (.tup [.int (j : Nat), .ref z.1]) := upd_same
        generalize (upd H3 T0 (.tup [.int (j : Nat), .ref z.1])) = H4 at s4 eT
        have J4 : ∀ x o, x ≠ a → H x = some o → H4 x = some o := fun x o nx e => s4 _ _ (J3 x o nx e)
        have ea4 := s4 _ _ ea3
        have eb4 := s4 _ _ eb3
        have hV4 := hV3.kp (Same.tup s4)
        refine ⟨T0, _, rfl, SqT.of eT, rfl, _, _, rfl, _, _, rfl, rfl, ?_⟩
        have ez4 : H4 z.1 = some (.tup (z.2.map V.str)) := jt J4 _ _ ez
        have hzl : (z.2.map V.str).length = z.2.length := List.length_map _
        refine ⟨_, rfl, _, rfl, z.1, _, rfl, .inr (SqT.of ez4), _, _, rfl, rfl, ?_⟩
        refine ⟨_, rfl, _, rfl, _, rfl, _, rfl, _, rfl, ?_⟩
        refine slA_same (jt J4 _ _ ec) fun t5 H5 s5 e5 => ?_
        have ek : ((p : Nat) : Int) + ((z.2.map V.str).length : Nat) = ((p + z.2.length : Nat) : Int) := by rw [hzl]; omega
        rw [ek, cutSeg V.str cw p (p + z.2.length) (by omega), show p + z.2.length - p = z.2.length by omega] at e5
        have J5 : ∀ x o, x ≠ a → H x = some o → H5 x = some o := fun x o nx e => s5 _ _ (J4 x o nx e)
        have ea5 := s5 _ _ ea4
        have eb5 := s5 _ _ eb4
        have hV5 := hV4.kp (Same.tup s5)
        refine ⟨_, rfl, dWs ((cw.drop p).take z.2.length), dWs z.2, .tup (SqT.of e5) (DtAll.dp _ _ (DtAll.strs _)), .tup (SqT.of (jt J5 _ _ ez)) (DtAll.dp _ _ (DtAll.strs _)), plain_ws _, plain_ws _, Nat.le_trans (depth_ws _) (by decide), _, rfl, ?_⟩
        rw [eqv_ws]
        refine ite2 (fun c1 => ?_) (fun c1 => ?_)
        · have c1' : (cw.drop p).take z.2.length = z.2 := of_decide_eq_true c1
          have lo : p + z.2.length ≤ cw.length := by
            have := congrArg List.length c1'
            rw [List.length_take, List.length_drop] at this
            omega
          have dg : DGet H5 a (.int (p : Int)) (some (.ref tp)) := by
            have h1 : DGet H5 a (kV (.inl (p : Int))) (valV kvs (.inl (p : Int))) := .inl ⟨kvs, _, .inr ⟨od, ea5⟩, rfl, rfl⟩
            rw [htp] at h1
            exact h1
          refine ⟨_, rfl, _, rfl, a, _, rfl, dg, _, rfl, (by show 1 ≤ sizeLine; decide), fun t6 nt6 => ?_⟩
          have s6 := same_new nt6 (.tup [.int (j : Nat)])
          have e6 : (upd H5 t6 (.tup [.int (j : Nat)])) t6 = some (.tup [.int (j : Nat)]) := upd_same
          generalize (upd H5 t6 (.tup [.int (j : Nat)])) = H6 at s6 e6
          refine catA_same (s6 _ _ (jt J5 _ _ etp)) e6 (by have := hgl p u0 hg0; rw [List.length_map]; show _ + 1 ≤ 1000; omega) fun t7 H7 s7 e7 => ?_
          have e7 : H7 t7 = some (.tup ((u0 ++ [(j : Int)]).map V.int)) := by
            rw [e7, List.map_append]
            rfl
          have s57 := s6.trans s7
          have J7 : ∀ x o, x ≠ a → H x = some o → H7 x = some o := fun x o nx e => s57 _ _ (J5 x o nx e)
          have ea7 := s57 _ _ ea5
          have eb7 := s57 _ _ eb5
          have hV7 := hV5.kp (Same.tup s57)
          generalize hw : u0 ++ [(j : Int)] = way at e7
          have hek : (p : Int) + ((z.2.map V.str).length : Nat) = ((p + z.2.length : Nat) : Int) := ek
          show gName 8 (V.ref t7) (((([some (V.ref a), some (V.ref fa), some (V.ref c), some (V.ref b), some (V.int ↑p), y5, y6, y7, y8].set 5 (some (V.int ↑j))).set 6 (some (V.ref z.fst))).set 7 (some (.int ((p : Int) + ((z.2.map V.str).length : Nat)))))) H7 _
          rw [hek]
          generalize he0 : p + z.2.length = e0 at lo
          obtain ⟨to, eto, hto⟩ : ∃ to, (valV kvb (.inl (e0 : Int))).getD (.ref t7) = .ref to ∧ H7 to = some (.tup (((g' e0).getD way).map V.int)) := by
            cases hge : g' e0 with
            | none =>
              rw [hV7.get0 e0 hge]
              exact ⟨t7, rfl, e7⟩
            | some u =>
              obtain ⟨t, h1, h2⟩ := hV7.get1 e0 u hge
              rw [h1]
              exact ⟨t, rfl, h2⟩
          refine ⟨_, rfl, _, rfl, b, rfl, .inl ⟨_, .inl eb7⟩, _, rfl, _, rfl, _, DGet.k (k := .inl (e0 : Int)) eb7, .ref t7, .ref to, dI way, dI ((g' e0).getD way), by rw [eto], .tup (SqT.of e7) (DtAll.dp _ _ (DtAll.ints _)), .tup (SqT.of hto) (DtAll.dp _ _ (DtAll.ints _)), dI_alike _ _, dI_alike _ _, dI_alike _ _, dI_alike _ _, dI_non _, dI_non _, dI_depth _, dI_depth _, _, rfl, _, rfl, b, _, rfl, DPut.k (k := .inl (e0 : Int)) eb7 (small1000 (by have := hV7.len; omega)), ?_⟩
          rw [dI_lt]
          obtain ⟨tt, ett, htt⟩ : ∃ tt, (if decide ((g' e0).getD way < way) = true then V.ref to else .ref t7) = .ref tt ∧ H7 tt = some (.tup ((minW way (g' e0)).map V.int)) := by
            unfold minW
            by_cases hlt : (g' e0).getD way < way
            · rw [if_pos (decide_eq_true hlt), if_pos hlt]
              exact ⟨to, rfl, hto⟩
            · rw [if_neg (fun z => hlt (of_decide_eq_true z)), if_neg hlt]
              exact ⟨t7, rfl, e7⟩
          rw [ett]
          have kp : KpT H7 (upd H7 b (.dK (putK kvb (.inl (e0 : Int)) (.ref tt)))) := fun x xs e => by
            rw [upd_ne (fun z => by rw [z, eb7] at e; cases e)]
            exact e
          refine ⟨_, _, _, _, _, putG g' e0 (minW way (g' e0)), rfl, fun x o nx e => ?_, ?_, upd_same, (hV7.put lo htt).kp kp, ?_⟩
          · rw [upd_ne (fun z => by rw [z, nb] at e; cases e)]
            exact J7 x o nx e
          · rw [upd_ne nba.symm]
            exact ea7
          · subst he0
            subst hw
            exact (hM3.put _ _).congr (candC_more hki hg0 fz c1')
        · have c1' : ¬ (cw.drop p).take z.2.length = z.2 := fun e => c1 (decide_eq_true e)
          exact ⟨_, _, _, _, kvb, g', rfl, J5, ea5, eb5, hV5, hM3.congr (candC_same hki fz c1')⟩
      · rintro σ H3 ⟨y5, y6, y7, y8, kvb, g', rfl, J3, ea3, eb3, hV3, hM3⟩
        refine ⟨_, _, _, _, _, kvb, g', rfl, J3, ea3, eb3, hV3, ?_⟩
        rw [hzl] at hM3
        exact hM3.congr (candC_row _ _ _ _ _)
    · rintro σ H2 ⟨y4, y5, y6, y7, y8, kvb, g', rfl, J2, ea2, eb2, hV2, hM2⟩
      refine ⟨ea2, _, rfl, q b _ g' kvb (fun x o e => ?_) nb ?_ (hV2.kp ?_) (hM2.congr (candC_all hW _ _))⟩
      · by_cases hx : x = a
        · rw [hx, upd_same, ← ea, ← hx, e]
        · rw [upd_ne hx]
          exact J2 x o hx e
      · rw [upd_ne nba]
        exact eb2
      · intro x xs e
        rw [upd_ne (fun z => by rw [z, ea2] at e; cases e)]
        exact e
end
end Deed

namespace Deed
open PySem PySem.Spec PySem.W PyProof.Rows L2 LamX RZ
/-! ### the first way -/
def Least (Fs : List (List (List Str))) (cs : List Str) (u : List Int) : Prop := IsWay Fs cs u ∧ ∀ v, IsWay Fs cs v → u ≤ v
def RFirst : List Fm1 → List Str → List Str → Hp → V → Hp → Prop := fun fm ds cs _ v H' => (v = .non ∧ ∀ u, ¬ IsWay (FssF fm ds) cs u) ∨ ∃ (t : Addr) (u : List Int), v = .ref t ∧ H' t = some (.tup (u.map V.int)) ∧ Least (FssF fm ds) cs u
section
variable {P : Program} {w : World} {K : PySem.W.Frag} {mg : Str → Option Value} {base : Heap}
abbrev sFirstWay : Stmt := topS 27
abbrev nFirstWay : List Str := ["forms", "draft", "copy", "ways", "fulls"]
abbrev pFirstWay : List Str := ["forms", "draft", "copy"]
theorem scFirstWay : FnScope nFirstWay pFirstWay (defScope sFirstWay) := ⟨rfl, rfl, rfl, by decide +kernel, rfl, by decide +kernel, by decide +kernel⟩
theorem okX_FirstWay {f CF CD CC : Addr} {fd : FuncData} {k : Nat} (F : Fun K "first_way" "first_way" sFirstWay f fd) (C_ck : CkX P w K mg base CF CD CC k) (C_fulls_of : CallOk P w K mg base k "fulls_of" pFullsOf spFullsOf) (C_ways_behind : CallOk P w K mg base k "ways_behind" pWaysBehind spWaysB) (m_len : mg "len" = none) :
    FnOk P w K mg base (L2.CX P w) (k + 1) f fd pFirstWay (spTx CF CD CC RFirst) := by
  refine F.okX scFirstWay (fun vs H Q E h => ?_) (fun cdv A outer s H vs Q E hr h => ?_)
  · obtain ⟨p, f, d, c, tf, td, tc, rfl, _⟩ := h
    rfl
  · obtain ⟨p, fv, dv, cv, tf, td, tc, rfl, hf, hd, hc, sf, sd, sc, bad, q⟩ := h
    have nd := scFirstWay.nd
    have hu := hu_of hr
    refine ⟨_, pss_cons (ps_expr (pe_call C_ck.ok hr (by rfl) C_ck.g C_ck.kp C_ck.b .nil (passes_call (takes_of rfl rfl rfl rfl) (fun _ _ _ _ h => h)) (pa_cons (pv 0) (pa_cons (pv 1) (pa_cons (pv 2) pa_nil)))))
      (PSs.nox (pss_cons (ps_set (i := 3) nd rfl (.inl rfl) (pe_disp (pps_cons pe_int (pe_tup pa_nil) pps_nil) rfl rfl (by simp) (by decide)))
      (pss_cons (ps_for PassesOwn.never rfl (pi_list (pe_call C_fulls_of.ok hr (by rfl) C_fulls_of.g C_fulls_of.kp C_fulls_of.b .nil pass0 (pa_cons (pv 0) (pa_cons (pv 1) pa_nil)))) (pg_name (i := 4) nd rfl (.inl rfl))
        (pss_one (ps_set (i := 3) nd rfl (.inl rfl) (pe_call C_ways_behind.ok hr (by rfl) C_ways_behind.g C_ways_behind.kp C_ways_behind.b .nil pass0 (pa_cons (pv 3) (pa_cons (pv 4) (pa_cons (pv 2) pa_nil)))))))
      (pss_one (ps_ret (pe_dget1 hu (pv 3) (pe_callB call_len_seq (by rfl) m_len (by decide +kernel) (pa_cons (pv 2) pa_nil)) ⟨rfl, rfl, rfl, rfl⟩)))))), ?_⟩
    refine ⟨_, rfl, _, rfl, _, rfl, p, fv, dv, cv, tf, td, tc, rfl, hf, hd, hc, sf, sd, sc, bad, fun ok r H1 s1 hr1 => ?_⟩
    subst hr1
    have fmk := fmOk_of ok.1
    have dfm := dt_fm hf ok.1
    obtain ⟨fa, xsf, rfl, ef, _⟩ := dfm.tupAt
    obtain ⟨da, rfl, ed⟩ := dt_ref hd ok.2.1
    obtain ⟨ca, rfl, ec⟩ := dt_ref hc ok.2.2
    have ld := toWs_len ok.2.1
    have lc := toWs_len ok.2.2
    have q := q ok
    generalize tf.toFm = fm at fmk dfm q
    generalize td.toWs = ds at ed ld q
    generalize tc.toWs = cw at ec lc q
    refine fun a0 na0 => ?_
    have s2 := same_new na0 (.dK [])
    have e2 : (upd H1 a0 (.dK [])) a0 = some (.dK []) := upd_same
    have na0H : H a0 = none := none_back s1 na0
    generalize (upd H1 a0 (.dK [])) = H2 at s2 e2
    refine ⟨(by show 0 ≤ sizeLine; decide), fun t0 nt0 => ?_⟩
    have s3 := same_new nt0 (.tup [])
    have e3 : (upd H2 t0 (.tup [])) t0 = some (.tup []) := upd_same
    have e23 := s3 _ _ e2
    generalize (upd H2 t0 (.tup [])) = H3 at s3 e3 e23
    refine ⟨e23, [(.inl 0, .ref t0)], rfl, (by show 1 ≤ 15; decide), ?_⟩
    have s4 : Same H1 (upd H3 a0 (.dK (mergeK [] [(.inl 0, .ref t0)]))) := same_put na0 (s2.trans s3) _
    have e4 : (upd H3 a0 (.dK (mergeK [] [(.inl 0, .ref t0)]))) a0 = some (.dK [(.inl 0, .ref t0)]) := upd_same
    have e4t : (upd H3 a0 (.dK (mergeK [] [(.inl 0, .ref t0)]))) t0 = some (.tup []) := by
      rw [upd_ne (fun z => by rw [z, e23] at e3; cases e3)]
      exact e3
    generalize (upd H3 a0 (.dK (mergeK [] [(.inl 0, .ref t0)]))) = H4 at s4 e4 e4t
    have s04 := s1.trans s4
    have w4 : WayV H4 cw.length g0 [(.inl 0, .ref t0)] := by
      refine ⟨by simp, fun k hk => ⟨0, by simpa using hk, Nat.zero_le _⟩, fun e he => ?_, fun e u he => ?_⟩
      · unfold g0 at he
        by_cases z : e = 0
        · rw [if_pos z] at he
          cases he
        · exact valV_neg (fun y => z (by injection y with y; omega))
      · unfold g0 at he
        by_cases z : e = 0
        · rw [if_pos z] at he
          injection he with he
          subst he
          subst z
          exact ⟨t0, rfl, e4t⟩
        · rw [if_neg z] at he
          cases he
    refine ⟨_, rfl, _, rfl, fa, da, fm, ds, rfl, Dt.kp (Same.tup s04) _ _ dfm, .tup (s04 _ _ ed) (DtAll.strs _), fmk, by omega, fun l H7 ws s7 nl e7 ew hw => ?_⟩
    have s07 := s04.trans s7
    refine ⟨l, rfl, ⟨_, SqL.of e7⟩, ?_⟩
    have wl : ws.length = ds.length := by
      have := congrArg List.length ew
      rw [List.length_map, List.length_map] at this
      exact this
    refine for_list (xs := ws.map fun z => V.ref z.1) (fun j σ H' => ∃ y4 a g kvs, σ = [some (.ref fa), some (.ref da), some (.ref ca), some (.ref a), y4] ∧ Same H H' ∧ H' l = some (.lst (ws.map fun z => .ref z.1)) ∧ (∀ z ∈ ws, Dt H' (.ref z.1) (dFs z.2)) ∧
      H' a = some (.dK kvs) ∧ WayV H' cw.length g kvs ∧ MinAt (wayC ((FssF fm ds).take j) cw) g)
      ⟨none, a0, g0, _, rfl, s07, e7, hw, s7 _ _ e4, w4.kp (Same.tup s7), g0_min cw⟩ (fun j σ H' _ h => ?_) ?_ ?_
    · obtain ⟨_, _, _, _, _, _, h, _⟩ := h
      exact SqL.of h
    · rintro j x σ H8 hx ⟨y4, a, g, kvs, rfl, s8, e8, hw8, ea8, hV8, hM8⟩
      rw [List.getElem?_map] at hx
      obtain ⟨z, hzj, rfl⟩ := Option.map_eq_some_iff.mp hx
      have zm := List.mem_of_getElem? hzj
      have fz : (FssF fm ds)[j]? = some z.2 := by
        show (ds.map (fulF fm))[j]? = _
        rw [← ew, List.getElem?_map, hzj]
        rfl
      have fk : FsOk z.2 := by
        have fz : (ds.map (fulF fm))[j]? = some z.2 := fz
        rw [List.getElem?_map] at fz
        obtain ⟨w, _, e⟩ := Option.map_eq_some_iff.mp fz
        rw [← e]
        exact fulF_ok fmk w
      refine ⟨_, rfl, _, rfl, _, rfl, a, z.1, ca, g, kvs, z.2, cw, rfl, ea8, hV8, fun e u he => ?_, hw8 z zm, .tup (s8 _ _ ec) (DtAll.strs _), fun x hx => (fk.ws x hx).1, by omega, Nat.le_trans fk.few (by decide), fun b H9 g' kvs' s9 nb e9 hV9 hM9 => ?_⟩
      · have h1 := isWay_len (hM8.1 e u he).1.2
        have h2 : ((FssF fm ds).take j).length ≤ ds.length := by
          rw [List.length_take, List.length_map]
          exact Nat.min_le_right _ _
        omega
      · refine ⟨_, b, g', kvs', rfl, s8.trans s9, s9 _ _ e8, fun y hy => Dt.kp (Same.tup s9) _ _ (hw8 y hy), e9, hV9, ?_⟩
        rw [take_more fz]
        exact stepC_min hM8 hM9
    · rintro σ H8 ⟨y4, a, g, kvs, rfl, s8, e8, hw8, ea8, hV8, hM8⟩
      rw [List.length_map, wl, List.take_of_length_le (by rw [List.length_map]; exact Nat.le_refl _)] at hM8
      refine ⟨_, rfl, a, rfl, .inl ⟨_, .inl ea8⟩, _, rfl, ca, _, rfl, .inr (SqT.of (s8 _ _ ec)), valV kvs (.inl ((cw.length : Nat) : Int)), ?_, ?_⟩
      · rw [List.length_map]
        exact DGet.k (k := .inl ((cw.length : Nat) : Int)) ea8
      · cases hg : g cw.length with
        | none =>
          rw [hV8.get0 _ hg]
          refine q .non H8 s8 (.inl ⟨rfl, fun u hu => ?_⟩)
          obtain ⟨m, hm⟩ := hM8.2 cw.length u ⟨Nat.le_refl _, by rw [List.take_length]; exact hu⟩
          rw [hg] at hm
          cases hm
        | some u =>
          obtain ⟨t, h1, h2⟩ := hV8.get1 _ u hg
          rw [h1]
          obtain ⟨⟨_, g1⟩, g2⟩ := hM8.1 _ _ hg
          rw [List.take_length] at g1
          exact q (.ref t) H8 s8 (.inr ⟨t, u, rfl, h2, g1, fun v hv => g2 v ⟨Nat.le_refl _, by rw [List.take_length]; exact hv⟩⟩)
end
end Deed

namespace Deed
open PySem PySem.Spec PySem.W PyProof.Rows L2 LamX RZ
/-! ### drawn words, fulls, forms -/
theorem Kp.over1 {p l : Addr} {H H' : Hp} (k : Kp p H H') (n : H l = none) (o : HO) : Kp p H (upd H' l o) := fun b u n1 e => by
  rw [upd_ne (ne_of_none e n)]
  exact k _ _ n1 e
theorem PenAt.put1 {p l : Addr} {H : Hp} (h : PenAt H p) (n : l ≠ p) (o : HO) : PenAt (upd H l o) p := by
  obtain ⟨x1, x2, x3, x4, z1, z2⟩ := h
  exact ⟨x1, x2, x3, x4, by rw [upd_ne n.symm]; exact z1, z2⟩
theorem KpT.put {H : Hp} {l : Addr} {xs : List V} (e : H l = some (.lst xs)) (o : HO) : KpT H (upd H l o) := fun b us h => by
  rw [upd_ne (fun z => by rw [z, e] at h; cases h)]
  exact h
/-- a comprehension over a range, by draws -/
theorem lc_pen {lo : Int} {n : Nat} {g : TG} {te : TE} {vs : List Nat} {σ : L2.St} {H2 : Hp} {M p : Addr} {Qd : Hp → Prop} (P2 : PenAt H2 p) (nM : H2 M = none) (E : Hp → V → Prop) (hE : ∀ {H H' : Hp} {v : V}, KpT H H' → E H v → E H' v) (hn : n ≤ 900)
    (hs : ∀ (i : Nat) (H : Hp), i < n → Kp p H2 H → PenAt H p → ∀ Q : V → Hp → Prop, (∀ v H', Kp p H H' → PenAt H' p → E H' v → Q v H') → g (.int (lo + i)) (wipe σ vs) H fun σ2 H' => wipe σ2 vs = wipe σ vs ∧ te σ2 H' Q)
    (hd : ∀ (H : Hp) (xs : List V), Kp p H2 H → PenAt H p → H M = some (.lst xs) → xs.length = n → (∀ x ∈ xs, E H x) → Qd H) : LcGoal (Itr lo n) g tYes te vs σ H2 M Qd := by
  have nMp : M ≠ p := P2.free nM
  refine lc_range (lo := lo) (n := n) (fun i H => ∃ xs : List V, H M = some (.lst xs) ∧ Kp p H2 H ∧ PenAt H p ∧ xs.length = i ∧ ∀ x ∈ xs, E H x) ⟨[], upd_same, Kp.new nM _, P2.new nM _, rfl, fun _ h => nomatch h⟩ ?_ ?_
  · rintro i H hi ⟨xs, eM, k3, P3, hl, hx⟩
    refine hs i H hi k3 P3 _ fun v H4 k4 P4 hv => ?_
    have eM4 := k4 _ _ nMp eM
    refine ⟨_, eM4, small1000 (by omega), xs ++ [v], upd_same, (k3.trans k4).over1 nM _, P4.put1 nMp _, by rw [List.length_append, hl]; rfl, fun x hxm => hE (KpT.put eM4 _) ?_⟩
    rcases List.mem_append.mp hxm with h | h
    · exact hE (k4.tup P3) (hx x h)
    · rw [List.mem_singleton.mp h]
      exact hv
  · rintro H ⟨xs, eM, k3, P3, hl, hx⟩
    exact hd H xs k3 P3 eM hl hx
end Deed

namespace Deed
open PySem PySem.Spec PySem.W PyProof.Rows L2 LamX RZ
def abL : List Str := ["a", "b", "aa", "ab", "ba", "bb"]
theorem abL_ok : ∀ x ∈ abL, wordS x = true := by
  intro x hx
  simp only [abL, List.mem_cons, List.not_mem_nil, or_false] at hx
  rcases hx with rfl | rfl | rfl | rfl | rfl | rfl <;> rfl
theorem wordS_len {x : Str} (h : wordS x = true) : x.length ≤ 8 := by
  unfold wordS at h
  rw [Bool.and_eq_true, Bool.and_eq_true] at h
  exact of_decide_eq_true h.2.1
theorem map_same {α : Type} {f : α → α} (h : ∀ x, f x = x) (l : List α) : l.map f = l := by
  induction l with
  | nil => rfl
  | cons a r ih => rw [List.map_cons, h a, ih]
/-! data as things -/
mutual
def tgD : PyData → Tg
  | .none => .non
  | .bool b => .bl b
  | .int i => .int i
  | .str x => .str x
  | .tuple ds => .tup (tgDs ds)
  | .list _ => .lst
  | .dict _ => .dct
def tgDs : List PyData → List Tg
  | [] => []
  | d :: ds => tgD d :: tgDs ds
end
mutual
theorem Dt.tg {p : Addr} {H : Hp} : ∀ (d : PyData) (v : V), Dt H v d → TgAt p H v (tgD d)
  | .none, _, h => by cases h; exact .non
  | .bool _, _, h => by cases h; exact .bl _
  | .int _, _, h => by cases h; exact .int _
  | .str _, _, h => by cases h; exact .str _
  | .tuple ds, _, h => by
    cases h with
    | tup e ha => exact .tup e (DtAll.tg ds _ ha)
  | .list _, _, h => by cases h
  | .dict _, _, h => by cases h
theorem DtAll.tg {p : Addr} {H : Hp} : ∀ (ds : List PyData) (vs : List V), DtAll H vs ds → TgAll p H vs (tgDs ds)
  | [], _, h => by cases h; exact .nil
  | d :: ds, _, h => by
    cases h with
    | cons h1 h2 => exact .cons (Dt.tg d _ h1) (DtAll.tg ds _ h2)
end
theorem tgDs_map : ∀ ds : List PyData, tgDs ds = ds.map tgD
  | [] => rfl
  | d :: ds => by rw [tgDs, tgDs_map ds, List.map_cons]
theorem tgD_tup {α : Type} (f : α → PyData) (l : List α) : tgD (.tuple (l.map f)) = .tup (l.map fun x => tgD (f x)) := by
  rw [tgD, tgDs_map, List.map_map]
  rfl
theorem tg_ws (ws : List Str) : tgD (dWs ws) = .tup (ws.map Tg.str) := tgD_tup PyData.str ws
theorem tg_fs (fs : List (List Str)) : tgD (dFs fs) = .tup (fs.map fun f => tgD (dWs f)) := tgD_tup dWs fs
theorem tg_f1 (x : Fm1) : tgD (dF1 x) = .tup [.str x.1, tgD (dFs x.2)] := rfl
theorem tg_fm (fm : List Fm1) : tgD (dFm fm) = .tup (fm.map fun x => tgD (dF1 x)) := tgD_tup dF1 fm
theorem toWs_tg (ws : List Str) : (tgD (dWs ws)).toWs = ws := by
  rw [tg_ws]
  show (ws.map Tg.str).map Tg.toS = ws
  rw [List.map_map]
  exact map_same (fun _ => rfl) _
theorem toFs_tg (fs : List (List Str)) : (tgD (dFs fs)).toFs = fs := by
  rw [tg_fs]
  show (fs.map fun f => tgD (dWs f)).map Tg.toWs = fs
  rw [List.map_map]
  exact map_same toWs_tg _
theorem toF1_tg (x : Fm1) : (tgD (dF1 x)).toF1 = x := by
  rw [tg_f1]
  show (x.1, (tgD (dFs x.2)).toFs) = x
  rw [toFs_tg]
theorem toFm_tg (fm : List Fm1) : (tgD (dFm fm)).toFm = fm := by
  rw [tg_fm]
  show (fm.map fun f => tgD (dF1 f)).map Tg.toF1 = fm
  rw [List.map_map]
  exact map_same toF1_tg _
abbrev WsOk (ws : List Str) : Prop := ∀ y ∈ ws, wordS y = true
theorem words_tg {ws : List Str} (h : WsOk ws) {lo hi : Int} (h1 : lo ≤ (ws.length : Int)) (h2 : (ws.length : Int) ≤ hi) : (tgD (dWs ws)).words lo hi = true := by
  rw [tg_ws]
  unfold Tg.words
  rw [Bool.and_eq_true, Bool.and_eq_true, List.length_map]
  refine ⟨decide_eq_true h1, decide_eq_true h2, List.all_eq_true.mpr fun t ht => ?_⟩
  obtain ⟨y, hy, rfl⟩ := List.mem_map.mp ht
  exact h y hy
theorem sm_ws {ws : List Str} (h : WsOk ws) : (tgD (dWs ws)).sm = true := by
  rw [tg_ws, Tg.sm]
  refine Tg.smAll_of fun t ht => ?_
  obtain ⟨y, hy, rfl⟩ := List.mem_map.mp ht
  rw [Tg.sm]
  exact decide_eq_true (Nat.le_trans (wordS_len (h y hy)) (by decide))
structure GFm (fm : List Fm1) : Prop where
  ok : FmOk fm
  short : ∀ x ∈ fm, wordS x.1 = true
  full : ∀ x ∈ fm, ∀ f ∈ x.2, WsOk f
theorem fulls_tg {fs : List (List Str)} (h : FsOk fs) (hw : ∀ f ∈ fs, WsOk f) : (tgD (dFs fs)).fulls = true := by
  rw [tg_fs]
  unfold Tg.fulls
  rw [Bool.and_eq_true, Bool.and_eq_true, Bool.and_eq_true, List.length_map]
  have := List.length_pos_iff.mpr h.pos
  have := h.few
  refine ⟨decide_eq_true (by omega), decide_eq_true (by omega), List.all_eq_true.mpr fun t ht => ?_, ?_⟩
  · obtain ⟨f, hf, rfl⟩ := List.mem_map.mp ht
    have h1 := h.ws f hf
    have := List.length_pos_iff.mpr h1.1
    have := h1.2
    exact words_tg (hw f hf) (by omega) (by omega)
  · rw [List.map_map]
    refine risD_of ?_
    have e : (fs.map ((fun t : Tg => dWs t.toWs) ∘ fun f => tgD (dWs f))) = fs.map dWs := List.map_congr_left fun f _ => by
      show dWs (tgD (dWs f)).toWs = dWs f
      rw [toWs_tg]
    rw [e]
    exact h.up
theorem sm_fs {fs : List (List Str)} (hw : ∀ f ∈ fs, WsOk f) : (tgD (dFs fs)).sm = true := by
  rw [tg_fs, Tg.sm]
  refine Tg.smAll_of fun t ht => ?_
  obtain ⟨f, hf, rfl⟩ := List.mem_map.mp ht
  exact sm_ws (hw f hf)
theorem GFm.forms {fm : List Fm1} (h : GFm fm) : (tgD (dFm fm)).forms = true := by
  rw [tg_fm]
  unfold Tg.forms
  rw [Bool.and_eq_true, Bool.and_eq_true, List.length_map]
  have := h.ok.few
  refine ⟨decide_eq_true (by omega), List.all_eq_true.mpr fun t ht => ?_, ?_⟩
  · obtain ⟨x, hx, rfl⟩ := List.mem_map.mp ht
    rw [tg_f1]
    show ((Tg.str x.1).word && (tgD (dFs x.2)).fulls) = true
    rw [Bool.and_eq_true]
    exact ⟨h.short x hx, fulls_tg (h.ok.fs x hx) (h.full x hx)⟩
  · rw [List.map_map]
    refine risD_of ?_
    have e : (fm.map ((fun t : Tg => PyData.str t.toF1.1) ∘ fun f => tgD (dF1 f))) = fm.map fun x => .str x.1 := List.map_congr_left fun f _ => by
      show PyData.str (tgD (dF1 f)).toF1.1 = _
      rw [toF1_tg]
    rw [e]
    exact h.ok.up
theorem GFm.sm {fm : List Fm1} (h : GFm fm) : (tgD (dFm fm)).sm = true := by
  rw [tg_fm, Tg.sm]
  refine Tg.smAll_of fun t ht => ?_
  obtain ⟨x, hx, rfl⟩ := List.mem_map.mp ht
  rw [tg_f1, Tg.sm]
  refine Tg.smAll_of fun t ht => ?_
  rcases List.mem_cons.mp ht with rfl | ht
  · rw [Tg.sm]
    exact decide_eq_true (Nat.le_trans (wordS_len (h.short x hx)) (by decide))
  · rw [List.mem_singleton.mp ht]
    exact sm_fs (h.full x hx)
/-- forms as drawn -/
structure AFm (fm : List Fm1) : Prop where
  ok : FmOk fm
  few : fm.length ≤ 4
  short : ∀ x ∈ fm, x.1 ∈ abL
  full : ∀ x ∈ fm, ∀ f ∈ x.2, ∀ y ∈ f, y ∈ abL
theorem AFm.g {fm : List Fm1} (h : AFm fm) : GFm fm := ⟨h.ok, fun x hx => abL_ok _ (h.short x hx), fun x hx f hf y hy => abL_ok _ (h.full x hx f hf y hy)⟩
/-! order of texts, of tuples of texts -/
theorem str_total {x y : Str} (h1 : ¬ x.cps.toList < y.cps.toList) (h2 : ¬ y.cps.toList < x.cps.toList) : x = y := str_of_cps (List.le_antisymm h2 h1)
theorem listLt_total : ∀ {a b : List Str}, listLt a b = false → listLt b a = false → a = b
  | [], [], _, _ => rfl
  | [], _ :: _, h, _ => by cases h
  | _ :: _, [], _, h => by cases h
  | x :: a, y :: b, h1, h2 => by
    unfold listLt at h1 h2
    by_cases e : x = y
    · subst e
      rw [if_pos rfl] at h1 h2
      rw [listLt_total h1 h2]
    · rw [if_neg e] at h1
      rw [if_neg (fun z => e z.symm)] at h2
      exact absurd (str_total (of_decide_eq_false h1) (of_decide_eq_false h2)) e
theorem dWs_lt (a b : List Str) : dataLt (dWs a) (dWs b) = listLt a b := DatumOrd.lt_eq (α := Tup Str) ⟨a⟩ ⟨b⟩
theorem dWs_up {a b : List Str} (h : dataLt (dWs b) (dWs a) = false) (n : a ≠ b) : dataLt (dWs a) (dWs b) = true := by
  cases e : dataLt (dWs a) (dWs b) with
  | true => rfl
  | false =>
    rw [dWs_lt] at h e
    exact absurd (listLt_total e h) n
section
variable {P : Program} {w : World} {K : PySem.W.Frag} {mg : Str → Option Value} {base : Heap}
abbrev CDrP (P : Program) (w : World) (K : PySem.W.Frag) (mg : Str → Option Value) (base : Heap) (k : Nat) := CallOk P w K mg base k "_law_draw" ["_law_pen_here", "_law_bound"] spDraw
theorem ab_join {xs : List V} (h1 : 1 ≤ xs.length) (h2 : xs.length ≤ 2) (h : ∀ x ∈ xs, x = .str "a" ∨ x = .str "b") : ∃ ys : List Str, xs = ys.map V.str ∧ (ys.map (·.length)).sum + ys.length * (0 : Nat) ≤ 16777216 ∧ Txt.join "" ys ∈ abL := by
  match xs, h1, h2, h with
  | [x], _, _, h =>
    rcases h x (by simp) with rfl | rfl
    · exact ⟨["a"], rfl, by decide, by decide⟩
    · exact ⟨["b"], rfl, by decide, by decide⟩
  | [x, y], _, _, h =>
    rcases h x (by simp) with rfl | rfl <;> rcases h y (by simp) with rfl | rfl
    · exact ⟨["a", "a"], rfl, by decide, by decide⟩
    · exact ⟨["a", "b"], rfl, by decide, by decide⟩
    · exact ⟨["b", "a"], rfl, by decide, by decide⟩
    · exact ⟨["b", "b"], rfl, by decide, by decide⟩
abbrev sLWord : Stmt := topS 36
abbrev nLWord : List Str := ["_law_pen_here", "_law_turn"]
abbrev pLWord : List Str := ["_law_pen_here"]
theorem scLWord : FnScope nLWord pLWord (defScope sLWord) := ⟨rfl, rfl, rfl, by decide +kernel, rfl, by decide +kernel, by decide +kernel⟩
def spLWord : Sp := fun vs H Q _ => ∃ (p : Addr), vs = [.ref p] ∧ PenAt H p ∧ ∀ x H', Kp p H H' → PenAt H' p → x ∈ abL → Q (.str x) H'
theorem ok_LWord {f : Addr} {fd : FuncData} {k : Nat} (F : Fun K "_law_word" "_law_word" sLWord f fd) (C__law_draw : CDrP P w K mg base k) (m_range : mg "range" = none) : FnOk P w K mg base CX0 (k + 1) f fd pLWord spLWord := by
  refine F.ok scLWord (fun vs H Q E h => ?_) (fun cdv A outer s H vs Q E hr h => ?_)
  · obtain ⟨p, rfl, _⟩ := h
    rfl
  · obtain ⟨p, rfl, hP, q⟩ := h
    have nd := scLWord.nd
    refine ⟨_, pss_one (ps_ret (pe_bm PySem.F.plainAttrs_str PySem.F.slot_str_join PySem.F.type_str_join mt_join pe_str (pa_cons (pe_lc (own := [("_law_turn", 1)]) (g := gName 1) (by rfl) nd (pi_range1 rfl m_range (pa_cons (pe_op op_add pe_int (pe_call C__law_draw.ok hr (by rfl) C__law_draw.g C__law_draw.kp C__law_draw.b .nil pass0 (pa_cons (pv 0) (pa_cons pe_int pa_nil)))) pa_nil)) (blkOk_by (own := [("_law_turn", 1)]) (N := nLWord) (sc := defScope sLWord) (by decide +kernel)) (fun _ _ _ _ _ => (pg_name (i := 1) nd rfl (.inl rfl))) (fun _ _ _ _ _ => pts_nil)
          (fun _ _ _ _ _ => (pe_ix ix_str pe_str (pe_call C__law_draw.ok hr (by rfl) C__law_draw.g C__law_draw.kp C__law_draw.b .nil pass0 (pa_cons (pv 0) (pa_cons pe_int pa_nil))) (fun _ _ => rfl)))) pa_nil))), ?_⟩
    refine ⟨rfl, _, rfl, p, 2, rfl, hP, by decide, by decide, fun d H1 k1 P1 a1 b1 => ?_⟩
    refine ⟨_, _, rfl, rfl, _, rfl, by omega, by omega, fun M nM => ?_⟩
    refine lc_pen P1 nM (fun _ v => v = .str "a" ∨ v = .str "b") (fun _ h => h) (by omega) ?_ ?_
    · rintro i H2 hi k2 P2 Q1 q1
      refine ⟨rfl, ?_⟩
      refine ⟨_, rfl, p, 2, rfl, P2, by decide, by decide, fun c H3 k3 P3 a3 b3 => ?_⟩
      have hc : c = 0 ∨ c = 1 := by omega
      rcases hc with rfl | rfl
      · exact ⟨_, _, 97, rfl, rfl, by decide, rfl, q1 _ H3 k3 P3 (.inl rfl)⟩
      · exact ⟨_, _, 98, rfl, rfl, by decide, rfl, q1 _ H3 k3 P3 (.inr rfl)⟩
    · intro H2 xs k2 P2 eM hl hx
      obtain ⟨ys, rfl, h2, h3⟩ := ab_join (by omega) (by omega) hx
      exact ⟨_, M, ys, rfl, rfl, .inl (SqL.of eM), h2, q _ H2 (k1.trans k2) P2 h3⟩
end
end Deed

namespace Deed
open PySem PySem.Spec PySem.W PyProof.Rows L2 L2.DX LamX RZ
/-! ### tuple(sorted(set(xs))) of a few tuples of texts; drawn forms -/
theorem PenAt.same1 {H H' : Hp} {p : Addr} (h : PenAt H p) (s : Same H H') : PenAt H' p := by
  obtain ⟨x1, x2, x3, x4, z1, z2⟩ := h
  exact ⟨x1, x2, x3, x4, s _ _ z1, z2⟩
section
variable {P : Program} {w : World} {K : PySem.W.Frag} {mg : Str → Option Value} {base : Heap}
theorem setSortTup {H : Hp} {l : Addr} {ks : List (Addr × List Str)} {Q : VK} (hl : SqL K H l (ks.map fun z => V.ref z.1)) (hk : ∀ z ∈ ks, H z.1 = some (.tup (z.2.map V.str))) (ne : ∀ z ∈ ks, z.2 ≠ []) (few : ks.length ≤ 4)
    (q : ∀ (t : Addr) (H' : Hp) (L : List (Addr × List Str)), Same H H' → H' t = some (.tup (L.map fun z => .ref z.1)) → (∀ z ∈ L, z ∈ ks) → (∀ z ∈ ks, z.2 ∈ L.map (·.2)) → ((L.map (·.2)).map dWs).Pairwise (fun a b => dataLt a b = true) → (L.map (·.2)).Nodup → Q (.ref t) H') :
    rSetTs K P w [V.ref l] H fun v H1 => rSortTs K P w [v] H1 fun v2 H2 => rTupOf K [v2] H2 Q := by
  refine ⟨l, ks, rfl, hl, fun z hz => SqT.of (hk z hz), few, fun a L na from_ has nd => ?_⟩
  have s1 := same_new na (SetS P w a L)
  have e1 : (upd H a (SetS P w a L)) a = some (SetS P w a L) := upd_same
  have hk1 : ∀ z ∈ ks, SqT K (upd H a (SetS P w a L)) z.1 (z.2.map V.str) := fun z hz => SqT.of (s1 _ _ (hk z hz))
  generalize (upd H a (SetS P w a L)) = H1 at s1 e1 hk1
  refine ⟨a, L, rfl, e1, fun z hz => ⟨hk1 z (from_ z hz), ne z (from_ z hz)⟩, fun L' p pm up np => ?_⟩
  have s2 := same_new np (.lst (L'.map fun z => V.ref z.1))
  have e2 : (upd H1 p (.lst (L'.map fun z => V.ref z.1))) p = some (.lst (L'.map fun z => V.ref z.1)) := upd_same
  generalize (upd H1 p (.lst (L'.map fun z => V.ref z.1))) = H2 at s2 e2
  have nd' : (L'.map (·.2)).Nodup := ((pm.map _).nodup_iff).mpr nd
  refine ⟨p, _, rfl, SqL.of e2, fun t nt => q t _ L' (s1.trans (s2.trans (same_new nt _))) upd_same (fun z hz => from_ z (pm.mem_iff.mp hz)) (fun z hz => ((pm.map (·.2)).mem_iff).mpr (has z hz)) ?_ nd'⟩
  rw [List.map_map]
  refine List.pairwise_map.mpr ?_
  refine (up.and (List.pairwise_map.mp nd')).imp fun {a b} h => ?_
  exact dWs_up h.1 h.2
theorem fsOk_made {ks L : List (Addr × List Str)} (hL : ∀ z ∈ L, z ∈ ks) (hK : ∀ z ∈ ks, z.2 ∈ L.map (·.2)) (up : ((L.map (·.2)).map dWs).Pairwise (fun a b => dataLt a b = true)) (nd : (L.map (·.2)).Nodup) (k0 : ks ≠ []) (k3 : ks.length ≤ 3) (kw : ∀ z ∈ ks, z.2 ≠ [] ∧ z.2.length ≤ 3) : FsOk (L.map (·.2)) := by
  refine ⟨fun e => ?_, ?_, fun f hf => ?_, up⟩
  · cases ks with
    | nil => exact k0 rfl
    | cons z r =>
      have := hK z List.mem_cons_self
      rw [e] at this
      cases this
  · have := nodup_lenK (m := ks.map (·.2)) nd fun f hf => by
      obtain ⟨z, hz, rfl⟩ := List.mem_map.mp hf
      exact List.mem_map.mpr ⟨z, hL z hz, rfl⟩
    rw [List.length_map (as := ks)] at this
    omega
  · obtain ⟨z, hz, rfl⟩ := List.mem_map.mp hf
    exact kw z (hL z hz)
/-- an item of a dict of texts, in its place or at the end -/
def putZ (zs : List ItE) (y : ItE) : List ItE := if (zs.any fun z => decide (z.1 = y.1)) = true then zs.map (fun z => if z.1 = y.1 then y else z) else zs ++ [y]
theorem putZ_put (zs : List ItE) (y : ItE) : (putZ zs y).map itKv = putK (zs.map itKv) (.inr y.1) y.2.1 := by
  have e : ((zs.map itKv).any fun kv => decide (kv.1 = .inr y.1)) = zs.any fun z => decide (z.1 = y.1) := by
    rw [List.any_map]
    congr 1
    funext z
    exact decide_eq_decide.mpr ⟨fun h => (by injection h), fun h => congrArg Sum.inr h⟩
  unfold putZ putK
  rw [e]
  by_cases h : (zs.any fun z => decide (z.1 = y.1)) = true
  · rw [if_pos h, if_pos h, List.map_map, List.map_map]
    refine List.map_congr_left fun z _ => ?_
    show itKv (if z.1 = y.1 then y else z) = if (itKv z).1 = .inr y.1 then ((itKv z).1, y.2.1) else itKv z
    by_cases hz : z.1 = y.1
    · rw [if_pos hz, if_pos (congrArg Sum.inr hz)]
      show (Sum.inr y.1, y.2.1) = (Sum.inr z.1, y.2.1)
      rw [hz]
    · rw [if_neg hz, if_neg (fun q => hz (by injection q))]
  · rw [if_neg h, if_neg h, List.map_append]
    rfl
theorem putZ_mem {zs : List ItE} {y z : ItE} (h : z ∈ putZ zs y) : z ∈ zs ∨ z = y := by
  unfold putZ at h
  by_cases c : (zs.any fun z => decide (z.1 = y.1)) = true
  · rw [if_pos c] at h
    obtain ⟨x, hx, e⟩ := List.mem_map.mp h
    by_cases hz : x.1 = y.1
    · rw [if_pos hz] at e
      exact .inr e.symm
    · rw [if_neg hz] at e
      exact .inl (e ▸ hx)
  · rw [if_neg c, List.mem_append, List.mem_singleton] at h
    exact h
theorem putZ_nd {zs : List ItE} {y : ItE} (h : (zs.map (·.1)).Nodup) : ((putZ zs y).map (·.1)).Nodup := by
  unfold putZ
  by_cases c : (zs.any fun z => decide (z.1 = y.1)) = true
  · rw [if_pos c, List.map_map]
    have e : (zs.map ((fun z : ItE => z.1) ∘ fun z => if z.1 = y.1 then y else z)) = zs.map (·.1) := List.map_congr_left fun z _ => by
      show (if z.1 = y.1 then y else z).1 = z.1
      by_cases hz : z.1 = y.1
      · rw [if_pos hz, hz]
      · rw [if_neg hz]
    rw [e]
    exact h
  · rw [if_neg c, List.map_append]
    refine nd_snoc h fun hm => c ?_
    obtain ⟨z, hz, e⟩ := List.mem_map.mp hm
    exact List.any_eq_true.mpr ⟨z, hz, decide_eq_true e⟩
theorem putZ_len (zs : List ItE) (y : ItE) : (putZ zs y).length ≤ zs.length + 1 := by
  unfold putZ
  by_cases c : (zs.any fun z => decide (z.1 = y.1)) = true
  · rw [if_pos c, List.length_map]
    omega
  · rw [if_neg c, List.length_append]
    exact Nat.le_refl _
/-- an item of the forms -/
def ItF (H : Hp) (z : ItE) : Prop := z.1 ∈ abL ∧ ∃ fs, z.2.2 = dFs fs ∧ FsOk fs ∧ (∀ f ∈ fs, ∀ y ∈ f, y ∈ abL) ∧ Dt H z.2.1 z.2.2
theorem ItF.kp {H H' : Hp} {z : ItE} (h : ItF H z) (k : KpT H H') : ItF H' z := by
  obtain ⟨h1, fs, h2, h3, h4, h5⟩ := h
  exact ⟨h1, fs, h2, h3, h4, Dt.kp k _ _ h5⟩
theorem alike_dWs : ∀ xs ys : List (List Str), alikeAll (xs.map dWs) (ys.map dWs) = true
  | [], _ => by simp [alikeAll]
  | _ :: _, [] => by simp [alikeAll]
  | x :: xs, y :: ys => by
    rw [List.map_cons, List.map_cons, alikeAll, alike_ws, alike_dWs xs ys]
    rfl
theorem depth_fs (fs : List (List Str)) : (dFs fs).depth ≤ 8 := by
  have : ∀ l : List (List Str), PyData.depthAll (l.map dWs) ≤ 1 := fun l => by
    induction l with
    | nil => simp [PyData.depthAll]
    | cons x r ih =>
      have := depth_ws x
      rw [List.map_cons, PyData.depthAll]
      omega
  have := this fs
  simp only [dFs, PyData.depth]
  omega
/-- forms out of the items, in order -/
theorem afm_made {H : Hp} {ps : List (Addr × ItE)} (hp : ∀ z ∈ ps, H z.1 = some (.tup [.str z.2.1, z.2.2.1]) ∧ ItF H z.2) (up : ps.Pairwise (fun y z => y.2.1.cps.toList < z.2.1.cps.toList)) (few : ps.length ≤ 4) : ∃ fm, DtAll H (ps.map fun z => .ref z.1) (fm.map dF1) ∧ AFm fm := by
  have key : ∀ ps : List (Addr × ItE), (∀ z ∈ ps, H z.1 = some (.tup [.str z.2.1, z.2.2.1]) ∧ ItF H z.2) → ∃ fm : List Fm1, DtAll H (ps.map fun z => .ref z.1) (fm.map dF1) ∧ fm.map (·.1) = ps.map (·.2.1) ∧ ∀ x ∈ fm, x.1 ∈ abL ∧ FsOk x.2 ∧ ∀ f ∈ x.2, ∀ y ∈ f, y ∈ abL := by
    intro ps
    induction ps with
    | nil => exact fun _ => ⟨[], .nil, rfl, fun _ h => nomatch h⟩
    | cons z r ih =>
      intro h
      obtain ⟨fm, h1, h2, h3⟩ := ih fun y hy => h y (List.mem_cons_of_mem _ hy)
      obtain ⟨e, g1, fs, g2, g3, g4, g5⟩ := h z List.mem_cons_self
      rw [g2] at g5
      refine ⟨(z.2.1, fs) :: fm, .cons (.tup e (.cons (.str _) (.cons g5 .nil))) h1, by rw [List.map_cons, List.map_cons, h2], fun x hx => ?_⟩
      rcases List.mem_cons.mp hx with rfl | hx
      · exact ⟨g1, g3, g4⟩
      · exact h3 x hx
  obtain ⟨fm, h1, h2, h3⟩ := key ps hp
  have hl : fm.length = ps.length := by
    have := congrArg List.length h2
    rw [List.length_map, List.length_map] at this
    exact this
  refine ⟨fm, h1, ⟨by omega, ?_, fun x hx => (h3 x hx).2.1⟩, by omega, fun x hx => (h3 x hx).1, fun x hx => (h3 x hx).2.2⟩
  have e : (fm.map fun x => PyData.str x.1) = (ps.map fun z => PyData.str z.2.1) := by
    have := congrArg (List.map PyData.str) h2
    rw [List.map_map, List.map_map] at this
    exact this
  rw [e]
  refine List.pairwise_map.mpr (up.imp fun {a b} h => ?_)
  rw [dataLt_str]
  exact decide_eq_true h
abbrev sLForms : Stmt := topS 37
abbrev nLForms : List Str := ["_law_pen_here", "_law_found", "_law_turn", "_law_fulls_here", "_law_more", "_law_one"]
abbrev pLForms : List Str := ["_law_pen_here"]
theorem scLForms : FnScope nLForms pLForms (defScope sLForms) := ⟨rfl, rfl, rfl, by decide +kernel, rfl, by decide +kernel, by decide +kernel⟩
def spLForms : Sp := fun vs H Q _ => ∃ (p : Addr), vs = [.ref p] ∧ PenAt H p ∧ ∀ t H' fm, Kp p H H' → PenAt H' p → AFm fm → Dt H' (.ref t) (dFm fm) → Q (.ref t) H'
theorem ok_LForms {f : Addr} {fd : FuncData} {k : Nat} (F : Fun K "_law_forms" "_law_forms" sLForms f fd) (C__law_draw : CDrP P w K mg base k) (C__law_word : CallOk P w K mg base k "_law_word" pLWord spLWord) (m_range : mg "range" = none) (m_tuple : mg "tuple" = none) (m_set : mg "set" = none) (m_sorted : mg "sorted" = none) : FnOk P w K mg base CX0 (k + 1) f fd pLForms spLForms := by
  refine F.ok scLForms (fun vs H Q E h => ?_) (fun cdv A outer s H vs Q E hr h => ?_)
  · obtain ⟨p, rfl, _⟩ := h
    rfl
  · obtain ⟨p, rfl, hP, q⟩ := h
    have nd := scLForms.nd
    have hu := hu_of hr
    refine ⟨_, pss_cons (ps_set (i := 1) nd rfl (.inl rfl) pe_dnewK)
      (pss_cons (ps_for PassesOwn.never rfl (pi_range1 rfl m_range (pa_cons (pe_call C__law_draw.ok hr (by rfl) C__law_draw.g C__law_draw.kp C__law_draw.b .nil pass0 (pa_cons (pv 0) (pa_cons pe_int pa_nil))) pa_nil)) (pg_name (i := 2) nd rfl (.inl rfl))
        (pss_cons (ps_set (i := 3) nd rfl (.inl rfl) (pe_lst pa_nil))
      (pss_cons (ps_for PassesOwn.never rfl (pi_range1 rfl m_range (pa_cons (pe_op op_add pe_int (pe_call C__law_draw.ok hr (by rfl) C__law_draw.g C__law_draw.kp C__law_draw.b .nil pass0 (pa_cons (pv 0) (pa_cons pe_int pa_nil)))) pa_nil)) (pg_name (i := 4) nd rfl (.inl rfl))
        (pss_one (ps_expr (pe_bm PySem.F.plainAttrs_list PySem.F.slot_list_append PySem.F.type_list_append mt_append (pv 3) (pa_cons (pe_callTy (call_tupOf (K := K) (by rfl)) (by rfl) m_tuple (by decide +kernel) (pa_cons (pe_lc (own := [("_law_one", 5)]) (g := gName 5) (by rfl) nd (pi_range1 rfl m_range (pa_cons (pe_op op_add pe_int (pe_call C__law_draw.ok hr (by rfl) C__law_draw.g C__law_draw.kp C__law_draw.b .nil pass0 (pa_cons (pv 0) (pa_cons pe_int pa_nil)))) pa_nil)) (blkOk_by (own := [("_law_one", 5)]) (N := nLForms) (sc := defScope sLForms) (by decide +kernel)) (fun _ _ _ _ _ => (pg_name (i := 5) nd rfl (.inl rfl))) (fun _ _ _ _ _ => pts_nil)
          (fun _ _ _ _ _ => (pe_call C__law_word.ok hr (by rfl) C__law_word.g C__law_word.kp C__law_word.b .nil pass0 (pa_cons (pv 0) pa_nil)))) pa_nil)) pa_nil)))))
      (pss_one (ps_dput hu (pv 1) (pe_call C__law_word.ok hr (by rfl) C__law_word.g C__law_word.kp C__law_word.b .nil pass0 (pa_cons (pv 0) pa_nil)) (pe_callTy (call_tupOf (K := K) (by rfl)) (by rfl) m_tuple (by decide +kernel) (pa_cons (pe_callB (cr_sortTs (by rfl) hr.units) (by rfl) m_sorted (by decide +kernel) (pa_cons (pe_callTy (cr_setTs (by rfl) hr.units) (by rfl) m_set (by decide +kernel) (pa_cons (pv 3) pa_nil)) pa_nil)) pa_nil)) rfl)))))
      (pss_one (ps_ret (pe_callTy (call_tupOf (K := K) (by rfl)) (by rfl) m_tuple (by decide +kernel) (pa_cons (pe_callB (cr_sortItK (by rfl) hr.units) (by rfl) m_sorted (by decide +kernel) (pa_cons (pe_bm0 PySem.F.plainAttrs_dict PySem.F.slot_dict_items PySem.F.type_dict_items mt_itemsK (pv 1)) pa_nil)) pa_nil))))), ?_⟩
    refine fun d1 nd1 => ?_
    have d1p : d1 ≠ p := hP.free nd1
    refine ⟨_, rfl, p, 5, rfl, hP.new nd1 _, by decide, by decide, fun m H1 k1 P1 a1 b1 => ?_⟩
    refine ⟨_, rfl, by omega, by omega, ?_⟩
    have ed1 : H1 d1 = some (.dK []) := k1 _ _ d1p upd_same
    have k01 : Kp p H H1 := (Kp.new nd1 _).trans k1
    refine for_range (fun i σ H' => ∃ y2 y3 y4 y5 zs, σ = [some (.ref p), some (.ref d1), y2, y3, y4, y5] ∧ Kp p H H' ∧ PenAt H' p ∧ H' d1 = some (.dK (zs.map itKv)) ∧ (zs.map (·.1)).Nodup ∧ zs.length ≤ i ∧ ∀ z ∈ zs, ItF H' z) ⟨_, _, _, _, [], rfl, k01, P1, ed1, List.nodup_nil, Nat.le_refl _, fun _ h => nomatch h⟩ ?_ ?_
    · rintro i σ H2 hi ⟨y2, y3, y4, y5, zs, rfl, k2, P2, e2, nd2, l2, hz2⟩
      refine ⟨Nat.zero_le _, fun l nl => ?_⟩
      have lp : l ≠ p := P2.free nl
      have ld : l ≠ d1 := fun z => by rw [z, e2] at nl; cases nl
      have s3 := same_new nl (.lst [])
      have e3 : (upd H2 l (.lst [])) l = some (.lst []) := upd_same
      have P3 := P2.new nl (.lst [])
      have k3 : Kp p H2 (upd H2 l (.lst [])) := Kp.new nl _
      generalize (upd H2 l (.lst [])) = H3 at s3 e3 P3 k3
      refine ⟨_, rfl, p, 3, rfl, P3, by decide, by decide, fun m2 H4 k4 P4 a4 b4 => ?_⟩
      refine ⟨_, _, rfl, rfl, _, rfl, by omega, by omega, ?_⟩
      have k24 := k3.trans k4
      refine for_range (fun j σ H' => ∃ y4 y5 ks, σ = [some (.ref p), some (.ref d1), some (.int (0 + (i : Int))), some (.ref l), y4, y5] ∧ Kp p H2 H' ∧ PenAt H' p ∧ H' l = some (.lst (ks.map fun z : Addr × List Str => .ref z.1)) ∧ ks.length = j ∧ (∀ z ∈ ks, H' z.1 = some (.tup (z.2.map V.str)) ∧ z.2 ≠ [] ∧ z.2.length ≤ 3 ∧ ∀ y ∈ z.2, y ∈ abL)) ⟨_, _, [], rfl, k24, P4, k4 _ _ lp e3, rfl, fun _ h => nomatch h⟩ ?_ ?_
      · rintro j σ H5 hj ⟨y4, y5, ks, rfl, k5, P5, e5, l5, hz5⟩
        refine ⟨_, rfl, .inl ⟨rfl, _, SqL.of e5⟩, _, rfl, p, 3, rfl, P5, by decide, by decide, fun m3 H6 k6 P6 a6 b6 => ?_⟩
        refine ⟨_, _, rfl, rfl, _, rfl, by omega, by omega, fun M nM => ?_⟩
        refine lc_pen P6 nM (fun _ v => ∃ x ∈ abL, v = .str x) (fun _ h => h) (by omega) ?_ ?_
        · rintro i7 H7 hi7 k7 P7 Q1 q1
          exact ⟨rfl, _, rfl, p, rfl, P7, fun x H8 k8 P8 hx => q1 _ H8 k8 P8 ⟨x, hx, rfl⟩⟩
        · intro H7 xs k7 P7 eM hl hx
          obtain ⟨ws, rfl, hws⟩ : ∃ ws : List Str, xs = ws.map V.str ∧ ∀ y ∈ ws, y ∈ abL := by
            clear hl eM
            induction xs with
            | nil => exact ⟨[], rfl, fun _ h => nomatch h⟩
            | cons v r ih =>
              obtain ⟨x, h1, rfl⟩ := hx v List.mem_cons_self
              obtain ⟨ws, rfl, h2⟩ := ih fun y hy => hx y (List.mem_cons_of_mem _ hy)
              exact ⟨x :: ws, rfl, fun y hy => (List.mem_cons.mp hy).elim (fun e => e ▸ h1) (h2 y)⟩
          rw [List.length_map] at hl
          have k57 := k6.trans k7
          refine ⟨M, _, rfl, SqL.of eM, fun t nt => ?_⟩
          have s8 := same_new nt (.tup (ws.map V.str))
          have e8 : (upd H7 t (.tup (ws.map V.str))) t = some (.tup (ws.map V.str)) := upd_same
          have P8 := P7.new nt (.tup (ws.map V.str))
          generalize (upd H7 t (.tup (ws.map V.str))) = H8 at s8 e8 P8
          have k58 : Kp p H5 H8 := k57.trans (Kp.same s8)
          have e58 := k58 _ _ lp e5
          refine ⟨l, _, _, rfl, rfl, e58, small1000 (by rw [List.length_map]; omega), ?_⟩
          have kp : KpT H8 (upd H8 l (.lst ((ks.map fun z => V.ref z.1) ++ [.ref t]))) := KpT.put e58 _
          refine ⟨_, _, ks ++ [(t, ws)], rfl, (k5.trans k58).over1 nl _, P8.put1 lp _, ?_, by rw [List.length_append, l5]; rfl, fun z hz => ?_⟩
          · rw [upd_same, List.map_append]
            rfl
          · rcases List.mem_append.mp hz with h | h
            · obtain ⟨g1, g2⟩ := hz5 z h
              exact ⟨kp _ _ (k58.tup P5 _ _ g1), g2⟩
            · rw [List.mem_singleton.mp h]
              refine ⟨kp _ _ e8, fun z => ?_, (by show ws.length ≤ 3; omega), hws⟩
              have : ws = [] := z
              rw [this] at hl
              simp at hl
              omega
      · rintro σ H5 ⟨y4, y5, ks, rfl, k5, P5, e5, l5, hz5⟩
        refine ⟨_, rfl, ?_⟩
        dsimp only [tNil]
        refine setSortTup (SqL.of e5) (fun z hz => (hz5 z hz).1) (fun z hz => (hz5 z hz).2.1) (by omega) fun t H6 L s6 e6 hL hK up ndL => ?_
        have k6 : Kp p H2 H6 := k5.trans (Kp.same s6)
        refine ⟨_, rfl, _, rfl, p, rfl, P5.same1 s6, fun x H7 k7 P7 hx => ?_⟩
        have k27 := k6.trans k7
        have e27 := k27 _ _ d1p e2
        have fsk : FsOk (L.map (·.2)) := fsOk_made hL hK up ndL (fun z => by rw [z] at l5; simp at l5; omega) (by omega) fun z hz => ⟨(hz5 z hz).2.1, (hz5 z hz).2.2.1⟩
        have hD : Dt H7 (.ref t) (dFs (L.map (·.2))) := by
          refine .tup (k7.tup (P5.same1 s6) _ _ e6) ?_
          rw [List.map_map]
          exact DtAll.refs (enc := dWs) fun z hz => .tup (k7.tup (P5.same1 s6) _ _ (s6 _ _ (hz5 z (hL z hz)).1)) (DtAll.strs _)
        refine ⟨d1, _, rfl, DPut.k (k := .inr x) e27 (small1000 (by rw [List.length_map]; omega)), ?_⟩
        have hy : putK (zs.map itKv) (.inr x) (.ref t) = (putZ zs (x, .ref t, dFs (L.map (·.2)))).map itKv := (putZ_put zs (x, .ref t, dFs (L.map (·.2)))).symm
        rw [hy]
        have kp : KpT H7 (upd H7 d1 (.dK ((putZ zs (x, .ref t, dFs (L.map (·.2)))).map itKv))) := fun b us h => by
          rw [upd_ne (fun z => by rw [z, e27] at h; cases h)]
          exact h
        refine ⟨_, _, _, _, putZ zs (x, .ref t, dFs (L.map (·.2))), rfl, (k2.trans k27).over1 nd1 _, P7.put1 d1p _, upd_same, putZ_nd nd2, Nat.le_trans (putZ_len _ _) (by omega), fun z hz => ?_⟩
        rcases putZ_mem hz with h | h
        · exact ((hz2 z h).kp (k27.tup P2)).kp kp
        · rw [h]
          refine ItF.kp ⟨hx, _, rfl, fsk, fun f hf y hy => ?_, hD⟩ kp
          obtain ⟨z, hz, rfl⟩ := List.mem_map.mp hf
          exact (hz5 z (hL z hz)).2.2.2 y hy
    · rintro σ H2 ⟨y2, y3, y4, y5, zs, rfl, k2, P2, e2, nd2, l2, hz2⟩
      refine ⟨_, rfl, .inr (.inr (.inl ⟨rfl, .inl ⟨_, e2⟩⟩)), d1, _, rfl, rfl, e2, fun v nv => ?_⟩
      have s3 := same_new nv (itemsO v d1)
      have e3 : (upd H2 v (itemsO v d1)) v = some (itemsO v d1) := upd_same
      generalize (upd H2 v (itemsO v d1)) = H3 at s3 e3
      refine ⟨v, d1, zs, rfl, e3, s3 _ _ e2, nd2, fun z hz => ?_, fun z hz y hy => ?_, fun z hz => ?_, fun H4 l ps s4 nl pm up el hps => ?_⟩
      · obtain ⟨_, fs, _, _, _, g⟩ := (hz2 z hz).kp (Same.tup s3)
        exact g
      · obtain ⟨_, fs, g, _⟩ := hz2 z hz
        obtain ⟨_, fs', g', _⟩ := hz2 y hy
        rw [g, g']
        show alike (.tuple _) (.tuple _) = true
        rw [alike]
        exact alike_dWs _ _
      · obtain ⟨_, fs, g, _⟩ := hz2 z hz
        rw [g]
        exact depth_fs fs
      · have s24 := s3.trans s4
        have hpl : ps.length = zs.length := by
          have := pm.length_eq
          rw [List.length_map] at this
          exact this
        obtain ⟨fm, g1, g2⟩ := afm_made (H := H4) (fun z hz => ⟨hps z hz, (hz2 z.2 (pm.mem_iff.mp (List.mem_map.mpr ⟨z, hz, rfl⟩))).kp (Same.tup s24)⟩) up (by omega)
        refine ⟨l, _, rfl, SqL.of el, fun t nt => ?_⟩
        exact q t _ fm (k2.trans (Kp.same (s24.trans (same_new nt _)))) ((P2.same1 s24).new nt _) g2 (.tup upd_same (DtAll.kp (Same.tup (same_new nt _)) _ _ g1))
end
end Deed

namespace Deed
open PySem PySem.Spec PySem.W PyProof.Rows L2 L2.DX LamX RZ
/-! ### drawn drafts and copies -/
theorem strs_of {E : V → Prop} {xs : List V} (h : ∀ x ∈ xs, ∃ y ∈ abL, x = .str y) : ∃ ws : List Str, xs = ws.map V.str ∧ ∀ y ∈ ws, y ∈ abL := by
  induction xs with
  | nil => exact ⟨[], rfl, fun _ h => nomatch h⟩
  | cons v r ih =>
    obtain ⟨x, h1, rfl⟩ := h v List.mem_cons_self
    obtain ⟨ws, rfl, h2⟩ := ih fun y hy => h y (List.mem_cons_of_mem _ hy)
    exact ⟨x :: ws, rfl, fun y hy => (List.mem_cons.mp hy).elim (fun e => e ▸ h1) (h2 y)⟩
theorem fulF_ab {fm : List Fm1} (h : AFm fm) {w : Str} (hw : w ∈ abL) : ∀ f ∈ fulF fm w, ∀ y ∈ f, y ∈ abL := by
  unfold fulF
  cases e : fm.find? fun x => decide (x.1 = w) with
  | none =>
    intro f hf y hy
    have hf' : f ∈ [[w]] := hf
    rw [List.mem_singleton.mp hf'] at hy
    rw [List.mem_singleton.mp hy]
    exact hw
  | some x => exact h.full x (List.mem_of_find?_eq_some e)
section
variable {P : Program} {w : World} {K : PySem.W.Frag} {mg : Str → Option Value} {base : Heap}
abbrev sLDraft : Stmt := topS 38
abbrev nLDraft : List Str := ["_law_pen_here", "_law_forms_here", "_law_most", "_law_words", "_law_form", "_law_turn"]
abbrev pLDraft : List Str := ["_law_pen_here", "_law_forms_here", "_law_most"]
theorem scLDraft : FnScope nLDraft pLDraft (defScope sLDraft) := ⟨rfl, rfl, rfl, by decide +kernel, rfl, by decide +kernel, by decide +kernel⟩
def spLDraft : Sp := fun vs H Q _ => ∃ (p f : Addr) (most : Int) (fm : List Fm1), vs = [.ref p, .ref f, .int most] ∧ PenAt H p ∧ Dt H (.ref f) (dFm fm) ∧ AFm fm ∧ 0 ≤ most ∧ most ≤ 20 ∧ ∀ t H' (ds : List Str), Kp p H H' → PenAt H' p → H' t = some (.tup (ds.map V.str)) → (∀ y ∈ ds, y ∈ abL) → (ds.length : Int) ≤ most → Q (.ref t) H'
theorem ok_LDraft {f : Addr} {fd : FuncData} {k : Nat} (F : Fun K "_law_draft" "_law_draft" sLDraft f fd) (C__law_draw : CDrP P w K mg base k) (m_range : mg "range" = none) (m_len : mg "len" = none) (m_tuple : mg "tuple" = none) : FnOk P w K mg base CX0 (k + 1) f fd pLDraft spLDraft := by
  refine F.ok scLDraft (fun vs H Q E h => ?_) (fun cdv A outer s H vs Q E hr h => ?_)
  · obtain ⟨p, f, most, fm, rfl, _⟩ := h
    rfl
  · obtain ⟨p, fa, most, fm, rfl, hP, hF, hA, m0, m1, q⟩ := h
    have nd := scLDraft.nd
    refine ⟨_, pss_cons (ps_set (i := 3) nd rfl (.inr rfl) (pe_op op_cat (pe_lc (own := [("_law_form", 4)]) (g := gName 4) (by rfl) nd (pi_tup (pv 1)) (blkOk_by (own := [("_law_form", 4)]) (N := nLDraft) (sc := defScope sLDraft) (by decide +kernel)) (fun _ _ _ _ _ => (pg_name (i := 4) nd rfl (.inl rfl))) (fun _ _ _ _ _ => pts_nil)
          (fun _ _ _ _ _ => (pe_ix (ix_tupK (K := K) (by rfl)) (pv 4) pe_int (fun _ _ => rfl)))) (pe_lst (pa_cons pe_str (pa_cons pe_str (pa_cons pe_str pa_nil))))))
      (pss_one (ps_ret (pe_callTy (call_tupOf (K := K) (by rfl)) (by rfl) m_tuple (by decide +kernel) (pa_cons (pe_lc (own := [("_law_turn", 5)]) (g := gName 5) (by rfl) nd (pi_range1 rfl m_range (pa_cons (pe_call C__law_draw.ok hr (by rfl) C__law_draw.g C__law_draw.kp C__law_draw.b .nil pass0 (pa_cons (pv 0) (pa_cons (pe_op op_add (pv 2) pe_int) pa_nil))) pa_nil)) (blkOk_by (own := [("_law_turn", 5)]) (N := nLDraft) (sc := defScope sLDraft) (by decide +kernel)) (fun _ _ _ _ _ => (pg_name (i := 5) nd rfl (.inl rfl))) (fun _ _ _ _ _ => pts_nil)
          (fun _ _ _ _ _ => (pe_ix (ix_listK (K := K) (by rfl)) (pv 3) (pe_call C__law_draw.ok hr (by rfl) C__law_draw.g C__law_draw.kp C__law_draw.b .nil pass0 (pa_cons (pv 0) (pa_cons (pe_callB (len_seqK (K := K) (by rfl)) (by rfl) m_len (by decide +kernel) (pa_cons (pv 3) pa_nil)) pa_nil))) (fun _ _ => rfl)))) pa_nil)))), ?_⟩
    obtain ⟨xf, ef, hxf⟩ := hF.tref
    obtain ⟨zf, rfl, rfl, hzf⟩ := fm_refs hxf
    have hzl : zf.length ≤ 4 := by
      have := hA.few
      rw [List.length_map] at this
      exact this
    refine ⟨_, rfl, fa, rfl, ⟨_, SqT.of ef⟩, fun M nM => ?_⟩
    have Mp : M ≠ p := hP.free nM
    refine lc_sameM (walk_tup (xs := zf.map fun z => V.ref z.1)) zf (fun z => V.str z.2.2.1) (by rw [List.length_map]) (by omega) nM (fun H s => SqT.of (s _ _ ef)) ?_ ?_
    · rintro i z x H2' H2 hy s2 ⟨rfl, hx⟩ Q1 q1
      rw [List.getElem?_map, hy] at hx
      injection hx with hx
      subst hx
      exact ⟨rfl, _, rfl, z.1, _, 0, .str z.2.2.1, rfl, rfl, SqT.of (s2 _ _ (hzf z (List.mem_of_getElem? hy)).1), (atI_nat (j := 0) rfl), q1 _ (same_refl _)⟩
    intro H2 s2 eM
    have P2 := hP.same1 s2
    refine ⟨(by show 3 ≤ sizeLine; decide), fun l3 nl3 => ?_⟩
    have s3 := same_new nl3 (.lst [.str "a", .str "b", .str "ab"])
    have e3 : (upd H2 l3 (.lst [.str "a", .str "b", .str "ab"])) l3 = some (.lst [.str "a", .str "b", .str "ab"]) := upd_same
    generalize (upd H2 l3 (.lst [.str "a", .str "b", .str "ab"])) = H3 at s3 e3
    refine ⟨M, l3, _, _, rfl, rfl, s3 _ _ eM, e3, Nat.le_of_lt (small1000 (by rw [List.length_map]; show zf.length + 3 ≤ 1000; omega)), fun l4 nl4 => ?_⟩
    have s4 := same_new nl4 (.lst ((zf.map fun z => V.str z.2.2.1) ++ [.str "a", .str "b", .str "ab"]))
    have e4 : (upd H3 l4 (.lst ((zf.map fun z => V.str z.2.2.1) ++ [.str "a", .str "b", .str "ab"]))) l4 = some (.lst ((zf.map fun z => V.str z.2.2.1) ++ [.str "a", .str "b", .str "ab"])) := upd_same
    generalize (upd H3 l4 (.lst ((zf.map fun z => V.str z.2.2.1) ++ [.str "a", .str "b", .str "ab"]))) = H4 at s4 e4
    have P4 := P2.same1 (s3.trans s4)
    have l4p : l4 ≠ p := fun z => by
      obtain ⟨x1, x2, x3, x4, z1, _⟩ := P2.same1 s3
      rw [← z] at z1
      rw [z1] at nl4
      cases nl4
    have s04 := s2.trans (s3.trans s4)
    generalize hW : ((zf.map fun z => V.str z.2.2.1) ++ [.str "a", .str "b", .str "ab"] : List V) = W at e4
    have hWl : 0 < W.length ∧ W.length ≤ 10 := by
      rw [← hW, List.length_append, List.length_map]
      exact ⟨by show 0 < _ + 3; omega, by show _ + 3 ≤ 10; omega⟩
    have hWm : ∀ x ∈ W, ∃ y ∈ abL, x = .str y := fun x hx => by
      rw [← hW, List.mem_append] at hx
      rcases hx with hx | hx
      · obtain ⟨z, hz, rfl⟩ := List.mem_map.mp hx
        exact ⟨_, hA.short z.2.2 (List.mem_map.mpr ⟨z, hz, rfl⟩), rfl⟩
      · simp only [List.mem_cons, List.not_mem_nil, or_false] at hx
        rcases hx with rfl | rfl | rfl
        · exact ⟨"a", by decide, rfl⟩
        · exact ⟨"b", by decide, rfl⟩
        · exact ⟨"ab", by decide, rfl⟩
    refine ⟨_, rfl, _, rfl, _, _, rfl, rfl, p, most + 1, rfl, P4, by omega, by omega, fun m H5 k5 P5 a5 b5 => ?_⟩
    refine ⟨_, rfl, by omega, by omega, fun N nN => ?_⟩
    refine lc_pen P5 nN (fun _ v => ∃ x ∈ abL, v = .str x) (fun _ h => h) (by omega) ?_ ?_
    · rintro i H6 hi k6 P6 Q1 q1
      have e6 := k6 _ _ l4p (k5 _ _ l4p e4)
      refine ⟨rfl, ?_⟩
      refine ⟨_, rfl, _, rfl, _, rfl, l4, _, rfl, .inl (SqL.of e6), p, _, rfl, P6, by omega, by omega, fun j H7 k7 P7 a7 b7 => ?_⟩
      obtain ⟨v, gv, hv⟩ := pick (xs := W) (fun v => ∃ x ∈ abL, v = .str x) a7 b7 hWm
      exact ⟨l4, _, j, v, rfl, rfl, SqL.of (k7 _ _ l4p e6), gv, q1 v H7 k7 P7 hv⟩
    · intro H6 xs k6 P6 eN hl hx
      obtain ⟨ds, rfl, hds⟩ := strs_of (E := fun _ => True) hx
      rw [List.length_map] at hl
      refine ⟨N, _, rfl, SqL.of eN, fun t nt => ?_⟩
      exact q t _ ds ((Kp.same s04).trans (k5.trans (k6.trans (Kp.new nt _)))) (P6.new nt _) upd_same hds (by omega)
abbrev sLFulls : Stmt := topS 39
abbrev nLFulls : List Str := ["_law_forms_here", "_law_word_here", "_law_short", "_law_fulls_here"]
abbrev pLFulls : List Str := ["_law_forms_here", "_law_word_here"]
theorem scLFulls : FnScope nLFulls pLFulls (defScope sLFulls) := ⟨rfl, rfl, rfl, by decide +kernel, rfl, by decide +kernel, by decide +kernel⟩
def spLFulls : Sp := fun vs H Q _ => ∃ (f : Addr) (wd : Str) (fm : List Fm1), vs = [.ref f, .str wd] ∧ Dt H (.ref f) (dFm fm) ∧ ∀ t H', Same H H' → Dt H' (.ref t) (dFs (fulF fm wd)) → Q (.ref t) H'
theorem ok_LFulls {f : Addr} {fd : FuncData} {k : Nat} (F : Fun K "_law_fulls" "_law_fulls" sLFulls f fd) : FnOk P w K mg base CX0 (k + 1) f fd pLFulls spLFulls := by
  refine F.ok scLFulls (fun vs H Q E h => ?_) (fun cdv A outer s H vs Q E hr h => ?_)
  · obtain ⟨f, wd, fm, rfl, _⟩ := h
    rfl
  · obtain ⟨fa, wd, fm, rfl, hF, q⟩ := h
    have nd := scLFulls.nd
    refine ⟨_, pss_cons (ps_for PassesOwn.never rfl (pi_tup (pv 0)) (pg_tup (by rfl) (pgs_cons (pg_name (i := 2) nd rfl (.inl rfl)) (pgs_cons (pg_name (i := 3) nd rfl (.inl rfl)) pgs_nil)))
        (pss_one (ps_if (pt_cmpR op_eq (pv 2) (pv 1) (nomark _)) (pss_one (ps_ret (pv 3))) pss_nil)))
      (pss_one (ps_ret (pe_tup (pa_cons (pe_tup (pa_cons (pv 1) pa_nil)) pa_nil)))), ?_⟩
    obtain ⟨xf, ef, hxf⟩ := hF.tref
    obtain ⟨zf, rfl, rfl, hzf⟩ := fm_refs hxf
    rw [fulF_find] at q
    refine ⟨_, rfl, fa, rfl, ⟨_, SqT.of ef⟩, ?_⟩
    refine for_tup (xs := zf.map fun z => V.ref z.1) (fun j σ H' => ∃ y2 y3, σ = [some (.ref fa), some (.str wd), y2, y3] ∧ H' = H ∧ ∀ z ∈ zf.take j, z.2.2.1 ≠ wd) ⟨_, _, rfl, rfl, fun _ h => nomatch h⟩ (fun j σ H' _ hj => ?_) ?_ ?_
    · obtain ⟨_, _, _, rfl, _⟩ := hj
      exact SqT.of ef
    · rintro j x σ H2 hx ⟨y2, y3, rfl, rfl, hn⟩
      rw [List.getElem?_map] at hx
      obtain ⟨z, hz, rfl⟩ := Option.map_eq_some_iff.mp hx
      have zm := List.mem_of_getElem? hz
      obtain ⟨e1, e2⟩ := hzf z zm
      refine ⟨z.1, _, rfl, SqT.of e1, rfl, _, _, rfl, _, _, rfl, rfl, ?_⟩
      refine ⟨_, rfl, _, rfl, rfl, _, rfl, ?_⟩
      refine ite2 (fun c => ?_) (fun c => ?_)
      · have c' : z.2.2.1 = wd := by
          have := of_decide_eq_true c
          injection this
        have hf : zf.find? (fun z => decide (z.2.2.1 = wd)) = some z := by
          have jl := (List.getElem?_eq_some_iff.mp hz)
          obtain ⟨jl, rfl⟩ := jl
          refine List.find?_eq_some_iff_getElem.mpr ⟨decide_eq_true c', j, jl, rfl, fun i hi => ?_⟩
          rw [Bool.not_eq_true', decide_eq_false_iff_not]
          exact hn _ (List.mem_iff_getElem.mpr ⟨i, by rw [List.length_take]; omega, by rw [List.getElem_take]⟩)
        rw [hf] at q
        exact ⟨_, rfl, q z.2.1 _ (same_refl _) e2⟩
      · have c' : z.2.2.1 ≠ wd := fun e => c (decide_eq_true (congrArg V.str e))
        refine ⟨_, _, rfl, rfl, fun y hy => ?_⟩
        rw [take_more hz] at hy
        rcases List.mem_append.mp hy with h | h
        · exact hn y h
        · rw [List.mem_singleton.mp h]
          exact c'
    · rintro σ H2 ⟨y2, y3, rfl, rfl, hn⟩
      rw [List.length_map, List.take_length] at hn
      have hf : zf.find? (fun z => decide (z.2.2.1 = wd)) = none := List.find?_eq_none.mpr fun z hz => by
        rw [decide_eq_true_eq]
        exact hn z hz
      rw [hf] at q
      refine ⟨_, rfl, (by show 1 ≤ sizeLine; decide), fun t1 nt1 => ?_⟩
      have s1 := same_new nt1 (.tup [.str wd])
      have e1 : (upd H2 t1 (.tup [.str wd])) t1 = some (.tup [.str wd]) := upd_same
      generalize (upd H2 t1 (.tup [.str wd])) = H3 at s1 e1
      refine ⟨(by show 1 ≤ sizeLine; decide), fun t2 nt2 => ?_⟩
      have s2 := same_new nt2 (.tup [.ref t1])
      exact q t2 _ (s1.trans s2) (.tup upd_same (.cons (.tup (s2 _ _ e1) (.cons (.str wd) .nil)) .nil))
end
end Deed

namespace Deed
open PySem PySem.Spec PySem.W PyProof.Rows L2 L2.DX LamX RZ
theorem cutTake {α : Type} (f : α → V) (l : List α) (j : Nat) : cutV (l.map f) none (some (j : Int)) = (l.take j).map f := by
  unfold cutV
  rw [HT.sIx_nat, List.length_map, ← List.map_drop, ← List.map_take]
  congr 1
  have e : HT.sIx l.length 0 none = 0 := rfl
  rw [e, List.drop_zero, Nat.sub_zero]
  rcases Nat.lt_or_ge l.length j with h | h
  · rw [Nat.min_eq_right (by omega), List.take_length, List.take_of_length_le (by omega)]
  · rw [Nat.min_eq_left h]
theorem cutDrop {α : Type} (f : α → V) (l : List α) (i : Nat) : cutV (l.map f) (some (i : Int)) none = (l.drop i).map f := by
  unfold cutV
  rw [HT.sIx_nat, List.length_map, ← List.map_drop, ← List.map_take]
  congr 1
  have e : HT.sIx l.length l.length none = l.length := rfl
  rw [e]
  rcases Nat.lt_or_ge l.length i with h | h
  · rw [Nat.min_eq_right (by omega), List.drop_of_length_le (Nat.le_refl _), List.drop_of_length_le (by omega), List.take_nil]
  · rw [Nat.min_eq_left h, List.take_of_length_le (by rw [List.length_drop]; omega)]
section
variable {P : Program} {w : World} {K : PySem.W.Frag} {mg : Str → Option Value} {base : Heap}
abbrev sLSaid : Stmt := topS 40
abbrev nLSaid : List Str := ["_law_pen_here", "_law_forms_here", "_law_draft_here", "_law_found", "_law_word_here", "_law_fulls_here"]
abbrev pLSaid : List Str := ["_law_pen_here", "_law_forms_here", "_law_draft_here"]
theorem scLSaid : FnScope nLSaid pLSaid (defScope sLSaid) := ⟨rfl, rfl, rfl, by decide +kernel, rfl, by decide +kernel, by decide +kernel⟩
def spLSaid : Sp := fun vs H Q _ => ∃ (p f d : Addr) (fm : List Fm1) (ds : List Str), vs = [.ref p, .ref f, .ref d] ∧ PenAt H p ∧ Dt H (.ref f) (dFm fm) ∧ AFm fm ∧ H d = some (.tup (ds.map V.str)) ∧ (∀ y ∈ ds, y ∈ abL) ∧ ds.length ≤ 20 ∧ ∀ t H' (cs : List Str), Kp p H H' → PenAt H' p → H' t = some (.tup (cs.map V.str)) → (∀ y ∈ cs, y ∈ abL) → cs.length ≤ 3 * ds.length → cs.length ≤ 30 → Q (.ref t) H'
theorem ok_LSaid {f : Addr} {fd : FuncData} {k : Nat} (F : Fun K "_law_said" "_law_said" sLSaid f fd) (C__law_fulls : CallOk P w K mg base k "_law_fulls" pLFulls spLFulls) (C__law_draw : CDrP P w K mg base k) (m_len : mg "len" = none) : FnOk P w K mg base CX0 (k + 1) f fd pLSaid spLSaid := by
  refine F.ok scLSaid (fun vs H Q E h => ?_) (fun cdv A outer s H vs Q E hr h => ?_)
  · obtain ⟨p, f, d, fm, ds, rfl, _⟩ := h
    rfl
  · obtain ⟨p, fa, da, fm, ds, rfl, hP, hF, hA, ed, hds, hl, q⟩ := h
    have nd := scLSaid.nd
    refine ⟨_, pss_cons (ps_set (i := 3) nd rfl (.inl rfl) (pe_tup pa_nil))
      (pss_cons (ps_for PassesOwn.never rfl (pi_tup (pv 2)) (pg_name (i := 4) nd rfl (.inl rfl))
        (pss_cons (ps_set (i := 5) nd rfl (.inl rfl) (pe_call C__law_fulls.ok hr (by rfl) C__law_fulls.g C__law_fulls.kp C__law_fulls.b .nil pass0 (pa_cons (pv 1) (pa_cons (pv 4) pa_nil))))
      (pss_one (ps_set (i := 3) nd rfl (.inl rfl) (pe_op op_catA (pv 3) (pe_ix ix_tup (pv 5) (pe_call C__law_draw.ok hr (by rfl) C__law_draw.g C__law_draw.kp C__law_draw.b .nil pass0 (pa_cons (pv 0) (pa_cons (pe_callB call_len_seq (by rfl) m_len (by decide +kernel) (pa_cons (pv 5) pa_nil)) pa_nil))) (fun _ _ => rfl)))))))
      (pss_one (ps_ret (pe_slice sl_tupA (pv 3) po_none (po_some pe_int))))), ?_⟩
    refine ⟨Nat.zero_le _, fun t1 nt1 => ?_⟩
    refine ⟨_, rfl, da, rfl, ⟨_, SqT.of (same_new nt1 _ _ _ ed)⟩, ?_⟩
    refine for_tup (xs := ds.map V.str) (fun j σ H' => ∃ y4 y5 t cs, σ = [some (.ref p), some (.ref fa), some (.ref da), some (.ref t), y4, y5] ∧ Kp p H H' ∧ PenAt H' p ∧ H' t = some (.tup ((cs : List Str).map V.str)) ∧ (∀ y ∈ cs, y ∈ abL) ∧ cs.length ≤ 3 * j) ⟨_, _, t1, [], rfl, Kp.new nt1 _, hP.new nt1 _, upd_same, (fun _ h => nomatch h), Nat.le_refl _⟩ (fun j σ H' _ hj => ?_) ?_ ?_
    · obtain ⟨_, _, _, _, _, k, _⟩ := hj
      exact SqT.of (k.tup hP _ _ ed)
    · rintro j x σ H2 hx ⟨y4, y5, t, cs, rfl, k2, P2, et, hcs, hcl⟩
      rw [List.getElem?_map] at hx
      obtain ⟨wd, hwd, rfl⟩ := Option.map_eq_some_iff.mp hx
      have hj := (List.getElem?_eq_some_iff.mp hwd).1
      have hwab := hds wd (List.mem_of_getElem? hwd)
      refine ⟨_, rfl, _, rfl, fa, wd, fm, rfl, Dt.kp (k2.tup hP) _ _ hF, fun u H3 s3 hu => ?_⟩
      have fk := fulF_ok hA.ok wd
      have fab := fulF_ab hA hwab
      obtain ⟨xu, eu, hxu⟩ := hu.tref
      obtain ⟨zf, rfl, ezf, hzf⟩ := hxu.ofRefs (enc := fun f : List Str => f.map PyData.str)
      have hz0 : 0 < zf.length := by
        have := List.length_pos_iff.mpr fk.pos
        rw [ezf, List.length_map] at this
        exact this
      have hz3 : zf.length ≤ 3 := by
        have := fk.few
        rw [ezf, List.length_map] at this
        exact this
      have P3 := P2.same1 s3
      refine ⟨_, rfl, _, rfl, _, rfl, _, rfl, u, _, rfl, .inr (SqT.of eu), p, _, rfl, P3, ?_, ?_, fun v H4 k4 P4 a4 b4 => ?_⟩
      · rw [List.length_map]
        omega
      · rw [List.length_map]
        omega
      rw [List.length_map] at b4
      have eu4 := k4.tup P3 _ _ eu
      have hvl : v.toNat < zf.length := by omega
      have zm : zf[v.toNat] ∈ zf := List.getElem_mem hvl
      have hat : atI (zf.map fun z => V.ref z.1) v = some (.ref zf[v.toNat].1) := at_of (j := v.toNat) (by omega) (by rw [List.getElem?_map, List.getElem?_eq_getElem hvl]; rfl)
      refine ⟨u, _, v, _, rfl, rfl, SqT.of eu4, hat, ?_⟩
      have hfm : zf[v.toNat].2 ∈ fulF fm wd := by
        rw [ezf]
        exact List.mem_map.mpr ⟨_, zm, rfl⟩
      obtain ⟨xz, ez, hxz⟩ := (hzf _ zm).tref
      obtain rfl := hxz.ofStrs
      generalize zf[v.toNat] = z at hfm ez
      have ez4 := k4.tup P3 _ _ ez
      have et4 := k4.tup P3 _ _ (s3 _ _ et)
      have hz2 := (fk.ws _ hfm).2
      have P4' := P4
      refine catA_same et4 ez4 (by rw [List.length_map, List.length_map]; omega) fun t5 H5 s5 e5 => ?_
      refine ⟨_, _, t5, cs ++ z.2, rfl, k2.trans ((Kp.same s3).trans (k4.trans (Kp.same s5))), P4.same1 s5, by rw [e5, List.map_append], fun y hy => ?_, by rw [List.length_append]; omega⟩
      rcases List.mem_append.mp hy with h | h
      · exact hcs y h
      · exact fab _ hfm y h
    · rintro σ H2 ⟨y4, y5, t, cs, rfl, k2, P2, et, hcs, hcl⟩
      rw [List.length_map] at hcl
      refine ⟨_, rfl, _, rfl, slA_same et fun t3 H3 s3 e3 => ?_⟩
      have e3' : H3 t3 = some (.tup ((cs.take 30).map V.str)) := by
        rw [e3]
        exact congrArg (fun x => some (HO.tup x)) (cutTake V.str cs 30)
      refine q t3 H3 (cs.take 30) (k2.trans (Kp.same s3)) (P2.same1 s3) e3' (fun y hy => hcs y (List.mem_of_mem_take hy)) ?_ ?_
      · rw [List.length_take]
        omega
      · rw [List.length_take]
        omega
abbrev sLCopy : Stmt := topS 41
abbrev nLCopy : List Str := ["_law_pen_here", "_law_forms_here", "_law_draft_here", "_law_copy_here", "_law_at", "_law_way"]
abbrev pLCopy : List Str := ["_law_pen_here", "_law_forms_here", "_law_draft_here"]
theorem scLCopy : FnScope nLCopy pLCopy (defScope sLCopy) := ⟨rfl, rfl, rfl, by decide +kernel, rfl, by decide +kernel, by decide +kernel⟩
def spLCopy : Sp := fun vs H Q _ => ∃ (p f d : Addr) (fm : List Fm1) (ds : List Str), vs = [.ref p, .ref f, .ref d] ∧ PenAt H p ∧ Dt H (.ref f) (dFm fm) ∧ AFm fm ∧ H d = some (.tup (ds.map V.str)) ∧ (∀ y ∈ ds, y ∈ abL) ∧ ds.length ≤ 20 ∧ ∀ t H' (cs : List Str), Kp p H H' → PenAt H' p → H' t = some (.tup (cs.map V.str)) → (∀ y ∈ cs, y ∈ abL) → cs.length ≤ 3 * ds.length + 1 → cs.length ≤ 31 → Q (.ref t) H'
theorem ok_LCopy {f : Addr} {fd : FuncData} {k : Nat} (F : Fun K "_law_copy" "_law_copy" sLCopy f fd) (C__law_said : CallOk P w K mg base k "_law_said" pLSaid spLSaid) (C__law_draw : CDrP P w K mg base k) (C__law_word : CallOk P w K mg base k "_law_word" pLWord spLWord) (m_len : mg "len" = none) : FnOk P w K mg base CX0 (k + 1) f fd pLCopy spLCopy := by
  refine F.ok scLCopy (fun vs H Q E h => ?_) (fun cdv A outer s H vs Q E hr h => ?_)
  · obtain ⟨p, f, d, fm, ds, rfl, _⟩ := h
    rfl
  · obtain ⟨p, fa, da, fm, ds, rfl, hP, hF, hA, ed, hds, hl, q⟩ := h
    have nd := scLCopy.nd
    refine ⟨_, pss_cons (ps_set (i := 3) nd rfl (.inl rfl) (pe_call C__law_said.ok hr (by rfl) C__law_said.g C__law_said.kp C__law_said.b .nil pass0 (pa_cons (pv 0) (pa_cons (pv 1) (pa_cons (pv 2) pa_nil)))))
      (pss_cons (ps_par (i := 4) (j := 5) (by rfl) nd rfl rfl (by decide) rfl rfl (pa_cons (pe_call C__law_draw.ok hr (by rfl) C__law_draw.g C__law_draw.kp C__law_draw.b .nil pass0 (pa_cons (pv 0) (pa_cons (pe_op op_add (pe_callB call_len_seq (by rfl) m_len (by decide +kernel) (pa_cons (pv 3) pa_nil)) pe_int) pa_nil))) (pa_cons (pe_call C__law_draw.ok hr (by rfl) C__law_draw.g C__law_draw.kp C__law_draw.b .nil pass0 (pa_cons (pv 0) (pa_cons pe_int pa_nil))) pa_nil)) (by rfl))
      (pss_cons (ps_if (pt_cmpR op_eq (pv 5) pe_int (nomark _)) (pss_one (ps_ret (pe_slice sl_tupA (pe_op op_catA (pe_op op_catA (pe_slice sl_tupA (pv 3) po_none (po_some (pv 4))) (pe_tup (pa_cons (pe_call C__law_word.ok hr (by rfl) C__law_word.g C__law_word.kp C__law_word.b .nil pass0 (pa_cons (pv 0) pa_nil)) pa_nil))) (pe_slice sl_tupA (pv 3) (po_some (pv 4)) po_none)) po_none (po_some pe_int)))) pss_nil)
      (pss_cons (ps_if (pt_cmpR op_eq (pv 5) pe_int (nomark _)) (pss_one (ps_ret (pe_op op_catA (pe_slice sl_tupA (pv 3) po_none (po_some (pv 4))) (pe_slice sl_tupA (pv 3) (po_some (pe_op op_add (pv 4) pe_int)) po_none)))) pss_nil)
      (pss_cons (ps_if (pt_cmpR op_eq (pv 5) pe_int (nomark _)) (pss_one (ps_ret (pe_op op_catA (pe_op op_catA (pe_slice sl_tupA (pv 3) po_none (po_some (pv 4))) (pe_tup (pa_cons (pe_call C__law_word.ok hr (by rfl) C__law_word.g C__law_word.kp C__law_word.b .nil pass0 (pa_cons (pv 0) pa_nil)) pa_nil))) (pe_slice sl_tupA (pv 3) (po_some (pe_op op_add (pv 4) pe_int)) po_none)))) pss_nil)
      (pss_one (ps_ret (pv 3))))))), ?_⟩
    refine ⟨_, rfl, _, rfl, _, rfl, p, fa, da, fm, ds, rfl, hP, hF, hA, ed, hds, hl, fun c H1 cs k1 P1 ec hcs hl1 hl2 => ?_⟩
    have hcl : (cs.map V.str).length = cs.length := List.length_map _
    refine ⟨_, rfl, _, rfl, c, _, rfl, .inr (SqT.of ec), _, _, rfl, rfl, p, _, rfl, P1, by omega, by omega, fun at_ H2 k2 P2 a2 b2 => ?_⟩
    have ec2 := k2.tup P1 _ _ ec
    refine ⟨_, rfl, p, 6, rfl, P2, by decide, by decide, fun way H3 k3 P3 a3 b3 => ?_⟩
    have ec3 := k3.tup P2 _ _ ec2
    have k03 := k1.trans (k2.trans k3)
    obtain ⟨n, rfl⟩ : ∃ n : Nat, at_ = (n : Int) := ⟨at_.toNat, by omega⟩
    have hn : n ≤ cs.length := by omega
    have ht : ∀ y ∈ cs.take n, y ∈ abL := fun y hy => hcs y (List.mem_of_mem_take hy)
    have hd : ∀ i, ∀ y ∈ cs.drop i, y ∈ abL := fun i y hy => hcs y (List.mem_of_mem_drop hy)
    refine ⟨_, _, rfl, ?_⟩
    refine ⟨_, rfl, rfl, _, rfl, ?_⟩
    refine ite2 (fun _ => ?_) (fun _ => ?_)
    · refine ⟨_, rfl, _, rfl, _, rfl, slA_same ec3 fun t4 H4 s4 e4 => ?_⟩
      rw [cutTake V.str cs n] at e4
      refine ⟨_, rfl, p, rfl, P3.same1 s4, fun x H5 k5 P5 hx => ⟨(by show 1 ≤ sizeLine; decide), fun t6 nt6 => ?_⟩⟩
      have s6 := same_new nt6 (.tup [.str x])
      have e6 : (upd H5 t6 (.tup [.str x])) t6 = some (.tup [.str x]) := upd_same
      generalize (upd H5 t6 (.tup [.str x])) = H6 at s6 e6
      have e4' := s6 _ _ (k5.tup (P3.same1 s4) _ _ e4)
      refine catA_same e4' e6 (by rw [List.length_map, List.length_take]; show _ + 1 ≤ 1000; omega) fun t7 H7 s7 e7 => ?_
      have ec7 := s7 _ _ (s6 _ _ (k5.tup (P3.same1 s4) _ _ (s4 _ _ ec3)))
      refine ⟨_, rfl, _, rfl, _, rfl, ?_⟩
      dsimp only [tNoPart]
      refine slA_same ec7 fun t8 H8 s8 e8 => ?_
      rw [cutDrop V.str cs n] at e8
      refine catA_same (s8 _ _ e7) e8 (by rw [List.length_append, List.length_map, List.length_map, List.length_take, List.length_drop]; show _ + 1 + _ ≤ 1000; omega) fun t9 H9 s9 e9 => ?_
      have e9' : H9 t9 = some (.tup ((cs.take n ++ [x] ++ cs.drop n).map V.str)) := by
        rw [e9, List.map_append, List.map_append]
        rfl
      refine ⟨_, rfl, slA_same e9' fun ta Ha sa ea => ?_⟩
      have ea' : Ha ta = some (.tup (((cs.take n ++ [x] ++ cs.drop n).take 30).map V.str)) := by
        rw [ea]
        exact congrArg (fun x => some (HO.tup x)) (cutTake V.str _ 30)
      have s6a := s6.trans (s7.trans (s8.trans (s9.trans sa)))
      refine q ta Ha _ (k03.trans ((Kp.same s4).trans (k5.trans (Kp.same s6a)))) (P5.same1 s6a) ea' (fun y hy => ?_) ?_ ?_
      · rcases List.mem_append.mp (List.mem_of_mem_take hy) with h | h
        · rcases List.mem_append.mp h with h | h
          · exact ht y h
          · rw [List.mem_singleton.mp h]
            exact hx
        · exact hd n y h
      · rw [List.length_take, List.length_append, List.length_append, List.length_take, List.length_drop]
        show min 30 (_ + 1 + _) ≤ _
        omega
      · rw [List.length_take]
        omega
    refine ⟨_, rfl, rfl, _, rfl, ?_⟩
    refine ite2 (fun _ => ?_) (fun _ => ?_)
    · refine ⟨_, rfl, _, rfl, _, rfl, slA_same ec3 fun t4 H4 s4 e4 => ?_⟩
      rw [cutTake V.str cs n] at e4
      refine ⟨_, rfl, _, rfl, _, _, rfl, rfl, _, rfl, ?_⟩
      dsimp only [tNoPart]
      refine slA_same (s4 _ _ ec3) fun t8 H8 s8 e8 => ?_
      have e8' : H8 t8 = some (.tup ((cs.drop (n + 1)).map V.str)) := by
        rw [e8]
        exact congrArg (fun x => some (HO.tup x)) (cutDrop V.str cs (n + 1))
      refine catA_same (s8 _ _ e4) e8' (by rw [List.length_map, List.length_map, List.length_take, List.length_drop]; omega) fun t9 H9 s9 e9 => ?_
      have s49 := s4.trans (s8.trans s9)
      refine q t9 H9 (cs.take n ++ cs.drop (n + 1)) (k03.trans (Kp.same s49)) (P3.same1 s49) (by rw [e9, List.map_append]) (fun y hy => ?_) ?_ ?_
      · rcases List.mem_append.mp hy with h | h
        · exact ht y h
        · exact hd _ y h
      · rw [List.length_append, List.length_take, List.length_drop]
        omega
      · rw [List.length_append, List.length_take, List.length_drop]
        omega
    refine ⟨_, rfl, rfl, _, rfl, ?_⟩
    refine ite2 (fun _ => ?_) (fun _ => ?_)
    · refine ⟨_, rfl, _, rfl, _, rfl, slA_same ec3 fun t4 H4 s4 e4 => ?_⟩
      rw [cutTake V.str cs n] at e4
      refine ⟨_, rfl, p, rfl, P3.same1 s4, fun x H5 k5 P5 hx => ⟨(by show 1 ≤ sizeLine; decide), fun t6 nt6 => ?_⟩⟩
      have s6 := same_new nt6 (.tup [.str x])
      have e6 : (upd H5 t6 (.tup [.str x])) t6 = some (.tup [.str x]) := upd_same
      generalize (upd H5 t6 (.tup [.str x])) = H6 at s6 e6
      have e4' := s6 _ _ (k5.tup (P3.same1 s4) _ _ e4)
      refine catA_same e4' e6 (by rw [List.length_map, List.length_take]; show _ + 1 ≤ 1000; omega) fun t7 H7 s7 e7 => ?_
      have ec7 := s7 _ _ (s6 _ _ (k5.tup (P3.same1 s4) _ _ (s4 _ _ ec3)))
      refine ⟨_, rfl, _, rfl, _, _, rfl, rfl, _, rfl, ?_⟩
      dsimp only [tNoPart]
      refine slA_same ec7 fun t8 H8 s8 e8 => ?_
      have e8' : H8 t8 = some (.tup ((cs.drop (n + 1)).map V.str)) := by
        rw [e8]
        exact congrArg (fun x => some (HO.tup x)) (cutDrop V.str cs (n + 1))
      refine catA_same (s8 _ _ e7) e8' (by rw [List.length_append, List.length_map, List.length_map, List.length_take, List.length_drop]; show _ + 1 + _ ≤ 1000; omega) fun t9 H9 s9 e9 => ?_
      have s69 := s6.trans (s7.trans (s8.trans s9))
      refine q t9 H9 (cs.take n ++ [x] ++ cs.drop (n + 1)) (k03.trans ((Kp.same s4).trans (k5.trans (Kp.same s69)))) (P5.same1 s69) (by rw [e9, List.map_append, List.map_append]; rfl) (fun y hy => ?_) ?_ ?_
      · rcases List.mem_append.mp hy with h | h
        · rcases List.mem_append.mp h with h | h
          · exact ht y h
          · rw [List.mem_singleton.mp h]
            exact hx
        · exact hd _ y h
      · rw [List.length_append, List.length_append, List.length_take, List.length_drop]
        show _ + 1 + _ ≤ _
        omega
      · rw [List.length_append, List.length_append, List.length_take, List.length_drop]
        show _ + 1 + _ ≤ _
        omega
    exact ⟨_, rfl, q c H3 cs k03 P3 ec3 hcs (by omega) (by omega)⟩
end
end Deed

namespace Deed
open PySem PySem.Spec PyProof.Rows L2 LamX
/-! ### a list against the empty one -/
section
variable {X : Cx}
/-- list == [] -/
def rEqLE (K : PySem.W.Frag) (neg : Bool) : R2 := fun x y H Q => ∃ a b xs, x = .ref a ∧ y = .ref b ∧ SqL K H a xs ∧ SqL K H b [] ∧ Q (.bl (if neg then !xs.isEmpty else xs.isEmpty)) H
theorem op_neLE (hu : X.A.units + 64 < cLine) : OpR X (compareOp .NotEq) (rEqLE X.K true) := by
  intro pins s σ H x y v u Q I rx ry h
  obtain ⟨a, b, xs, rfl, rfl, ha, hb, q⟩ := h
  cases rx
  cases ry
  obtain ⟨its, r, pl, hz⟩ := I.list ha
  obtain ⟨its2, r2, pl2, hz2⟩ := I.list hb
  cases r2
  have hl := r.length
  cases xs with
  | nil =>
    have : its = [] := List.eq_nil_of_length_eq_zero (by rw [← hl]; rfl)
    subst this
    exact SeqAt.RcNeAt.lists (e := fun _ => true) pl.isList pl2.isList rfl (by omega) (fun j h1 h2 => absurd h2 (by simp)) X.prog X.w _ _ ⟨.bl _, H, I, rfl, q⟩
  | cons x xs =>
    cases its with
    | nil => simp at hl
    | cons i is => exact SeqAt.RcNeAt.lists_lengths pl.isList pl2.isList (by simp) (by omega) X.prog X.w _ _ ⟨.bl _, H, I, rfl, q⟩
theorem op_eqLE (hu : X.A.units + 64 < cLine) : OpR X (compareOp .Eq) (rEqLE X.K false) := by
  intro pins s σ H x y v u Q I rx ry h
  obtain ⟨a, b, xs, rfl, rfl, ha, hb, q⟩ := h
  cases rx
  cases ry
  obtain ⟨its, r, pl, hz⟩ := I.list ha
  obtain ⟨its2, r2, pl2, hz2⟩ := I.list hb
  cases r2
  have hl := r.length
  cases xs with
  | nil =>
    have : its = [] := List.eq_nil_of_length_eq_zero (by rw [← hl]; rfl)
    subst this
    exact SeqAt.RcAt.lists (e := fun _ => true) pl.isList pl2.isList rfl (by omega) (fun j h1 h2 => absurd h2 (by simp)) X.prog X.w _ _ ⟨.bl _, H, I, rfl, q⟩
  | cons x xs =>
    cases its with
    | nil => simp at hl
    | cons i is => exact SeqAt.RcAt.lists_lengths pl.isList pl2.isList (by simp) (by omega) X.prog X.w _ _ ⟨.bl _, H, I, rfl, q⟩
theorem op_neLEK {K : PySem.W.Frag} (h : X.K = K) (hu : X.A.units + 64 < cLine) : OpR X (compareOp .NotEq) (rEqLE K true) := h ▸ op_neLE hu
theorem op_eqLEK {K : PySem.W.Frag} (h : X.K = K) (hu : X.A.units + 64 < cLine) : OpR X (compareOp .Eq) (rEqLE K false) := h ▸ op_eqLE hu
end
end Deed

namespace Deed
open PySem PySem.Spec PyProof.Rows L2 LamX
/-! ### a drawn thing, one spoilt: texts and tuples are short, a list's parts are told -/
def Tg.len : Tg → Nat | .tup ts => ts.length | _ => 0
abbrev OkT (t : Tg) : Prop := t.sm = true ∧ t.len ≤ 900
def ThC (p : Addr) (H : Hp) (v : V) : Prop := (∃ t, TgAt p H v t ∧ OkT t) ∧ ∀ a xs, v = .ref a → H a = some (.lst xs) → ∃ ts, TgAll p H xs ts ∧ (∀ t ∈ ts, OkT t) ∧ xs.length ≤ 20
theorem ThC.flat {p : Addr} {H : Hp} {v : V} {t : Tg} (h : TgAt p H v t) (o : OkT t) (n : ∀ a, v ≠ .ref a) : ThC p H v := ⟨⟨t, h, o⟩, fun a _ e => absurd e (n a)⟩
theorem ThC.other {p : Addr} {H : Hp} {a : Addr} {t : Tg} {o : HO} (h : TgAt p H (.ref a) t) (ok : OkT t) (e : H a = some o) (n : ∀ xs, o ≠ .lst xs) : ThC p H (.ref a) := ⟨⟨t, h, ok⟩, fun b xs eb e' => by
  injection eb with eb
  subst eb
  rw [e] at e'
  exact absurd (Option.some.inj e') (n xs)⟩
theorem TgAll.mkO {p : Addr} {H : Hp} {vs : List V} {φ : Tg → Prop} (h : ∀ v ∈ vs, ∃ t, TgAt p H v t ∧ φ t) : ∃ ts, TgAll p H vs ts ∧ ∀ t ∈ ts, φ t := by
  induction vs with
  | nil => exact ⟨[], .nil, fun _ h => nomatch h⟩
  | cons v r ih =>
    obtain ⟨t, ht, ho⟩ := h v List.mem_cons_self
    obtain ⟨ts, hts, hos⟩ := ih fun x hx => h x (List.mem_cons_of_mem _ hx)
    exact ⟨t :: ts, .cons ht hts, fun y hy => (List.mem_cons.mp hy).elim (fun e => e ▸ ho) (hos y)⟩
theorem OkT.tup {ts : List Tg} (h : ∀ t ∈ ts, OkT t) (l : ts.length ≤ 900) : OkT (.tup ts) := ⟨by rw [Tg.sm]; exact Tg.smAll_of fun t ht => (h t ht).1, l⟩
theorem okT_lst : OkT .lst := ⟨rfl, Nat.zero_le _⟩
theorem okT_dct : OkT .dct := ⟨rfl, Nat.zero_le _⟩
theorem okT_int (i : Int) : OkT (.int i) := ⟨rfl, Nat.zero_le _⟩
theorem okT_bl (b : Bool) : OkT (.bl b) := ⟨rfl, Nat.zero_le _⟩
theorem okT_non : OkT .non := ⟨rfl, Nat.zero_le _⟩
theorem okT_str {x : Str} (h : x.length ≤ 400) : OkT (.str x) := ⟨by rw [Tg.sm]; exact decide_eq_true h, Nat.zero_le _⟩
section
variable {P : Program} {w : World} {K : PySem.W.Frag} {mg : Str → Option Value} {base : Heap}
abbrev CDrw (P : Program) (w : World) (K : PySem.W.Frag) (mg : Str → Option Value) (base : Heap) (k : Nat) := CallOk P w K mg base k "_law_draw" ["_law_pen_here", "_law_bound"] spDraw
abbrev sLThing : Stmt := topS 42
abbrev nLThing : List Str := ["_law_pen_here", "_law_deep", "_law_way", "_law_parts", "_law_k"]
abbrev pLThing : List Str := ["_law_pen_here", "_law_deep"]
theorem scLThing : FnScope nLThing pLThing (defScope sLThing) := ⟨rfl, rfl, rfl, by decide +kernel, rfl, by decide +kernel, by decide +kernel⟩
def spLThing (n : Nat) : Sp := fun vs H Q _ => ∃ (p : Addr) (deep : Int), vs = [.ref p, .int deep] ∧ PenAt H p ∧ 0 ≤ deep ∧ deep < n ∧ ∀ v H', Kp p H H' → PenAt H' p → ThC p H' v → Q v H'
theorem ok_LThing {f : Addr} {fd : FuncData} {k : Nat} (D : Df K mg "_law_thing" sLThing pLThing f fd) (cDr : ∀ n, CDrw P w K mg base (k + n)) (m_range : mg "range" = none) (m_tuple : mg "tuple" = none) : ∀ n : Nat, FnOk P w K mg base CX0 (k + n + 1) f fd pLThing (spLThing n)
  | 0 => by
    refine D.F.ok scLThing (fun vs H Q E h => ?_) (fun cdv A outer s H vs Q E hr h => ?_)
    · obtain ⟨p, deep, rfl, _⟩ := h
      rfl
    · obtain ⟨p, deep, rfl, _, h0, h1, _⟩ := h
      omega
  | n + 1 => by
    have C__law_thing : CallOk P w K mg base (k + (n + 1)) "_law_thing" pLThing (spLThing n) := D.call (ok_LThing D cDr m_range m_tuple n)
    have C__law_draw := cDr (n + 1)
    refine D.F.ok scLThing (fun vs H Q E h => ?_) (fun cdv A outer s H vs Q E hr h => ?_)
    · obtain ⟨p, deep, rfl, _⟩ := h
      rfl
    · obtain ⟨p, deep, rfl, hP, h0, h1, q⟩ := h
      have nd := scLThing.nd
      refine ⟨_, pss_cons (ps_set (i := 2) nd rfl (.inl rfl) (pe_call C__law_draw.ok hr (by rfl) C__law_draw.g C__law_draw.kp C__law_draw.b .nil pass0 (pa_cons (pv 0) (pa_cons pe_int pa_nil))))
      (pss_cons (ps_if (PW.pt (pw_or (pt_cmpR op_lt (pv 2) pe_int (nomark _)) (pw_or1 (pt_cmpR op_eq (pv 1) pe_int (nomark _))))) (pss_one (ps_ret (pe_ix ix_list (pe_lst (pa_cons pe_non (pa_cons pe_bl (pa_cons pe_bl (pa_cons pe_int (pa_cons pe_int (pa_cons (pe_un un_neg pe_int) (pa_cons pe_int (pa_cons (pe_op op_pow pe_int pe_int) (pa_cons pe_str (pa_cons pe_str (pa_cons (pe_tup pa_nil) (pa_cons (pe_lst pa_nil) pa_nil))))))))))))) (pe_call C__law_draw.ok hr (by rfl) C__law_draw.g C__law_draw.kp C__law_draw.b .nil pass0 (pa_cons (pv 0) (pa_cons pe_int pa_nil))) (fun _ _ => rfl)))) pss_nil)
      (pss_cons (ps_setLc (i := 3) (own := [("_law_k", 4)]) (g := gName 4) (by rfl) nd rfl rfl (sw_true rfl rfl rfl (by decide +kernel)) (pi_range1 rfl m_range (pa_cons (pe_call C__law_draw.ok hr (by rfl) C__law_draw.g C__law_draw.kp C__law_draw.b .nil pass0 (pa_cons (pv 0) (pa_cons pe_int pa_nil))) pa_nil)) (blkOk_by (own := [("_law_k", 4)]) (N := nLThing) (sc := defScope sLThing) (by decide +kernel)) (fun _ _ _ _ _ => (pg_name (i := 4) nd rfl (.inl rfl))) (fun _ _ _ _ _ => pts_nil)
          (fun _ _ _ _ _ => (pe_call C__law_thing.ok hr (by rfl) C__law_thing.g C__law_thing.kp C__law_thing.b .nil pass0 (pa_cons (pv 0) (pa_cons (pe_op op_sub (pv 1) pe_int) pa_nil)))))
      (pss_cons (ps_if (pt_cmpR op_eq (pv 2) pe_int (nomark _)) (pss_one (ps_ret (pv 3))) pss_nil)
      (pss_cons (ps_if (pt_cmpR op_eq (pv 2) pe_int (nomark _)) (pss_one (ps_ret (pe_disp (pps_cons pe_str (pv 3) pps_nil) rfl rfl (by simp) (by decide)))) pss_nil)
      (pss_one (ps_ret (pe_callTy call_tuple_of (by rfl) m_tuple (by decide +kernel) (pa_cons (pv 3) pa_nil)))))))), ?_⟩
      refine ⟨_, rfl, p, 12, rfl, hP, by decide, by decide, fun way H1 k1 P1 a1 b1 => ?_⟩
      refine ⟨_, rfl, _, _, rfl, rfl, _, rfl, ?_⟩
      refine ite2 (fun c => ?_) (fun c => ⟨_, rfl, rfl, _, rfl, ite2 (fun c2 => ?_) (fun c2 => ?_)⟩)
      rotate_right 1
      · have hd : deep ≠ 0 := fun h => c2 (decide_eq_true (congrArg V.int h))
        refine ⟨_, rfl, p, 4, rfl, P1, by decide, by decide, fun m H2 k2 P2 a2 b2 => ?_⟩
        refine ⟨_, rfl, by omega, by omega, fun M nM => ?_⟩
        have nMp : M ≠ p := P2.free nM
        refine lc_range (lo := 0) (n := m.toNat) (fun i H' => ∃ (xs : List V) (ts : List Tg), H' M = some (.lst xs) ∧ Kp p H2 H' ∧ PenAt H' p ∧ xs.length = i ∧ TgAll p H' xs ts ∧ ∀ t ∈ ts, OkT t) ⟨[], [], upd_same, Kp.new nM _, P2.new nM _, rfl, .nil, fun _ h => nomatch h⟩ ?_ ?_
        · rintro i H3 hi ⟨xs, ts, eM, k3, P3, hl, hts, hos⟩
          refine ⟨rfl, ?_⟩
          unfold tYes
          dsimp only
          rw [if_pos rfl]
          refine ⟨_, rfl, _, rfl, _, _, rfl, rfl, p, deep - 1, rfl, P3, by omega, by omega, fun v H4 k4 P4 ⟨⟨t, hv, ho⟩, _⟩ => ?_⟩
          have eM4 := k4 _ _ nMp eM
          have hxs4 : ∀ x ∈ xs ++ [v], ∃ t, TgAt p (upd H4 M (.lst (xs ++ [v]))) x t ∧ OkT t := fun x hx => by
            have h5 : ∃ t, TgAt p H4 x t ∧ OkT t := by
              rcases List.mem_append.mp hx with hx | hx
              · obtain ⟨t', hm', ht'⟩ := hts.mem hx
                exact ⟨t', TgAt.kp k4 P3 _ _ ht', hos t' hm'⟩
              · rw [List.mem_singleton.mp hx]
                exact ⟨t, hv, ho⟩
            obtain ⟨t5, h5, o5⟩ := h5
            exact ⟨t5, TgAt.relist eM4 t5 x h5, o5⟩
          obtain ⟨ts', hts', hos'⟩ := TgAll.mkO hxs4
          exact ⟨_, eM4, small1000 (by omega), xs ++ [v], ts', upd_same, (k3.trans k4).over1 nM _, P4.put1 nMp _, by rw [List.length_append, hl]; rfl, hts', hos'⟩
        rintro H3 ⟨xs, ts, eM, k3, P3, hl, hts, hos⟩
        have hsl : ts.length ≤ 20 := by rw [← hts.length]; omega
        have k03 := k1.trans (k2.trans k3)
        refine ⟨_, rfl, rfl, _, rfl, ite2 (fun c => ⟨_, rfl, q _ H3 k03 P3 ⟨⟨_, .lst nMp eM, okT_lst⟩, fun a ys ea e => by
          injection ea with ea
          subst ea
          rw [eM] at e
          injection e with e
          injection e with e
          subst e
          exact ⟨ts, hts, hos, by omega⟩⟩⟩) (fun c => ⟨_, rfl, rfl, _, rfl, ite2 (fun c => ?_) (fun c => ?_)⟩)⟩
        · intro d nd'
          have ndp : d ≠ p := P3.free nd'
          exact ⟨_, rfl, upd_same, [(Sum.inr "a", .ref M)], rfl, (by show 1 ≤ 15; omega), q _ _ ((k03.trans (Kp.new nd' _)).over1 (k03.noneG ndp nd') _) ((P3.new nd' _).put1 ndp _) (.other (.dct ndp upd_same) okT_dct upd_same fun _ z => by cases z)⟩
        · exact ⟨_, rfl, M, _, rfl, .inl ⟨SqL.of eM, fun t nt => q _ _ (k03.trans (Kp.new nt _)) (P3.new nt _) (.other (.tup upd_same (TgAll.kp (Kp.new nt _) P3 _ _ hts)) (.tup hos (by omega)) upd_same fun _ z => by cases z)⟩⟩
      all_goals
        refine ⟨_, rfl, _, _, rfl, rfl, ⟨by decide, by decide, by decide⟩, Nat.zero_le _, fun t1 nt1 => ?_⟩
        have P2 := P1.new nt1 (.tup [])
        have k2 : Kp p H1 (upd H1 t1 (.tup [])) := Kp.new nt1 _
        have e2 : (upd H1 t1 (.tup [])) t1 = some (.tup []) := upd_same
        generalize (upd H1 t1 (.tup [])) = H2 at P2 k2 e2
        refine ⟨Nat.zero_le _, fun l2 nl2 => ?_⟩
        have P3 := P2.new nl2 (.lst [])
        have k3 : Kp p H2 (upd H2 l2 (.lst [])) := Kp.new nl2 _
        have s3 := same_new nl2 (.lst [])
        have e3 : (upd H2 l2 (.lst [])) l2 = some (.lst []) := upd_same
        have np2 : l2 ≠ p := P2.free nl2
        generalize (upd H2 l2 (.lst [])) = H3 at P3 k3 s3 e3
        refine ⟨(by show 12 ≤ sizeLine; decide), fun l3 nl3 => ?_⟩
        have np3 : l3 ≠ p := P3.free nl3
        have s4 := same_new nl3 (.lst [.non, .bl true, .bl false, .int 0, .int 1, .int (-1), .int 9, .int (10 ^ (39 : Int).toNat), .str "", .str "a", .ref t1, .ref l2])
        refine ⟨_, rfl, p, 12, rfl, P3.new nl3 _, by decide, by decide, fun u H5 k5 P5 a5 b5 => ?_⟩
        have et1 := k5.tup (P3.new nl3 _) _ _ (s4 _ _ (s3 _ _ e2))
        have el2 := k5 _ _ np2 (s4 _ _ e3)
        obtain ⟨v, gv, hv⟩ := pick (xs := [.non, .bl true, .bl false, .int 0, .int 1, .int (-1), .int 9, .int (10 ^ (39 : Int).toNat), .str "", .str "a", .ref t1, .ref l2]) (fun v => ThC p H5 v) a5 b5 (am1 (.flat .non okT_non fun _ z => by cases z) (am1 (.flat (.bl _) (okT_bl _) fun _ z => by cases z) (am1 (.flat (.bl _) (okT_bl _) fun _ z => by cases z) (am1 (.flat (.int _) (okT_int _) fun _ z => by cases z) (am1 (.flat (.int _) (okT_int _) fun _ z => by cases z) (am1 (.flat (.int _) (okT_int _) fun _ z => by cases z) (am1 (.flat (.int _) (okT_int _) fun _ z => by cases z) (am1 (.flat (.int _) (okT_int _) fun _ z => by cases z) (am1 (.flat (.str _) (okT_str (by decide)) fun _ z => by cases z) (am1 (.flat (.str _) (okT_str (by decide)) fun _ z => by cases z) (am1 (.other (.tup et1 .nil) (.tup (fun _ h => nomatch h) (Nat.zero_le _)) et1 fun _ z => by cases z) (am1 ⟨⟨_, .lst np2 el2, okT_lst⟩, fun a ys ea e => by
          injection ea with ea
          subst ea
          rw [el2] at e
          injection e with e
          injection e with e
          subst e
          exact ⟨[], .nil, (fun _ h => nomatch h), Nat.zero_le _⟩⟩ am0))))))))))))
        exact ⟨l3, _, u, v, rfl, rfl, SqL.of (k5 _ _ np3 upd_same), gv, q v H5 (k1.trans (k2.trans (k3.trans ((Kp.new nl3 _).trans k5)))) P5 hv⟩
end
end Deed

namespace Deed
open PySem PySem.Spec PyProof.Rows L2 LamX
def FitsC : Nat → Tg → Prop
  | 0, _ => False
  | n + 1, .tup ts => ts.length ≤ 100 ∧ ∀ t ∈ ts, FitsC n t
  | _ + 1, .str x => x ∈ abL
  | _ + 1, .int i => 0 ≤ i ∧ i ≤ 100
  | _ + 1, _ => False
theorem FitsC.ok : ∀ {n : Nat} {t : Tg}, FitsC n t → OkT t
  | 0, _, h => h.elim
  | n + 1, .tup ts, h => .tup (fun t ht => FitsC.ok (h.2 t ht)) (Nat.le_trans h.1 (by decide))
  | n + 1, .str x, h => okT_str (Nat.le_trans (wordS_len (abL_ok x h)) (by decide))
  | n + 1, .int i, h => okT_int i
  | n + 1, .non, h => h.elim
  | n + 1, .bl _, h => h.elim
  | n + 1, .lst, h => h.elim
  | n + 1, .dct, h => h.elim
theorem fit_str : ∀ z ∈ abL, (z ++ "a").length ≤ 400 ∧ (Txt.upper z).length ≤ 400 ∧ (cutS z none (some (-1))).length ≤ 400 ∧ (("1" : Str) ++ z).length ≤ 400 := by
  intro z hz
  simp only [abL, List.mem_cons, List.not_mem_nil, or_false] at hz
  rcases hz with rfl | rfl | rfl | rfl | rfl | rfl <;> decide +kernel
theorem fit_int0 : ∀ i ∈ List.range 101, (strTI (.int (i : Int)) (i : Int)).length ≤ 400 := by decide +kernel
theorem fit_int {i : Int} (h0 : 0 ≤ i) (h1 : i ≤ 100) : (strTI (.int i) i).length ≤ 400 := by
  have := fit_int0 i.toNat (List.mem_range.mpr (by omega))
  rw [show ((i.toNat : Nat) : Int) = i by omega] at this
  exact this
theorem TgAll.cutM {p : Addr} {H : Hp} {vs : List V} {ts : List Tg} (h : TgAll p H vs ts) (lo hi : Option Int) : ∃ ts', TgAll p H (cutV vs lo hi) ts' ∧ (∀ t ∈ ts', t ∈ ts) ∧ ts'.length ≤ ts.length := by
  refine ⟨_, (h.drop _).take _, fun t ht => List.mem_of_mem_drop (List.mem_of_mem_take ht), ?_⟩
  rw [List.length_take, List.length_drop]
  omega
theorem cutV_leC (xs : List V) (lo hi : Option Int) : (cutV xs lo hi).length ≤ xs.length := cutV_length xs lo hi
section
variable {P : Program} {w : World} {K : PySem.W.Frag} {mg : Str → Option Value} {base : Heap}
abbrev sLSpoilt : Stmt := topS 43
abbrev nLSpoilt : List Str := ["_law_pen_here", "_law_thing_here", "_law_at", "_law_way"]
abbrev pLSpoilt : List Str := ["_law_pen_here", "_law_thing_here"]
theorem scLSpoilt : FnScope nLSpoilt pLSpoilt (defScope sLSpoilt) := ⟨rfl, rfl, rfl, by decide +kernel, rfl, by decide +kernel, by decide +kernel⟩
def spLSpoilt (n : Nat) : Sp := fun vs H Q _ => ∃ (p : Addr) (v : V) (t : Tg), vs = [.ref p, v] ∧ PenAt H p ∧ TgAt p H v t ∧ FitsC n t ∧ ∀ v' H', Kp p H H' → PenAt H' p → (∃ t', TgAt p H' v' t' ∧ OkT t') → Q v' H'
theorem ok_LSpoilt {f : Addr} {fd : FuncData} {k : Nat} (D : Df K mg "_law_spoilt" sLSpoilt pLSpoilt f fd) (cDr : ∀ n, CDrw P w K mg base (k + n)) (cTh : ∀ n, CallOk P w K mg base (k + n) "_law_thing" pLThing (spLThing 3)) (m_isinstance : mg "isinstance" = none) (m_tuple : mg "tuple" = none) (m_len : mg "len" = none) (m_list : mg "list" = none) (m_int : mg "int" = none) (m_str : mg "str" = none) : ∀ n : Nat, FnOk P w K mg base CX0 (k + n + 1) f fd pLSpoilt (spLSpoilt n)
  | 0 => by
    refine D.F.ok scLSpoilt (fun vs H Q E h => ?_) (fun cdv A outer s H vs Q E hr h => ?_)
    · obtain ⟨p, v, t, rfl, _⟩ := h
      rfl
    · obtain ⟨p, v, t, rfl, _, _, h0, _⟩ := h
      exact h0.elim
  | n + 1 => by
    have C__law_spoilt : CallOk P w K mg base (k + (n + 1)) "_law_spoilt" pLSpoilt (spLSpoilt n) := D.call (ok_LSpoilt D cDr cTh m_isinstance m_tuple m_len m_list m_int m_str n)
    have C__law_draw := cDr (n + 1)
    have C__law_thing := cTh (n + 1)
    refine D.F.ok scLSpoilt (fun vs H Q E h => ?_) (fun cdv A outer s H vs Q E hr h => ?_)
    · obtain ⟨p, v, t, rfl, _⟩ := h
      rfl
    · obtain ⟨p, v, t, rfl, hP, hT, hf, q⟩ := h
      have nd := scLSpoilt.nd
      refine ⟨_, C8.pss_cut (ps_if (PW.pt (pw_and (pt_val (pe_callB call_isi (by rfl) m_isinstance (by decide +kernel) (pa_cons (pv 1) (pa_cons (pe_bltn (v := .ty "tuple") (by rfl) m_tuple (by decide +kernel) rfl) pa_nil)))) (pw_and (pt_cmpR (op_neTE hr.units) (pv 1) (pe_tup pa_nil) (nomark _)) (pw_and1 (pt_cmpR op_gt (pe_call C__law_draw.ok hr (by rfl) C__law_draw.g C__law_draw.kp C__law_draw.b .nil pass0 (pa_cons (pv 0) (pa_cons pe_int pa_nil))) pe_int (nomark _)))))) (pss_cons (ps_set (i := 2) nd rfl (.inl rfl) (pe_call C__law_draw.ok hr (by rfl) C__law_draw.g C__law_draw.kp C__law_draw.b .nil pass0 (pa_cons (pv 0) (pa_cons (pe_callB call_len_seq (by rfl) m_len (by decide +kernel) (pa_cons (pv 1) pa_nil)) pa_nil))))
      (pss_one (ps_ret (pe_op op_catA (pe_op op_catA (pe_slice sl_tupA (pv 1) po_none (po_some (pv 2))) (pe_tup (pa_cons (pe_call C__law_spoilt.ok hr (by rfl) C__law_spoilt.g C__law_spoilt.kp C__law_spoilt.b .nil pass0 (pa_cons (pv 0) (pa_cons (pe_ix ix_tup (pv 1) (pv 2) (fun _ _ => rfl)) pa_nil))) pa_nil))) (pe_slice sl_tupA (pv 1) (po_some (pe_op op_add (pv 2) pe_int)) po_none))))) pss_nil)
      (pss_cons (ps_set (i := 3) nd rfl (.inl rfl) (pe_call C__law_draw.ok hr (by rfl) C__law_draw.g C__law_draw.kp C__law_draw.b .nil pass0 (pa_cons (pv 0) (pa_cons pe_int pa_nil))))
      (C8.pss_cut (ps_if (PW.pt (pw_and (pt_val (pe_callB call_isi (by rfl) m_isinstance (by decide +kernel) (pa_cons (pv 1) (pa_cons (pe_bltn (v := .ty "tuple") (by rfl) m_tuple (by decide +kernel) rfl) pa_nil)))) (pw_and1 (pt_cmpR op_lt (pv 3) pe_int (nomark _))))) (pss_one (ps_ret (pe_ix ix_list (pe_lst (pa_cons (pe_op op_catA (pv 1) (pe_slice sl_tupA (pv 1) (po_some (pe_un un_neg pe_int)) po_none)) (pa_cons (pe_slice sl_tupA (pv 1) po_none (po_some (pe_un un_neg pe_int))) (pa_cons (pe_callTy call_list_of (by rfl) m_list (by decide +kernel) (pa_cons (pv 1) pa_nil)) (pa_cons (pe_revT (pv 1)) pa_nil))))) (pv 3) (fun _ _ => rfl)))) pss_nil)
      (C8.pss_cut (ps_if (PW.pt (pw_and (pt_val (pe_callB call_isi (by rfl) m_isinstance (by decide +kernel) (pa_cons (pv 1) (pa_cons (pe_bltn (v := .ty "int") (by rfl) m_int (by decide +kernel) rfl) pa_nil)))) (pw_and1 (pt_cmpR op_lt (pv 3) pe_int (nomark _))))) (pss_one (ps_ret (pe_ix ix_list (pe_lst (pa_cons (pe_op op_addTI (pv 1) pe_int) (pa_cons (pe_op op_subTI (pv 1) pe_int) (pa_cons (pe_cmpR op_gtTI (pv 1) pe_int (nomark _)) (pa_cons (pe_callTy call_strTI (by rfl) m_str (by decide +kernel) (pa_cons (pv 1) pa_nil)) pa_nil))))) (pv 3) (fun _ _ => rfl)))) pss_nil)
      (C8.pss_cut (ps_if (PW.pt (pw_and (pt_val (pe_callB call_isi (by rfl) m_isinstance (by decide +kernel) (pa_cons (pv 1) (pa_cons (pe_bltn (v := .ty "str") (by rfl) m_str (by decide +kernel) rfl) pa_nil)))) (pw_and1 (pt_cmpR op_lt (pv 3) pe_int (nomark _))))) (pss_one (ps_ret (pe_ix ix_list (pe_lst (pa_cons (pe_op op_add_str (pv 1) pe_str) (pa_cons (pe_upper (pv 1)) (pa_cons (pe_slice sl_str (pv 1) po_none (po_some (pe_un un_neg pe_int))) (pa_cons (pe_op op_add_str pe_str (pv 1)) pa_nil))))) (pv 3) (fun _ _ => rfl)))) pss_nil)
      (pss_one (ps_ret (pe_call C__law_thing.ok hr (by rfl) C__law_thing.g C__law_thing.kp C__law_thing.b .nil pass0 (pa_cons (pv 0) (pa_cons pe_int pa_nil))))))))), ?_⟩
      refine ⟨fun σ' H' => ∃ y2, σ' = [some (.ref p), some v, y2, none] ∧ Kp p H H' ∧ PenAt H' p, ?_, ?_⟩
      · refine ⟨_, rfl, _, _, _, _, t.isT, rfl, .ty "tuple", hT.ty, kit_ty t.kT, _, rfl, ?_⟩
        refine ite2 (fun c => ?_) (fun c => ⟨_, rfl, Kp.refl _ _, hP⟩)
        obtain ⟨a, xs, ts, rfl, rfl, ea, hts⟩ := hT.tupOf c
        refine ⟨_, rfl, Nat.zero_le _, fun t1 nt1 => ?_⟩
        have s1 := same_new nt1 (.tup [])
        have e1 : (upd H t1 (.tup [])) t1 = some (.tup []) := upd_same
        have P1 := hP.new nt1 (.tup [])
        generalize (upd H t1 (.tup [])) = H1 at s1 e1 P1
        refine ⟨a, t1, xs, rfl, rfl, SqT.of (s1 _ _ ea), SqT.of e1, _, rfl, ?_⟩
        refine ite2 (fun c1 => ?_) (fun c1 => ⟨_, rfl, Kp.same s1, P1⟩)
        refine ⟨_, rfl, p, 6, rfl, P1, by decide, by decide, fun u H2 k2 P2 a2 b2 => ⟨_, _, rfl, rfl, _, rfl, ?_⟩⟩
        have k02 : Kp p H H2 := (Kp.same s1).trans k2
        refine ite2 (fun c2 => ?_) (fun c2 => ⟨_, rfl, k02, P2⟩)
        have hne : xs ≠ [] := fun z => by
          subst z
          cases c1
        have hl0 : 0 < xs.length := List.length_pos_iff.mpr hne
        have hl9 : xs.length ≤ 100 := by rw [hts.length]; exact hf.1
        have hos : ∀ t ∈ ts, OkT t := fun t ht => FitsC.ok (hf.2 t ht)
        have ea2 := k02.tup hP _ _ ea
        have hts2 := TgAll.kp k02 hP _ _ hts
        refine ⟨_, rfl, _, rfl, a, _, rfl, .inr (SqT.of ea2), p, _, rfl, P2, by omega, by omega, fun at_ H3 k3 P3 a3 b3 => ?_⟩
        have ea3 := k3.tup P2 _ _ ea2
        have hts3 := TgAll.kp k3 P2 _ _ hts2
        refine ⟨_, rfl, _, rfl, _, rfl, slA_same ea3 fun t4 H4 s4 e4 => ?_⟩
        have P4 : PenAt H4 p := by
          obtain ⟨x1, x2, x3, x4, z1, z2⟩ := P3
          exact ⟨x1, x2, x3, x4, s4 _ _ z1, z2⟩
        have hix : at_.toNat < xs.length := by omega
        have hv : xs[at_.toNat]? = some xs[at_.toNat] := List.getElem?_eq_getElem hix
        obtain ⟨tv, htv, hatv⟩ := (TgAll.same s4 _ _ hts3).get hv
        refine ⟨_, rfl, _, rfl, _, rfl, a, _, at_, xs[at_.toNat], rfl, rfl, SqT.of (s4 _ _ ea3), at_of (j := at_.toNat) (by omega) hv, p, _, tv, rfl, P4, hatv, hf.2 tv (List.mem_of_getElem? htv), fun v5 H5 k5 P5 ⟨t5, h5, o5⟩ => ?_⟩
        refine ⟨(by show 1 ≤ sizeLine; decide), fun t6 nt6 => ?_⟩
        have s6 := same_new nt6 (.tup [v5])
        have e6 : (upd H5 t6 (.tup [v5])) t6 = some (.tup [v5]) := upd_same
        have P6 := P5.new nt6 (.tup [v5])
        generalize (upd H5 t6 (.tup [v5])) = H6 at s6 e6 P6
        have k46 : Kp p H4 H6 := k5.trans (Kp.same s6)
        have hc4 := cutV_leC xs none (some at_)
        refine catA_same (k46.tup P4 _ _ e4) e6 (by show _ + 1 ≤ 1000; omega) fun t7 H7 s7 e7 => ?_
        have k37 : Kp p H3 H7 := (Kp.same s4).trans (k46.trans (Kp.same s7))
        refine ⟨_, rfl, _, rfl, _, _, rfl, rfl, _, rfl, ?_⟩
        dsimp only [tNoPart]
        refine slA_same (k37.tup P3 _ _ ea3) fun t8 H8 s8 e8 => ?_
        have hc8 := cutV_leC xs (some (at_ + 1)) none
        refine catA_same (s8 _ _ e7) e8 (by rw [List.length_append]; show _ + 1 + _ ≤ 1000; omega) fun t9 H9 s9 e9 => ?_
        have s69 := s7.trans (s8.trans s9)
        have k39 : Kp p H3 H9 := k37.trans (Kp.same (s8.trans s9))
        have P9 : PenAt H9 p := by
          obtain ⟨x1, x2, x3, x4, z1, z2⟩ := P6
          exact ⟨x1, x2, x3, x4, s69 _ _ z1, z2⟩
        have hts9 := TgAll.kp k39 P3 _ _ hts3
        obtain ⟨u1, hu1, m1, l1⟩ := hts9.cutM none (some at_)
        obtain ⟨u2, hu2, m2, l2⟩ := hts9.cutM (some (at_ + 1)) none
        have htl := hf.1
        exact q _ H9 (k02.trans (k3.trans k39)) P9 ⟨_, .tup e9 ((hu1.append (.cons (TgAt.same (s6.trans s69) _ _ h5) .nil)).append hu2), .tup (fun t ht => by
          rcases List.mem_append.mp ht with h | h
          · rcases List.mem_append.mp h with h | h
            · exact hos t (m1 t h)
            · rw [List.mem_singleton.mp h]
              exact o5
          · exact hos t (m2 t h)) (by rw [List.length_append, List.length_append]; show _ + 1 + _ ≤ _; omega)⟩
      rintro _ H1 ⟨y2, rfl, k1, P1⟩
      have hT1 := TgAt.kp k1 hP _ _ hT
      refine ⟨_, rfl, p, 8, rfl, P1, by decide, by decide, fun way H2 k2 P2 a2 b2 => ?_⟩
      have hT2 := TgAt.kp k2 P1 _ _ hT1
      have k02 := k1.trans k2
      refine ⟨fun σ' H' => σ' = [some (.ref p), some v, y2, some (.int way)] ∧ H' = H2, ?_, ?_⟩
      · refine ⟨_, rfl, _, _, _, _, t.isT, rfl, .ty "tuple", hT2.ty, kit_ty t.kT, _, rfl, ?_⟩
        refine ite2 (fun c => ?_) (fun c => ⟨rfl, rfl⟩)
        refine ⟨_, rfl, _, _, rfl, rfl, _, rfl, ?_⟩
        refine ite2 (fun c1 => ?_) (fun c1 => ⟨rfl, rfl⟩)
        have hw4 : way < 4 := of_decide_eq_true c1
        obtain ⟨a, xs, ts, rfl, rfl, ea, hts⟩ := hT2.tupOf c
        have hl9 : xs.length ≤ 100 := by rw [hts.length]; exact hf.1
        have hos : ∀ t ∈ ts, OkT t := fun t ht => FitsC.ok (hf.2 t ht)
        refine ⟨_, rfl, _, rfl, _, rfl, _, rfl, ?_⟩
        dsimp only [tNoPart]
        refine slA_same ea fun t3 H3 s3 e3 => ?_
        have hc3 := cutV_leC xs (some (-1)) none
        refine catA_same (s3 _ _ ea) e3 (by omega) fun t4 H4 s4 e4 => ?_
        have s24 := s3.trans s4
        refine ⟨_, rfl, _, rfl, _, rfl, slA_same (s24 _ _ ea) fun t5 H5 s5 e5 => ?_⟩
        have s25 := s24.trans s5
        refine ⟨_, rfl, a, _, rfl, .inr (SqT.of (s25 _ _ ea)), fun l6 nl6 => ?_⟩
        have s6 := same_new nl6 (.lst xs)
        have e6 : (upd H5 l6 (.lst xs)) l6 = some (.lst xs) := upd_same
        have nlp : l6 ≠ p := fun z => by
          obtain ⟨x1, x2, x3, x4, z1, z2⟩ := P2
          rw [z, s25 _ _ z1] at nl6
          cases nl6
        generalize (upd H5 l6 (.lst xs)) = H6 at s6 e6
        have s26 := s25.trans s6
        refine ⟨_, rfl, a, _, rfl, SqT.of (s26 _ _ ea), fun t7 nt7 => ?_⟩
        have s7 := same_new nt7 (.tup xs.reverse)
        have e7 : (upd H6 t7 (.tup xs.reverse)) t7 = some (.tup xs.reverse) := upd_same
        generalize (upd H6 t7 (.tup xs.reverse)) = H7 at s7 e7
        have s27 := s26.trans s7
        refine ⟨(by show 4 ≤ sizeLine; decide), fun l8 nl8 => ?_⟩
        have s8 := same_new nl8 (.lst [.ref t4, .ref t5, .ref l6, .ref t7])
        have e8 : (upd H7 l8 (.lst [.ref t4, .ref t5, .ref l6, .ref t7])) l8 = some (.lst [.ref t4, .ref t5, .ref l6, .ref t7]) := upd_same
        generalize (upd H7 l8 (.lst [.ref t4, .ref t5, .ref l6, .ref t7])) = H8 at s8 e8
        have s28 := s27.trans s8
        have hts8 := TgAll.same s28 _ _ hts
        obtain ⟨u1, hu1, m1, l1⟩ := hts8.cutM (some (-1)) none
        obtain ⟨u2, hu2, m2, l2⟩ := hts8.cutM none (some (-1))
        have htl := hf.1
        have hap : OkT (.tup (ts ++ u1)) := .tup (fun t ht => (List.mem_append.mp ht).elim (hos t) fun h => hos t (m1 t h)) (by rw [List.length_append]; omega)
        have hcu : OkT (.tup u2) := .tup (fun t ht => hos t (m2 t ht)) (by omega)
        have hrv : OkT (.tup ts.reverse) := .tup (fun t ht => hos t (List.mem_reverse.mp ht)) (by rw [List.length_reverse]; omega)
        obtain ⟨vv, gv, hv⟩ := pick (i := way) (xs := [.ref t4, .ref t5, .ref l6, .ref t7]) (fun v => ∃ o, TgAt p H8 v o ∧ OkT o) a2 (by show way < 4; exact hw4) (am1 ⟨_, .tup ((s5.trans (s6.trans (s7.trans s8))) _ _ e4) (hts8.append hu1), hap⟩ (am1 ⟨_, .tup ((s6.trans (s7.trans s8)) _ _ e5) hu2, hcu⟩ (am1 ⟨_, .lst nlp ((s7.trans s8) _ _ e6), okT_lst⟩ (am1 ⟨_, .tup (s8 _ _ e7) hts8.reverse, hrv⟩ am0))))
        have P8 : PenAt H8 p := by
          obtain ⟨x1, x2, x3, x4, z1, z2⟩ := P2
          exact ⟨x1, x2, x3, x4, s28 _ _ z1, z2⟩
        exact ⟨_, rfl, l8, _, way, vv, rfl, rfl, SqL.of e8, gv, q vv H8 (k02.trans (Kp.same s28)) P8 hv⟩
      rintro _ H2' ⟨rfl, eH⟩
      rw [eH]
      clear eH H2'
      refine ⟨fun σ' H' => σ' = [some (.ref p), some v, y2, some (.int way)] ∧ H' = H2, ?_, ?_⟩
      · refine ⟨_, rfl, _, _, _, _, t.isI, rfl, .ty "int", hT2.ty, kit_ty t.kI, _, rfl, ?_⟩
        refine ite2 (fun c => ?_) (fun c => ⟨rfl, rfl⟩)
        refine ⟨_, rfl, _, _, rfl, rfl, _, rfl, ?_⟩
        refine ite2 (fun c1 => ?_) (fun c1 => ⟨rfl, rfl⟩)
        have hw4 : way < 4 := of_decide_eq_true c1
        obtain ⟨i, rfl, rfl⟩ : ∃ i, v = .int i ∧ t = .int i := by
          cases hT2 with
          | int i => exact ⟨i, rfl, rfl⟩
          | bl b => exact hf.elim
          | _ => cases c
        have hi : numOf (.int i) = some i := rfl
        have hif : 0 ≤ i ∧ i ≤ 100 := hf
        have hlg : i.natAbs.log2 < 1920 := by
          have h1 : i.natAbs < 2 ^ 7 := by omega
          by_cases h0 : i.natAbs = 0
          · rw [h0]
            decide
          · have := (Nat.log2_lt h0).mpr h1
            omega
        refine ⟨_, rfl, i, 1, hi, rfl, _, rfl, i, 1, hi, rfl, _, rfl, i, 0, hi, rfl, _, rfl, .int i, i, rfl, hi, hlg, (by show 4 ≤ sizeLine; decide), fun l8 nl8 => ?_⟩
        obtain ⟨vv, gv, hv⟩ := pick (i := way) (xs := [.int (i + 1), .int (i - 1), .bl (decide (i > 0)), .str (strTI (.int i) i)]) (fun x => ∃ o, TgAt p (upd H2 l8 (.lst [.int (i + 1), .int (i - 1), .bl (decide (i > 0)), .str (strTI (.int i) i)])) x o ∧ OkT o) a2 (by show way < 4; exact hw4) (am1 ⟨_, .int _, okT_int _⟩ (am1 ⟨_, .int _, okT_int _⟩ (am1 ⟨_, .bl _, okT_bl _⟩ (am1 ⟨_, .str _, okT_str (fit_int hif.1 hif.2)⟩ am0))))
        exact ⟨_, rfl, l8, _, way, vv, rfl, rfl, SqL.of upd_same, gv, q vv _ (k02.trans (Kp.new nl8 _)) (P2.new nl8 _) hv⟩
      rintro _ H2' ⟨rfl, eH⟩
      rw [eH]
      clear eH H2'
      refine ⟨fun σ' H' => σ' = [some (.ref p), some v, y2, some (.int way)] ∧ H' = H2, ?_, ?_⟩
      · refine ⟨_, rfl, _, _, _, _, t.isS, rfl, .ty "str", hT2.ty, kit_ty t.kS, _, rfl, ?_⟩
        refine ite2 (fun c => ?_) (fun c => ⟨rfl, rfl⟩)
        refine ⟨_, rfl, _, _, rfl, rfl, _, rfl, ?_⟩
        refine ite2 (fun c1 => ?_) (fun c1 => ⟨rfl, rfl⟩)
        have hw4 : way < 4 := of_decide_eq_true c1
        obtain ⟨z, rfl, rfl⟩ : ∃ z, v = .str z ∧ t = .str z := by
          cases hT2 with
          | str x => exact ⟨_, rfl, rfl⟩
          | _ => cases c
        have hzm : z ∈ abL := hf
        have hz : z.length ≤ 300 := Nat.le_trans (wordS_len (abL_ok z hzm)) (by decide)
        obtain ⟨f1, f2, f3, f4⟩ := fit_str z hzm
        have hz1 : z.length + 1 ≤ sizeLine := Nat.le_of_lt (small1000 (by omega))
        refine ⟨_, rfl, z, "a", rfl, rfl, hz1, _, rfl, ⟨_, rfl⟩, z, rfl, rfl, by omega, _, rfl, _, rfl, _, rfl, z, rfl, by omega, _, rfl, "1", z, rfl, rfl, (by show 1 + z.length ≤ sizeLine; omega), (by show 4 ≤ sizeLine; decide), fun l8 nl8 => ?_⟩
        obtain ⟨vv, gv, hv⟩ := pick (i := way) (xs := [.str (z ++ "a"), .str (Txt.upper z), .str (cutS z none (some (-1))), .str ("1" ++ z)]) (fun v => ∃ o, TgAt p (upd H2 l8 (.lst [.str (z ++ "a"), .str (Txt.upper z), .str (cutS z none (some (-1))), .str ("1" ++ z)])) v o ∧ OkT o) a2 (by show way < 4; exact hw4) (am1 ⟨_, .str _, okT_str f1⟩ (am1 ⟨_, .str _, okT_str f2⟩ (am1 ⟨_, .str _, okT_str f3⟩ (am1 ⟨_, .str _, okT_str f4⟩ am0))))
        exact ⟨_, rfl, l8, _, way, vv, rfl, rfl, SqL.of upd_same, gv, q vv _ (k02.trans (Kp.new nl8 _)) (P2.new nl8 _) hv⟩
      rintro _ H2' ⟨rfl, eH⟩
      rw [eH]
      clear eH H2'
      exact ⟨_, rfl, p, 2, rfl, P2, by decide, by decide, fun v' H' k' P' hv => q v' H' (k02.trans k') P' hv.1⟩
end
end Deed

namespace Deed
open PySem PySem.Spec PySem.W PyProof.Rows L2 LamX RZ
theorem eqv_dI (a b : List Int) : PyData.eqv (dI a) (dI b) = decide (a = b) := by
  simp only [dI, PyData.eqv]
  exact eqvAll_ints a b
theorem plain_dI (u : List Int) : (dI u).plain = true := Datum.plain (α := Tup Int) ⟨u⟩
end Deed

namespace Deed
open PySem PySem.Spec PySem.W PyProof.Rows L2 L2.DX LamX RZ
/-! ### whether a thing is the list of reaches -/
def Tg.toI : Tg → Int | .int i => i | _ => 0
def Tg.isW : Tg → Bool | .int _ => true | _ => false
def spB1 (φ : Tg → Bool) : Sp := fun vs H Q _ => ∃ (p : Addr) (v : V) (t : Tg), vs = [v] ∧ TgAt p H v t ∧ ∀ H', Same H H' → Q (.bl (φ t)) H'
def isRow (r : List Int) : Tg → Bool | .tup ts => ts.all Tg.isW && decide (ts.map Tg.toI = r) | _ => false
theorem whole_vs {p : Addr} {H : Hp} : ∀ {xs : List V} {ts : List Tg}, TgAll p H xs ts → ts.all Tg.isW = true → xs = (ts.map Tg.toI).map V.int
  | _, [], h, _ => by
    cases h
    rfl
  | _, t :: ts, h, hw => by
    rw [List.all_cons, Bool.and_eq_true] at hw
    cases h with
    | cons h1 h2 =>
      rw [whole_vs h2 hw.2]
      cases t with
      | int i =>
        cases h1
        rfl
      | _ => cases hw.1
/-- a thing; where it is a list, its parts -/
def Th (p : Addr) (H : Hp) (v : V) : Option (List Tg) → Prop
  | some ts => ∃ L vs, v = .ref L ∧ L ≠ p ∧ H L = some (.lst vs) ∧ TgAll p H vs ts ∧ (∀ t ∈ ts, t.len ≤ 900) ∧ vs.length ≤ 200
  | none => ∃ t, TgAt p H v t ∧ t.isL = false
theorem Th.same {p : Addr} {H H' : Hp} {v : V} {o : Option (List Tg)} (h : Th p H v o) (s : Same H H') : Th p H' v o := by
  cases o with
  | none =>
    obtain ⟨t, h1, h2⟩ := h
    exact ⟨t, TgAt.same s _ _ h1, h2⟩
  | some ts =>
    obtain ⟨L, vs, h1, h2, h3, h4, h5⟩ := h
    exact ⟨L, vs, h1, h2, s _ _ h3, TgAll.same s _ _ h4, h5⟩
theorem Th.kp {p : Addr} {H H' : Hp} {v : V} {o : Option (List Tg)} (h : Th p H v o) (k : Kp p H H') (P : PenAt H p) : Th p H' v o := by
  cases o with
  | none =>
    obtain ⟨t, h1, h2⟩ := h
    exact ⟨t, TgAt.kp k P _ _ h1, h2⟩
  | some ts =>
    obtain ⟨L, vs, h1, h2, h3, h4, h5⟩ := h
    exact ⟨L, vs, h1, h2, k _ _ h2 h3, TgAll.kp k P _ _ h4, h5⟩
theorem ThC.th {p : Addr} {H : Hp} {v : V} (h : ThC p H v) : ∃ o, Th p H v o := by
  obtain ⟨⟨t, h1, h2⟩, h3⟩ := h
  cases hl : t.isL with
  | false => exact ⟨none, t, h1, hl⟩
  | true =>
    cases h1 with
    | @lst a xs n e =>
      obtain ⟨ts, g1, g2, g3⟩ := h3 _ _ rfl e
      exact ⟨some ts, _, _, rfl, n, e, g1, fun t ht => (g2 t ht).2, by omega⟩
    | _ => cases hl
theorem Th.tg {p : Addr} {H : Hp} {v : V} {o : Option (List Tg)} (h : Th p H v o) : ∃ t, TgAt p H v t ∧ t.isL = o.isSome := by
  cases o with
  | none => exact h
  | some ts =>
    obtain ⟨L, vs, rfl, h2, h3, _⟩ := h
    exact ⟨.lst, .lst h2 h3, rfl⟩
def holdsB (rs : List (List Int)) : Option (List Tg) → Bool
  | some ts => decide (ts.length = rs.length) && (List.range rs.length).all fun i => isRow (rs.getD i []) (ts.getD i .non)
  | none => false
theorem holdsB_some (rs : List (List Int)) (ts : List Tg) : holdsB rs (some ts) = (decide (ts.length = rs.length) && (List.range rs.length).all fun i => isRow (rs.getD i []) (ts.getD i .non)) := rfl
section
variable {P : Program} {w : World} {K : PySem.W.Frag} {mg : Str → Option Value} {base : Heap}
abbrev sIsWhole : Stmt := topS 1
abbrev nIsWhole : List Str := ["thing"]
abbrev pIsWhole : List Str := ["thing"]
theorem scIsWhole : FnScope nIsWhole pIsWhole (defScope sIsWhole) := ⟨rfl, rfl, rfl, by decide +kernel, rfl, by decide +kernel, by decide +kernel⟩
theorem ok_IsWhole {f : Addr} {fd : FuncData} {k : Nat} (F : Fun K "is_whole" "is_whole" sIsWhole f fd) (m_isinstance : mg "isinstance" = none) (m_int : mg "int" = none) (m_bool : mg "bool" = none) : FnOk P w K mg base CX0 (k + 1) f fd pIsWhole (spB1 Tg.isW) := by
  refine F.ok scIsWhole (fun vs H Q E h => ?_) (fun cdv A outer s H vs Q E hr h => ?_)
  · obtain ⟨p, v, t, rfl, _⟩ := h
    rfl
  · obtain ⟨p, v, t, rfl, hT, q⟩ := h
    refine ⟨_, pss_one (ps_ret (pe_and (pe_callB call_isi (by rfl) m_isinstance (by decide +kernel) (pa_cons (pv 0) (pa_cons (pe_bltn (v := .ty "int") (by rfl) m_int (by decide +kernel) rfl) pa_nil))) (pe_one (pe_not (pe_callB call_isi (by rfl) m_isinstance (by decide +kernel) (pa_cons (pv 0) (pa_cons (pe_bltn (v := .ty "bool") (by rfl) m_bool (by decide +kernel) rfl) pa_nil))))))), ?_⟩
    refine ⟨_, rfl, _, _, _, _, t.isI, rfl, .ty "int", hT.ty, kit_ty t.kI, _, rfl, ?_⟩
    refine ite2 (fun c => ?_) (fun c => ?_)
    · refine ⟨_, rfl, _, _, _, _, t.isB, rfl, .ty "bool", hT.ty, kit_ty t.kB, _, rfl, ?_⟩
      rw [show (!t.isB) = t.isW by cases t <;> first | rfl | cases c]
      exact q _ (same_refl _)
    · have h := q _ (same_refl _)
      have e : t.isW = false := by cases t <;> first | rfl | exact absurd rfl c
      rw [e] at h
      exact h
abbrev sIsReach : Stmt := topS 29
abbrev nIsReach : List Str := ["reach", "thing", "part"]
abbrev pIsReach : List Str := ["reach", "thing"]
theorem scIsReach : FnScope nIsReach pIsReach (defScope sIsReach) := ⟨rfl, rfl, rfl, by decide +kernel, rfl, by decide +kernel, by decide +kernel⟩
def spIsReach : Sp := fun vs H Q _ => ∃ (r p : Addr) (is : List Int) (v : V) (t : Tg), vs = [.ref r, v] ∧ H r = some (.tup (is.map V.int)) ∧ TgAt p H v t ∧ t.len ≤ 900 ∧ ∀ H', Same H H' → Q (.bl (isRow is t)) H'
theorem ok_IsReach {f : Addr} {fd : FuncData} {k : Nat} (F : Fun K "is_reach" "is_reach" sIsReach f fd) (C_is_whole : CallOk P w K mg base k "is_whole" pIsWhole (spB1 Tg.isW)) (m_isinstance : mg "isinstance" = none) (m_tuple : mg "tuple" = none) (m_all : mg "all" = none) : FnOk P w K mg base CX0 (k + 1) f fd pIsReach spIsReach := by
  refine F.ok scIsReach (fun vs H Q E h => ?_) (fun cdv A outer s H vs Q E hr h => ?_)
  · obtain ⟨r, p, is, v, t, rfl, _⟩ := h
    rfl
  · obtain ⟨r, p, is, v, t, rfl, er, hT, hl, q⟩ := h
    have nd := scIsReach.nd
    refine ⟨_, pss_one (ps_ret (pe_and (pe_callB call_isi (by rfl) m_isinstance (by decide +kernel) (pa_cons (pv 1) (pa_cons (pe_bltn (v := .ty "tuple") (by rfl) m_tuple (by decide +kernel) rfl) pa_nil))) (pe_and (pe_callB (cr_all rfl) (by rfl) m_all (by decide +kernel) (pa_cons (pe_lc (own := [("part", 2)]) (g := gName 2) (by rfl) nd (pi_tup (pv 1)) (blkOk_by (own := [("part", 2)]) (N := nIsReach) (sc := defScope sIsReach) (by decide +kernel)) (fun _ _ _ _ _ => (pg_name (i := 2) nd rfl (.inl rfl))) (fun _ _ _ _ _ => pts_nil)
          (fun _ _ _ _ _ => (pe_call C_is_whole.ok hr (by rfl) C_is_whole.g C_is_whole.kp C_is_whole.b .nil pass0 (pa_cons (pv 2) pa_nil)))) pa_nil)) (pe_one (pe_cmpR (op_eqP (K := K) rfl hr.units) (pv 1) (pv 0) (nomark _)))))), ?_⟩
    refine ⟨_, rfl, _, _, _, _, t.isT, rfl, .ty "tuple", hT.ty, kit_ty t.kT, _, rfl, ?_⟩
    cases hc : t.isT with
    | false =>
      refine iteF ?_
      have e : isRow is t = false := by cases t <;> first | rfl | cases hc
      rw [e] at q
      exact q _ (same_refl _)
    | true =>
    refine iteT ?_
    obtain ⟨a, xs, ts, rfl, rfl, ea, hts⟩ := hT.tupOf hc
    have hlen := hts.length
    have hl : ts.length ≤ 900 := hl
    have q1 : ∀ H', Same H H' → Q (.bl (ts.all Tg.isW && decide (ts.map Tg.toI = is))) H' := q
    refine ⟨_, rfl, a, rfl, ⟨_, SqT.of ea⟩, fun M nM => ?_⟩
    refine lc_sameM (walk_tup (xs := xs)) ts (fun y => .bl y.isW) hlen.symm (by omega) nM (fun H s => SqT.of (s _ _ ea)) ?_ ?_
    · rintro i y x H2' H2 hy s2 ⟨rfl, hx⟩ Q1 q1'
      exact ⟨rfl, _, rfl, p, x, y, rfl, TgAt.same s2 _ _ (hts.at hx hy), fun H3 s3 => q1' _ s3⟩
    intro H2 s2 eM
    refine ⟨M, ts.map Tg.isW, rfl, SqL.of (by rw [eM, List.map_map]; rfl), ?_⟩
    rw [all_map_id]
    refine ⟨_, rfl, ?_⟩
    cases c : ts.all Tg.isW with
    | false =>
      refine iteF ?_
      rw [c, Bool.false_and] at q1
      exact q1 _ s2
    | true =>
    refine iteT ?_
    rw [c, Bool.true_and] at q1
    have ev := whole_vs hts c
    rw [ev] at ea
    refine ⟨_, rfl, _, rfl, dI (ts.map Tg.toI), dI is, .tup (SqT.of (s2 _ _ ea)) (DtAll.dp _ _ (DtAll.ints _)), .tup (SqT.of (s2 _ _ er)) (DtAll.dp _ _ (DtAll.ints _)), plain_dI _, plain_dI _, dI_depth _, ?_⟩
    rw [eqv_dI]
    exact q1 _ s2
/-- with a thing -/
def spTx4 (CF CD CC : Addr) (R : Option (List Tg) → List Fm1 → List Str → List Str → Hp → V → Hp → Prop) : Sp := fun vs H Q E => ∃ (p : Addr) (f d c x : V) (tf td tc : Tg) (o : Option (List Tg)), vs = [f, d, c, x] ∧ TgAt p H f tf ∧ TgAt p H d td ∧ TgAt p H c tc ∧ Th p H x o ∧ tf.sm = true ∧ td.sm = true ∧ tc.sm = true ∧ BadT CF CD CC tf td tc E H ∧
  (Ok3 tf td tc → ∀ r H', Same H H' → R o tf.toFm td.toWs tc.toWs H r H' → Q r H')
def RHolds : Option (List Tg) → List Fm1 → List Str → List Str → Hp → V → Hp → Prop := fun o fm ds cs _ v _ => v = .bl (holdsB (reachF cs (FssF fm ds)) o)
abbrev sReachesHold : Stmt := topS 30
abbrev nReachesHold : List Str := ["forms", "draft", "copy", "thing", "reaches", "reach", "part"]
abbrev pReachesHold : List Str := ["forms", "draft", "copy", "thing"]
theorem scReachesHold : FnScope nReachesHold pReachesHold (defScope sReachesHold) := ⟨rfl, rfl, rfl, by decide +kernel, rfl, by decide +kernel, by decide +kernel⟩
theorem okX_ReachesHold {f CF CD CC : Addr} {fd : FuncData} {k : Nat} (F : Fun K "reaches_hold" "reaches_hold" sReachesHold f fd) (C_reaches_of : CallX P w K mg base k "reaches_of" pReachesOf (spTx CF CD CC RReach)) (C_is_reach : CallOk P w K mg base k "is_reach" pIsReach spIsReach) (m_isinstance : mg "isinstance" = none) (m_list : mg "list" = none) (m_len : mg "len" = none) (m_zip : mg "zip" = none) (m_all : mg "all" = none) : FnOk P w K mg base (L2.CX P w) (k + 1) f fd pReachesHold (spTx4 CF CD CC RHolds) := by
  refine F.okX scReachesHold (fun vs H Q E h => ?_) (fun cdv A outer s H vs Q E hr h => ?_)
  · obtain ⟨p, f, d, c, x, tf, td, tc, o, rfl, _⟩ := h
    rfl
  · obtain ⟨p, fv, dv, cv, xv, tf, td, tc, o, rfl, hf, hd, hc, hx, sf, sd, sc, bad, q⟩ := h
    have nd := scReachesHold.nd
    refine ⟨_, pss_cons (ps_set (i := 4) nd rfl (.inl rfl) (pe_call C_reaches_of.ok hr (by rfl) C_reaches_of.g C_reaches_of.kp C_reaches_of.b .nil (passes_call (takes_of rfl rfl rfl rfl) (fun _ _ _ _ h => h)) (pa_cons (pv 0) (pa_cons (pv 1) (pa_cons (pv 2) pa_nil)))))
      (PSs.nox (pss_cons (ps_if (PW.pt (pw_or (pt_not (pt_val (pe_callB call_isi (by rfl) m_isinstance (by decide +kernel) (pa_cons (pv 3) (pa_cons (pe_bltn (v := .ty "list") (by rfl) m_list (by decide +kernel) rfl) pa_nil))))) (pw_or1 (pt_cmpR op_ne (pe_callB (len_seqK (K := K) (by rfl)) (by rfl) m_len (by decide +kernel) (pa_cons (pv 3) pa_nil)) (pe_callB (len_seqK (K := K) (by rfl)) (by rfl) m_len (by decide +kernel) (pa_cons (pv 4) pa_nil)) (nomark _))))) (pss_one (ps_ret pe_bl)) pss_nil)
      (pss_one (ps_ret (pe_callB (cr_all rfl) (by rfl) m_all (by decide +kernel) (pa_cons (pe_lc (own := [("reach", 5), ("part", 6)]) (g := gTup K 2 (gCons (gName 5) (gCons (gName 6) gNil))) (by rfl) nd (pi_zipB true true (by rfl) m_zip (pa_cons (pv 4) (pa_cons (pv 3) pa_nil))) (blkOk_by (own := [("reach", 5), ("part", 6)]) (N := nReachesHold) (sc := defScope sReachesHold) (by decide +kernel)) (fun _ _ _ _ _ => (pg_tup (by rfl) (pgs_cons (pg_name (i := 5) nd rfl (.inl rfl)) (pgs_cons (pg_name (i := 6) nd rfl (.inl rfl)) pgs_nil)))) (fun _ _ _ _ _ => pts_nil)
          (fun _ _ _ _ _ => (pe_call C_is_reach.ok hr (by rfl) C_is_reach.g C_is_reach.kp C_is_reach.b .nil pass0 (pa_cons (pv 5) (pa_cons (pv 6) pa_nil))))) pa_nil)))))), ?_⟩
    refine ⟨_, rfl, _, rfl, _, rfl, p, fv, dv, cv, tf, td, tc, rfl, hf, hd, hc, sf, sd, sc, bad, fun ok r H1 s1 hr1 => ?_⟩
    obtain ⟨r, rfl, nr, zs, er, ez, hz⟩ := hr1
    have q := q ok
    have ld := toWs_len ok.2.1
    have q : ∀ H', Same H H' → Q (.bl (holdsB (reachF tc.toWs (FssF tf.toFm td.toWs)) o)) H' := fun H' s => q _ H' s rfl
    have rl : (reachF tc.toWs (FssF tf.toFm td.toWs)).length ≤ 100 := by rw [reachF_len, List.length_map]; omega
    generalize reachF tc.toWs (FssF tf.toFm td.toWs) = rs at ez q rl
    have hx1 := hx.same s1
    have zl : zs.length = rs.length := by rw [← ez, List.length_map]
    obtain ⟨t, hT, htl⟩ := hx1.tg
    refine ⟨_, rfl, _, _, _, _, t.isL, rfl, .ty "list", hT.ty, kit_ty t.kL, _, rfl, ?_⟩
    rw [htl]
    cases o with
    | none =>
      refine iteT ?_
      exact q _ s1
    | some ts =>
    refine iteF ?_
    obtain ⟨L, vs, rfl, nL, eL, hts, hos, hvl⟩ := hx1
    have hlen := hts.length
    refine ⟨_, rfl, L, _, rfl, .inl (SqL.of eL), _, rfl, r, _, rfl, .inl (SqL.of er), rfl, _, rfl, ?_⟩
    have el : (!decide (V.int ((vs.length : Nat) : Int) = V.int (((zs.map fun z => V.ref z.1).length : Nat) : Int))) = !decide (ts.length = rs.length) := by
      rw [List.length_map, zl, hlen]
      congr 1
      exact decide_eq_decide.mpr ⟨fun h => by injection h with h; omega, fun h => by rw [h]⟩
    by_cases hl : ts.length = rs.length
    rotate_left
    · refine ite2 (fun _ => ?_) (fun c => ?_)
      · have h := q _ s1
        rw [holdsB_some] at h
        rw [decide_eq_false hl, Bool.false_and] at h
        exact h
      · have c : ¬ (!decide (V.int ((vs.length : Nat) : Int) = V.int (((zs.map fun z => V.ref z.1).length : Nat) : Int))) = true := c
        rw [el, decide_eq_false hl] at c
        exact absurd rfl c
    refine ite2 (fun c => ?_) (fun _ => ?_)
    · have c : (!decide (V.int ((vs.length : Nat) : Int) = V.int (((zs.map fun z => V.ref z.1).length : Nat) : Int))) = true := c
      rw [el, decide_eq_true hl] at c
      cases c
    have q : ∀ H', Same H H' → Q (.bl ((List.range rs.length).all fun i => isRow (rs.getD i []) (ts.getD i .non))) H' := fun H' s => by
      have h := q H' s
      rw [holdsB_some] at h
      rw [decide_eq_true hl, Bool.true_and] at h
      exact h
    refine ⟨_, rfl, _, rfl, r, L, _, _, rfl, SqL.of er, SqL.of eL, fun M nM => ?_⟩
    refine lc_sameM (walk_zipB (c1 := true) (c2 := true) (n := rs.length) (by rw [List.length_map, zl]) (by omega)) (List.range rs.length) (fun i => .bl (isRow (rs.getD i []) (ts.getD i .non))) (by rw [List.length_range]) (by rw [List.length_range]; omega) nM (fun H s => ⟨SqL.of (s _ _ er), SqL.of (s _ _ eL)⟩) ?_ ?_
    · rintro i y x H3 H3' hyj s3 ⟨T0, xx, yy, rfl, nT, rfl, hxx, hyy⟩ Q1 q1
      obtain rfl : i = y := by
        have h9 := (List.getElem?_eq_some_iff.mp hyj).2
        rw [List.getElem_range] at h9
        exact h9
      dsimp only at hxx hyy
      rw [List.getElem?_map] at hxx
      obtain ⟨z, hzi, rfl⟩ := Option.map_eq_some_iff.mp hxx
      have zm := List.mem_of_getElem? hzi
      have eg : rs.getD i [] = z.2 := by
        rw [← ez, List.getD_eq_getElem?_getD, List.getElem?_map, hzi]
        rfl
      obtain ⟨ti, hti, hTi⟩ := hts.get hyy
      have eg2 : ts.getD i .non = ti := by
        rw [List.getD_eq_getElem?_getD, hti]
        rfl
      have s4 := same_new nT (.tup [.ref z.1, yy])
      have eT : (upd H3 T0 (.tup [.ref z.1, yy])) T0 = some (.tup [.ref z.1, yy]) := upd_same
      generalize (upd H3 T0 (.tup [.ref z.1, yy])) = H4 at s4 eT
      have s14 := s3.trans s4
      rw [eg, eg2] at q1
      exact ⟨T0, _, rfl, SqT.of eT, rfl, _, _, rfl, _, _, rfl, rfl, rfl, _, rfl, _, rfl, z.1, p, z.2, yy, ti, rfl, s14 _ _ (hz z zm), TgAt.same s14 _ _ hTi, hos ti (List.mem_of_getElem? hti), fun H5 s5 => q1 _ (s4.trans s5)⟩
    intro H2 s2 eM
    refine ⟨M, (List.range rs.length).map fun i => isRow (rs.getD i []) (ts.getD i .non), rfl, SqL.of (by rw [eM, List.map_map]; rfl), ?_⟩
    rw [all_map_id]
    exact q _ (s1.trans s2)
end
end Deed

namespace Deed.KS
open PySem PySem.Spec PyProof.Rows L2
section
variable {P : Program} {w : World} {α : Type} [DecidableEq α] {knd : KeyKind P w α} {A : Around} {E : Value → Shared → Prop} {s : Shared}
set_option maxHeartbeats 8000000 in
/-- set(t) of a tuple -/
theorem call_setT {l : Addr} {items : Array Value} (ks : List (Addr × List α)) {Q : Value → Shared → Prop} (nh : A.handled = none) (il : s.heap.IsTuple l items) (ia : items.toList = ks.map fun z => Value.ref z.1) (hks : ∀ z ∈ ks, IsTupleKey knd s.heap z.2 z.1) (few : ks.length ≤ 4) (hu : A.units + 3 < cLine)
    (fin : ∀ (h' : Heap) (tk : Nat) L es ep t, Held knd h' s.heap.objs.size L es ep t → Some_ ks ks.length L → (∀ b o, s.heap.get? b = some o → h'.get? b = some o) → Q (.ref s.heap.objs.size) { s with heap := h', toks := tk }) :
    wpAny (model P w) A (call (.type "set") [Value.ref l]) Q E s := by
  have zl : items.size = ks.length := by
    rw [← Array.length_toList, ia, List.length_map]
  obtain ⟨mc, mt, f1⟩ := F.called_set.mro
  have f2 := F.called_set.made
  have f3 := F.called_set.sub
  refine wpAny_call (codeAny_of_tree (?_))
  show wpAny _ _ (callAny (Value.type "set") _) _ _ _
  refine wpAny_pure ⟨Code.quiet_builtin _ (by decide +kernel), (codeAny_builtin F.entry_type_call ?_)⟩
  rw [Around.under_plain (weight_type_call_type "set" [Value.ref l] []) rfl]
  have f4 := F.called_set.notType
  have f5 := F.called_set.canCreate
  have f6 := F.typeCall_set_1 (.ref l)
  repeat (any_goals (first | assumption | wp_step))
  refine codeAny_mono (code_set_led1 (Value.ref l) (E := E) (Q₁ := fun o s₁ => o = .ref s.heap.objs.size ∧ s₁ = { s with heap := s.heap.push (new_ w) }) ⟨rfl, rfl⟩) fun r s₁ hr => ?_
  match r, hr with
  | .error e, hr => exact hr
  | .ok .next, hr => exact hr.elim
  | .ok .brk, hr => exact hr.elim
  | .ok .cont, hr => exact hr.elim
  | .ok (.ret o), hr =>
    obtain ⟨rfl, rfl⟩ := hr
    have atS : (s.heap.push (new_ w)).get? s.heap.objs.size = some (new_ w) := Heap.get?_push_size _ rfl
    have tyS : Shared.TypeIs { s with heap := s.heap.push (new_ w) } (.ref s.heap.objs.size) "set" := ⟨_, atS, rfl⟩
    have f7 := F.called_set.init.lookup
    have f8 := F.called_set.init.bind (.ref s.heap.objs.size)
    repeat (any_goals (first | assumption | wp_step))
    refine codeAny_mono (codeAny_call_builtin (R := wants (fun r s₂ => r = .none ∧ ∃ h' tk L es ep t, s₂ = { s with heap := h', toks := tk } ∧ Held knd h' s.heap.objs.size L es ep t ∧ Some_ ks ks.length L ∧ (∀ b o, s.heap.get? b = some o → h'.get? b = some o)) E) F.called_set.init.plain F.entry_set_init (check_set_init_1 tyS ?_)) fun r₂ s₂ hr₂ => ?_
    · obtain ⟨⟨oc, od, dt, sl⟩, gl, gc, en, gd⟩ := il
      simp only at gc gd
      subst gc
      subst gd
      have gl' : (s.heap.push (new_ w)).get? l = some { cls := .type "tuple", dict := od, data := .seq items en, slots := sl } := Heap.get?_push_of_some _ gl
      have f9 := F.sub_tuple_set
      have f10 := F.sub_tuple_frozenset
      have f11 : (Value.type "tuple" == Value.type "dict") = false := by decide
      have il' : (s.heap.push (new_ w)).IsTuple l items := ⟨_, gl', rfl, en, rfl⟩
      unfold Builtin.«set.__init__» noKeywords Builtin.Frozenset.updateFrom
      generalize ePI : pyIter = IT
      wp_walk
      subst ePI
      refine wpAny_pyIter_tuple il' ?_
      refine wpAny_bind (wpAny_runValue (?_))
      have lt0 : l < s.heap.objs.size := Heap.lt_size gl
      have nh3 : A.in1.in1.in1.handled = none := by simp [nh]
      have nI : l ≠ (s.heap.push (new_ w)).objs.size := by rw [Heap.size_push]; exact Nat.ne_of_lt (Nat.lt_succ_of_lt lt0)
      have nS : s.heap.objs.size ∉ [(s.heap.push (new_ w)).objs.size, l] := by
        rw [Heap.size_push]
        simp only [List.mem_cons, List.not_mem_nil, or_false, not_or]
        exact ⟨Nat.ne_of_lt (Nat.lt_succ_self _), Nat.ne_of_gt lt0⟩
      have vals : ∀ (i : Nat) (v : Value), items[i]? = some v → ∃ z, ks[i]? = some z ∧ v = .ref z.1 := fun i v hv => by
        have q : items.toList[i]? = some v := by rw [Array.getElem?_toList]; exact hv
        rw [ia, List.getElem?_map] at q
        obtain ⟨z, hz, e⟩ := Option.map_eq_some_iff.mp q
        exact ⟨z, hz, e.symm⟩
      have above : ∀ b, s.heap.objs.size ≤ b → s.heap.get? b = none := fun b hb => by
        cases q : s.heap.get? b with
        | none => rfl
        | some o => exact absurd (Nat.lt_of_lt_of_le (Heap.lt_size q) hb) (Nat.lt_irrefl _)
      refine fill ((Walks.tuple nh3 _ l nI items).toS) s.heap.objs.size nS ks zl few vals s.heap hks (above _ (Nat.le_refl _)) (fun b hb => above b ?_) hu (items.size - 0) 0 _ (by omega) (Nat.zero_le _) ⟨⟨_, Heap.get?_push_size _ rfl, rfl, rfl⟩, il'.push _⟩ (fun b o e => Heap.get?_push_of_some _ (Heap.get?_push_of_some _ e)) ⟨[], #[], 0, _, held_new (Heap.get?_push_of_some _ atS), ⟨fun _ z => (nomatch z), fun _ z => (by simp at z), Nat.le_refl _⟩⟩ fun s' L es ep t mv H' g' => ?_
      · rw [List.mem_singleton.mp hb, Heap.size_push]
        exact Nat.le_succ _
      obtain ⟨h', g2, d', tk', os'⟩ := s'
      obtain rfl : g2 = s.gens := mv.gens
      obtain rfl : d' = s.drawn := mv.drawn
      obtain rfl : os' = s.os := mv.os
      show wpAny _ _ _ _ _ _
      refine wpAny_pure (?_)
      show wpAny _ _ (ret Value.none) _ _ _
      refine wpAny_pure ⟨rfl, h', tk', L, es, ep, t, rfl, H', zl ▸ g', fun b o e => ?_⟩
      have ltb : b < s.heap.objs.size := Heap.lt_size e
      refine mv.heap b o (fun z => ?_) (Heap.get?_push_of_some _ (Heap.get?_push_of_some _ e))
      rw [Heap.size_push] at z
      simp only [List.mem_cons, List.not_mem_nil, or_false] at z
      rcases z with z | z
      · exact absurd z (Nat.ne_of_lt ltb)
      · exact absurd z (Nat.ne_of_lt (Nat.lt_succ_of_lt ltb))
    · match r₂, hr₂ with
      | .error e, hr₂ => exact hr₂
      | .ok .next, hr₂ => exact hr₂.elim
      | .ok .brk, hr₂ => exact hr₂.elim
      | .ok .cont, hr₂ => exact hr₂.elim
      | .ok (.ret r), hr₂ =>
        obtain ⟨rfl, h', tk, L, es, ep, t, rfl, H', g', kp⟩ := hr₂
        repeat (any_goals (first | assumption | wp_step))
        exact fin _ _ _ _ _ _ H' g' kp
end
end Deed.KS
namespace Deed
open PySem PySem.Spec PySem.W PyProof.Rows L2 LamX
section
variable {X : Cx}
def rSetTt (K : PySem.W.Frag) (P : Program) (w : World) : List V → Hp → VK → Prop := fun xs H Q => ∃ (l : Addr) (ks : List (Addr × List Str)), xs = [V.ref l] ∧ SqT K H l (ks.map fun z => V.ref z.1) ∧ (∀ z ∈ ks, SqT K H z.1 (z.2.map V.str)) ∧ ks.length ≤ 4 ∧
  ∀ a L, H a = none → (∀ z ∈ L, z ∈ ks) → (∀ z ∈ ks, z.2 ∈ L.map (·.2)) → (L.map (·.2)).Nodup → Q (.ref a) (upd H a (SetS P w a L))
theorem cr_setTt (hc : X.calm = true) (hu : X.A.units + 64 < cLine) : CallR X (.type "set") (rSetTt X.K X.prog X.w) := by
  intro pins s σ H xs us Q I r h
  obtain ⟨l, ks, rfl, hl, hk, few, q⟩ := h
  rw [Vals.ref1 r]
  obtain ⟨its, rv, pl, hz⟩ := I.tuple hl
  have hn : H s.heap.objs.size = none := I.hok.fresh (Nat.le_refl _)
  refine KS.call_setT (knd := strKind X.prog X.w) ks (I.ok.hd hc) pl (by simpa using refs_vals rv) (fun z hz => inv_key I (hk z hz)) few (by omega) fun h' tk L es ep t R g k => ?_
  refine ⟨.ref _, _, I.laid (t' := tk) k (Nat.le_refl _) (setS_ok R), rfl, q _ L hn (fun z hz => List.mem_of_mem_take (g.from_ z hz)) (fun z hz => g.has z (by rw [List.take_length]; exact hz)) R.apart⟩
end
end Deed

namespace Deed.KX
open PySem PySem.Spec PyProof.Rows L2 Deed.KS
/-! ### sets of a few texts -/
def keyT (e : Int × Value) : Str := match e.2 with | .str k _ => k | _ => ""
def GoodT (w : World) (e : Int × Value) : Prop := ∃ k tk, e.2 = Value.str k tk ∧ e.1 = hashStr w k
/-- the set of the texts l at a -/
def TxS (w : World) (h : Heap) (a : Addr) (l : List Str) : Prop :=
  ∃ o es ep t, h.get? a = some o ∧ o.ExactSet ∧ o.data = .set es ep t ∧ (∀ e ∈ es.toList, GoodT w e) ∧ (es.toList.map keyT).Perm l ∧ l.Nodup ∧
    es.size < scanBound ∧ t.fits es.size = true ∧ es.size = l.length ∧ Ris t.place.toList ∧ (w.params.followText "set-order" = true ∨ t.led = true)
section
variable {P : Program} {w : World} {h h' : Heap} {a : Addr} {l : List Str}
theorem TxS.at (R : TxS w h a l) (k : ∀ o, h.get? a = some o → h'.get? a = some o) : TxS w h' a l := by
  obtain ⟨o, es, ep, t, ho, r⟩ := R
  exact ⟨o, es, ep, t, k o ho, r⟩
theorem good_elems {l : List (Int × Value)} (g : ∀ e ∈ l, GoodT w e) : ElemsOf (strKind P w) l := fun e he => by
  obtain ⟨k, tk, h1, h2⟩ := g e he
  exact ⟨⟨k, by rw [h1]; exact Froz.is_str k tk, h2⟩, by rw [h1] <;> rfl⟩
theorem good_is {e : Int × Value} (g : GoodT w e) (k : Str) : (strKind P w).is k e.2 = true ↔ keyT e = k := by
  obtain ⟨k0, tk, h1, _⟩ := g
  unfold keyT
  rw [h1]
  exact ⟨fun h => (strKind P w).inj (.str k0 tk) k0 k (Froz.is_str k0 tk) h, fun h => h ▸ Froz.is_str k0 tk⟩
theorem good_mem {l : List (Int × Value)} (g : ∀ e ∈ l, GoodT w e) (k : Str) : k ∈ l.map keyT ↔ ∃ e ∈ l, (strKind P w).is k e.2 = true := by
  rw [List.mem_map]
  constructor
  · rintro ⟨e, he, q⟩
    exact ⟨e, he, (good_is (g e he) k).2 q⟩
  · rintro ⟨e, he, q⟩
    exact ⟨e, he, (good_is (g e he) k).1 q⟩
end
section
variable {P : Program} {w : World} {A : Around} {E : Value → Shared → Prop} {s : Shared} {a : Addr} {l : List Str}
theorem txS_new {h : Heap} {a : Addr} (e : h.get? a = some (new_ w)) : TxS w h a [] :=
  ⟨_, #[], 0, _, e, ⟨rfl, rfl, rfl⟩, rfl, (fun e he => by simp at he), (by simp), (by simp), (by decide), (by rfl), rfl, List.Pairwise.nil, by
    show _ ∨ (!w.params.followText "set-order") = true
    cases w.params.followText "set-order"
    · exact .inr rfl
    · exact .inl rfl⟩
theorem add_tail {g : Bool → Sem Unit} (hg : ∀ (b : Bool) (s₁ : Shared) (Q' : Unit → Shared → Prop), Q' () s₁ → wpAny (model P w) A (g b) Q' E s₁)
    {o : Obj} {es : Array (Int × Value)} {ep : Nat} {t : SetTable} (ho : s.heap.get? a = some o) (hex : o.ExactSet) (hd : o.data = .set es ep t)
    {es1 : Array (Int × Value)} {t2 : SetTable} {l1 : List Str} (g1 : ∀ e ∈ es1.toList, GoodT w e) (m1 : (es1.toList.map keyT).Perm l1) (nd1 : l1.Nodup)
    (hb1 : es1.size < scanBound) (hf2 : t2.fits es1.size = true) (hn1 : es1.size = l1.length) (hr : Ris t2.place.toList) (hl : w.params.followText "set-order" = true ∨ t2.led = true) {wasDummy : Bool} {R : Option Bool → Shared → Prop}
    (hR : ∀ h', Heap.SameBut a s.heap h' → TxS w h' a l1 → R (some true) { s with heap := h' }) :
    wpAny (model P w) A (do
        storeSet a es1 t2
        if (!wasDummy && t2.tooFull) = true then do
            g (relayAll t2 es1 (SetTable.grown es1.size)).2.2
            storeSet a (relayAll t2 es1 (SetTable.grown es1.size)).1 (relayAll t2 es1 (SetTable.grown es1.size)).2.1
            pure (some true)
          else pure (some true)) R E s := by
  refine wpAny_bind (wpAny_storeSet_of ho hd ?_ (fits_of_scanBound hb1))
  have ho1 := store_at (es' := es1) (t' := t2) ho hd
  have sb1 := Heap.SameBut.update s.heap a (Obj.putSet es1 t2)
  split
  · have pm := relayAll_perm t2 es1 (SetTable.grown es1.size)
    have hf3 := relayAll_fits t2 es1 (SetTable.grown es1.size)
    have hr3 := relayAll_ris t2 es1 (SetTable.grown es1.size)
    have hl3 := relayAll_led t2 es1 (SetTable.grown es1.size)
    generalize relayAll t2 es1 (SetTable.grown es1.size) = Z at pm hf3 hr3 hl3 ⊢
    obtain ⟨es2, t3, gave⟩ := Z
    dsimp only at pm hf3 hr3 hl3 ⊢
    have hsz : es2.size = es1.size := by rw [← Array.length_toList, pm.length_eq, Array.length_toList]
    have hb2 : es2.size < scanBound := by rw [hsz]; exact hb1
    refine wpAny_bind (hg _ _ _ ?_)
    refine wpAny_bind (wpAny_storeSet_of ho1 rfl ?_ (fits_of_scanBound hb2))
    have ho2 := store_at (es' := es2) (t' := t3) ho1 rfl
    refine wpAny_pure (hR _ (sb1.trans (Heap.SameBut.update _ a _)) ?_)
    exact ⟨_, es2, _, t3, ho2, hex, rfl, fun e he => g1 e (pm.mem_iff.mp he), (pm.map keyT).trans m1, nd1, hb2, hf3, hsz.trans hn1, hr3, hl.imp id fun z => by rw [hl3]; exact z⟩
  · exact wpAny_pure (hR _ sb1 ⟨_, es1, _, t2, ho1, hex, rfl, g1, m1, nd1, hb1, hf2, hn1, hr, hl⟩)
theorem add_hashed {k : Str} {tk : Tok} {Q : Bool → Shared → Prop} (R : TxS w s.heap a l) (room : l.length + 1 < scanBound)
    (hQ : ∀ h' l', Heap.SameBut a s.heap h' → TxS w h' a l' → (k ∈ l → l' = l) → (k ∉ l → l' = k :: l) → ∀ b, Q b { s with heap := h' }) :
    wpAny (model P w) A (setAddHashed a (.str k tk) ((strKind P w).hash k)) Q E s := by
  obtain ⟨o, es, ep, t, ho, hex, hd, g, hm, nd, hb, hf, hn, hr, hl⟩ := R
  have hkey : (strKind P w).is k (.str k tk) = true := Froz.is_str k tk
  have hsc : (Value.str k tk).scannable = true := rfl
  have hel : ElemsOf (strKind P w) es.toList := good_elems g
  unfold setAddHashed setAddHashedIn
  refine wpAny_holding (wpAny_bind (wpAny_setState_of ho hd hf ?_))
  dsimp only
  rw [byScan_of hsc hb hel]
  simp only [↓reduceIte]
  unfold setAddByScan
  refine wpAny_bind ?_
  refine wpAny_bind (wpAny_rule ?_)
  refine wpAny_bind (wpAny_setScan_of hkey ho hd hf hel ?_)
  cases hfi : List.findIdx? (fun e => (strKind P w).is k e.2) es.toList with
  | some j =>
    dsimp only
    obtain ⟨hj, pj, _⟩ := List.findIdx?_eq_some_iff_getElem.mp hfi
    have hk : k ∈ l := hm.mem_iff.mp ((good_mem (P := P) (w := w) g k).2 ⟨es.toList[j], List.getElem_mem hj, pj⟩)
    refine wpAny_pure (wpAny_pure ?_)
    exact hQ s.heap l (Heap.SameBut.refl a s.heap) ⟨o, es, ep, t, ho, hex, hd, g, hm, nd, hb, hf, hn, hr, hl⟩ (fun _ => rfl) (fun z => absurd hk z) _
  | none =>
    dsimp only
    have hnk : k ∉ l := fun z => by
      obtain ⟨e, he, q⟩ := (good_mem (P := P) (w := w) g k).1 (hm.mem_iff.mpr z)
      have c := List.findIdx?_eq_none_iff.mp hfi e he
      rw [q] at c
      cases c
    have hgw : ∀ (b : Bool) {s₁ : Shared} {Q' : Unit → Shared → Prop}, Q' () s₁ → wpAny (model P w) A (match b with | true => rule "set.scan.the-table-gave-way" | false => pure ()) Q' E s₁ :=
      fun b s₁ Q' q => by cases b <;> first | exact wpAny_pure q | exact wpAny_rule q
    have pm := layNew_perm t es ((strKind P w).hash k) (.str k tk)
    have hf1 := layNew_fits t es ((strKind P w).hash k) (.str k tk)
    have hr1 := layNew_ris t es ((strKind P w).hash k) (.str k tk) hr
    have hl1 := layNew_led t es ((strKind P w).hash k) (.str k tk)
    generalize layNew t es ((strKind P w).hash k) (.str k tk) = Z at pm hf1 hr1 hl1 ⊢
    obtain ⟨es1, t1, wasDummy, gave⟩ := Z
    dsimp only at pm hf1 hr1 hl1 ⊢
    rw [Array.toList_push] at pm
    have pc : es1.toList.Perm (((strKind P w).hash k, Value.str k tk) :: es.toList) := pm.trans (List.perm_append_singleton _ _)
    have pk : (es1.toList.map keyT).Perm (k :: l) := (pc.map keyT).trans (hm.cons k)
    have g1 : ∀ e ∈ es1.toList, GoodT w e := fun e he => by
      rcases List.mem_cons.mp (pc.mem_iff.mp he) with z | z
      · rw [z]; exact ⟨k, tk, rfl, rfl⟩
      · exact g e z
    have nd1 : (k :: l).Nodup := List.nodup_cons.mpr ⟨hnk, nd⟩
    have hsz : es1.size = l.length + 1 := by rw [← Array.length_toList, pc.length_eq, List.length_cons, Array.length_toList, hn]
    have hb1 : es1.size < scanBound := by rw [hsz]; exact room
    have hled : w.params.followText "set-order" = true ∨ t1.led = true := hl.imp id fun z => by rw [hl1]; exact z
    have fin : ∀ h', Heap.SameBut a s.heap h' → TxS w h' a (k :: l) → Q true { s with heap := h' } := fun h' sb r => hQ h' _ sb r (fun z => absurd z hnk) (fun _ => rfl) true
    refine wpAny_bind (hgw _ ?_)
    split
    · refine wpAny_bind ?_
      rw [hashByValue_scannable 8 hsc]
      refine wpAny_pure ?_
      refine add_tail ?_ ho hex hd g1 pk nd1 hb1 ?_ hsz ?_ ?_ ?_
      · intro b s₁ Q' q; cases b <;> first | exact wpAny_pure q | exact wpAny_rule q
      · first | (split <;> first | exact hf1 | exact SetTable.fits_plain_off hf1) | exact hf1
      · first | (split <;> exact hr1) | exact hr1
      · first | (split <;> exact hled) | exact hled
      · intro h' sb r; dsimp only; exact wpAny_pure (fin h' sb r)
    · refine wpAny_bind (wpAny_pure ?_)
      simp only [↓reduceIte]
      refine add_tail ?_ ho hex hd g1 pk nd1 hb1 hf1 hsz hr1 hled ?_
      · intro b s₁ Q' q; cases b <;> first | exact wpAny_pure q | exact wpAny_rule q
      · intro h' sb r; dsimp only; exact wpAny_pure (fin h' sb r)
structure Some1 (ks : List Str) (i : Nat) (L : List Str) : Prop where
  from_ : ∀ z ∈ L, z ∈ ks.take i
  has : ∀ z ∈ ks.take i, z ∈ L
  size : L.length ≤ i
theorem Some1.more {ks L L' : List Str} {i : Nat} {x : Str} (g : Some1 ks i L) (h : ks[i]? = some x) (old : x ∈ L → L' = L) (new : x ∉ L → L' = x :: L) : Some1 ks (i + 1) L' := by
  have e : ks.take (i + 1) = ks.take i ++ [x] := by
    rw [List.take_add_one, h]
    rfl
  rcases Classical.em (x ∈ L) with c | c
  · rw [old c]
    refine ⟨fun z hz => by rw [e]; exact List.mem_append_left _ (g.from_ z hz), fun z hz => ?_, Nat.le_succ_of_le g.size⟩
    rw [e] at hz
    rcases List.mem_append.mp hz with hz | hz
    · exact g.has z hz
    · rw [List.mem_singleton.mp hz]
      exact c
  · rw [new c]
    refine ⟨fun z hz => ?_, fun z hz => ?_, ?_⟩
    · rw [e]
      rcases List.mem_cons.mp hz with rfl | hz
      · exact List.mem_append_right _ List.mem_cons_self
      · exact List.mem_append_left _ (g.from_ z hz)
    · rw [e] at hz
      rcases List.mem_append.mp hz with hz | hz
      · exact List.mem_cons_of_mem _ (g.has z hz)
      · rw [List.mem_singleton.mp hz]
        exact List.mem_cons_self
    · rw [List.length_cons]
      exact Nat.succ_le_succ g.size
/-- the set is filled -/
theorem fillX {I : Addr} {fp wr : List Addr} {G : Array GenState → Array GenState → Prop} {n : Nat} {Pv : Nat → Value → Prop} {St : Nat → Shared → Prop} {R : Result → Shared → Prop} (W : WalksS P w A.in1 I fp wr G n Pv St) (S : Addr) (out : S ∉ fp) (ks : List Str) (hn : n = ks.length) (few : ks.length + 1 < scanBound)
    (vals : ∀ i v, Pv i v → ∃ z u, ks[i]? = some z ∧ v = .str z u) (h0 : Heap) (hS : h0.get? S = none) (hwr : ∀ b ∈ wr, h0.get? b = none) (hu : A.in1.units < cLine) :
    ∀ (d i : Nat) (s : Shared), n - i = d → i ≤ n → St i s → (∀ b o, h0.get? b = some o → s.heap.get? b = some o) → (∃ L, TxS w s.heap S L ∧ Some1 ks i L) →
      (∀ s' L, Moved (S :: wr) G s s' → TxS w s'.heap S L → Some1 ks n L → R (.ok (.ret .none)) s') → codeAny (model P w) A (.builtin "set.update.loop" ⟨[.ref S, .ref I], []⟩) R s := by
  have outw : S ∉ wr := fun z => out (W.sub _ z)
  have kept : ∀ {s s' : Shared}, Moved wr G s s' → (∀ b o, h0.get? b = some o → s.heap.get? b = some o) → ∀ b o, h0.get? b = some o → s'.heap.get? b = some o := fun mv kp b o e => mv.heap b o (fun z => by rw [hwr b z] at e; cases e) (kp b o e)
  intro d
  induction d with
  | zero =>
    intro i s hd hi st kp ⟨L, H, g⟩ fin
    obtain rfl : i = n := by omega
    refine codeAny_builtin F.entry_set_update_loop ?_
    rw [Around.under_plainId F.plain_set_update_loop _]
    show wpAny _ A.in1 (pyNext (.ref I) >>= _) _ _ _
    refine wpAny_bind (W.done s _ _ st fun s' mv => ?_)
    show wpAny _ A.in1 (ret Value.none) _ _ _
    exact wpAny_pure (fin s' L (mv.mono fun b hb => List.mem_cons_of_mem _ hb) (H.at (fun o e => mv.heap S o outw e)) g)
  | succ d ih =>
    intro i s hd hi st kp ⟨L, H, g⟩ fin
    have lt : i < n := by omega
    refine codeAny_builtin F.entry_set_update_loop ?_
    rw [Around.under_plainId F.plain_set_update_loop _]
    show wpAny _ A.in1 (pyNext (.ref I) >>= _) _ _ _
    refine wpAny_bind (W.item i s _ _ lt st fun v s' hv st' mv => ?_)
    obtain ⟨z, u, hz, rfl⟩ := vals i v hv
    have kp' := kept mv kp
    have H' : TxS w s'.heap S L := H.at (fun o e => mv.heap S o outw e)
    have sz := g.size
    show wpAny _ A.in1 (holding [Value.str z u] (setAdd S (.str z u)) >>= _) _ _ _
    refine wpAny_bind (wpAny_holding ?_)
    unfold setAdd
    refine wpAny_holding (wpAny_bind ((strKind P w).pyHash (Froz.is_str z u) ?_))
    refine add_hashed (s := { s' with toks := s'.toks + 1 }) H' (by omega) fun h' L' sb H2 old new b => ?_
    have kp2 : ∀ b o, h0.get? b = some o → h'.get? b = some o := fun b o e => (sb.2 b fun q => by rw [q, hS] at e; cases e).trans (kp' b o e)
    refine wpAny_pure ⟨plainId_quiet F.plain_set_update_loop _, ih (i + 1) _ (by omega) lt (W.frame _ s' _ _ st' (Nat.le_add_right _ _) fun b hb o e => ?_) kp2 ⟨L', H2, g.more hz old new⟩ fun s3 L3 mv3 H3 g3 => ?_⟩
    · exact (sb.2 b fun q => out (q ▸ hb)).trans e
    · refine fin s3 L3 (Moved.trans W.gtrans ((mv.mono fun b hb => List.mem_cons_of_mem _ hb).then_heap (Nat.le_add_right _ _) fun b o hb e => ?_) mv3) H3 g3
      exact (sb.2 b fun q => hb (q ▸ List.mem_cons_self)).trans e
theorem strs_at : ∀ (ks : List Str) (us : List Value), Vals (ks.map V.str) us → ∀ (i : Nat) (v : Value), us[i]? = some v → ∃ z u, ks[i]? = some z ∧ v = .str z u
  | [], _, h, i, v, hv => by
    cases h
    simp at hv
  | k :: r, _, h, i, v, hv => by
    cases h with
    | cons h1 h2 =>
      obtain ⟨t, rfl⟩ := h1
      cases i with
      | zero =>
        cases hv
        exact ⟨k, t, rfl, rfl⟩
      | succ i => exact strs_at r _ h2 i v hv
set_option maxHeartbeats 8000000 in
/-- set(xs) of a list -/
theorem call_setX {l : Addr} {items : Array Value} (ks : List Str) {Q : Value → Shared → Prop} (nh : A.handled = none) (il : s.heap.IsList l items) (ia : Vals (ks.map V.str) items.toList) (few : ks.length + 1 < scanBound) (hu : A.units + 3 < cLine)
    (fin : ∀ (h' : Heap) (tk : Nat) L, TxS w h' s.heap.objs.size L → Some1 ks ks.length L → (∀ b o, s.heap.get? b = some o → h'.get? b = some o) → Q (.ref s.heap.objs.size) { s with heap := h', toks := tk }) :
    wpAny (model P w) A (call (.type "set") [Value.ref l]) Q E s := by
  have zl : items.size = ks.length := by
    rw [← Array.length_toList, ← ia.length, List.length_map]
  obtain ⟨mc, mt, f1⟩ := F.called_set.mro
  have f2 := F.called_set.made
  have f3 := F.called_set.sub
  refine wpAny_call (codeAny_of_tree (?_))
  show wpAny _ _ (callAny (Value.type "set") _) _ _ _
  refine wpAny_pure ⟨Code.quiet_builtin _ (by decide +kernel), (codeAny_builtin F.entry_type_call ?_)⟩
  rw [Around.under_plain (weight_type_call_type "set" [Value.ref l] []) rfl]
  have f4 := F.called_set.notType
  have f5 := F.called_set.canCreate
  have f6 := F.typeCall_set_1 (.ref l)
  repeat (any_goals (first | assumption | wp_step))
  refine codeAny_mono (code_set_led1 (Value.ref l) (E := E) (Q₁ := fun o s₁ => o = .ref s.heap.objs.size ∧ s₁ = { s with heap := s.heap.push (new_ w) }) ⟨rfl, rfl⟩) fun r s₁ hr => ?_
  match r, hr with
  | .error e, hr => exact hr
  | .ok .next, hr => exact hr.elim
  | .ok .brk, hr => exact hr.elim
  | .ok .cont, hr => exact hr.elim
  | .ok (.ret o), hr =>
    obtain ⟨rfl, rfl⟩ := hr
    have atS : (s.heap.push (new_ w)).get? s.heap.objs.size = some (new_ w) := Heap.get?_push_size _ rfl
    have tyS : Shared.TypeIs { s with heap := s.heap.push (new_ w) } (.ref s.heap.objs.size) "set" := ⟨_, atS, rfl⟩
    have f7 := F.called_set.init.lookup
    have f8 := F.called_set.init.bind (.ref s.heap.objs.size)
    repeat (any_goals (first | assumption | wp_step))
    refine codeAny_mono (codeAny_call_builtin (R := wants (fun r s₂ => r = .none ∧ ∃ h' tk L, s₂ = { s with heap := h', toks := tk } ∧ TxS w h' s.heap.objs.size L ∧ Some1 ks ks.length L ∧ (∀ b o, s.heap.get? b = some o → h'.get? b = some o)) E) F.called_set.init.plain F.entry_set_init (check_set_init_1 tyS ?_)) fun r₂ s₂ hr₂ => ?_
    · obtain ⟨⟨oc, od, dt, sl⟩, gl, gc, en, gd⟩ := il
      simp only at gc gd
      subst gc
      subst gd
      have gl' : (s.heap.push (new_ w)).get? l = some { cls := .type "list", dict := od, data := .seq items en, slots := sl } := Heap.get?_push_of_some _ gl
      have f9 := F.sub_list_set
      have f10 := F.sub_list_frozenset
      have f11 : (Value.type "list" == Value.type "dict") = false := by decide
      have il' : (s.heap.push (new_ w)).IsList l items := ⟨_, gl', rfl, en, rfl⟩
      unfold Builtin.«set.__init__» noKeywords Builtin.Frozenset.updateFrom
      generalize ePI : pyIter = IT
      wp_walk
      subst ePI
      refine wpAny_pyIter_list il' ?_
      refine wpAny_bind (wpAny_runValue (?_))
      have lt0 : l < s.heap.objs.size := Heap.lt_size gl
      have nh3 : A.in1.in1.in1.handled = none := by simp [nh]
      have nI : l ≠ (s.heap.push (new_ w)).objs.size := by rw [Heap.size_push]; exact Nat.ne_of_lt (Nat.lt_succ_of_lt lt0)
      have nS : s.heap.objs.size ∉ [(s.heap.push (new_ w)).objs.size, l] := by
        rw [Heap.size_push]
        simp only [List.mem_cons, List.not_mem_nil, or_false, not_or]
        exact ⟨Nat.ne_of_lt (Nat.lt_succ_self _), Nat.ne_of_gt lt0⟩
      have vals : ∀ (i : Nat) (v : Value), items[i]? = some v → ∃ z u, ks[i]? = some z ∧ v = .str z u := fun i v hv => by
        have q : items.toList[i]? = some v := by rw [Array.getElem?_toList]; exact hv
        exact strs_at ks _ ia i v q
      have above : ∀ b, s.heap.objs.size ≤ b → s.heap.get? b = none := fun b hb => by
        cases q : s.heap.get? b with
        | none => rfl
        | some o => exact absurd (Nat.lt_of_lt_of_le (Heap.lt_size q) hb) (Nat.lt_irrefl _)
      refine fillX ((Walks.list nh3 _ l nI items).toS) s.heap.objs.size nS ks zl few vals s.heap (above _ (Nat.le_refl _)) (fun b hb => above b ?_) hu (items.size - 0) 0 _ (by omega) (Nat.zero_le _) ⟨⟨_, Heap.get?_push_size _ rfl, rfl, rfl⟩, il'.push _⟩ (fun b o e => Heap.get?_push_of_some _ (Heap.get?_push_of_some _ e)) ⟨[], txS_new (Heap.get?_push_of_some _ atS), ⟨fun _ z => (nomatch z), fun _ z => (by simp at z), Nat.le_refl _⟩⟩ fun s' L mv H' g' => ?_
      · rw [List.mem_singleton.mp hb, Heap.size_push]
        exact Nat.le_succ _
      obtain ⟨h', g2, d', tk', os'⟩ := s'
      obtain rfl : g2 = s.gens := mv.gens
      obtain rfl : d' = s.drawn := mv.drawn
      obtain rfl : os' = s.os := mv.os
      show wpAny _ _ _ _ _ _
      refine wpAny_pure (?_)
      show wpAny _ _ (ret Value.none) _ _ _
      refine wpAny_pure ⟨rfl, h', tk', L, rfl, H', zl ▸ g', fun b o e => ?_⟩
      have ltb : b < s.heap.objs.size := Heap.lt_size e
      refine mv.heap b o (fun z => ?_) (Heap.get?_push_of_some _ (Heap.get?_push_of_some _ e))
      rw [Heap.size_push] at z
      simp only [List.mem_cons, List.not_mem_nil, or_false] at z
      rcases z with z | z
      · exact absurd z (Nat.ne_of_lt ltb)
      · exact absurd z (Nat.ne_of_lt (Nat.lt_succ_of_lt ltb))
    · match r₂, hr₂ with
      | .error e, hr₂ => exact hr₂
      | .ok .next, hr₂ => exact hr₂.elim
      | .ok .brk, hr₂ => exact hr₂.elim
      | .ok .cont, hr₂ => exact hr₂.elim
      | .ok (.ret r), hr₂ =>
        obtain ⟨rfl, h', tk, L, rfl, H', g', kp⟩ := hr₂
        repeat (any_goals (first | assumption | wp_step))
        exact fin _ _ _ H' g' kp
end
end Deed.KX
namespace Deed.KX
open PySem PySem.Spec PySem.W PyProof.Rows L2 LamX Deed.KS
section
variable {P : Program} {w : World} {A : Around} {E : Value → Shared → Prop} {s : Shared} {a : Addr} {l : List Str}
theorem good_strs : ∀ {l : List (Int × Value)}, (∀ e ∈ l, GoodT w e) → Vals ((l.map keyT).map V.str) (l.map (·.2))
  | [], _ => .nil
  | e :: r, g => by
    obtain ⟨k, tk, h1, _⟩ := g e List.mem_cons_self
    have h2 : e.2 = .str (keyT e) tk := by
      unfold keyT
      rw [h1]
    exact .cons ⟨tk, h2⟩ (good_strs fun y hy => g y (List.mem_cons_of_mem _ hy))
/-- sorted(set) -/
theorem call_sortedX (R : TxS w s.heap a l) (nh : A.handled = none) (hu : A.units + 64 < cLine) {Q : Value → Shared → Prop}
    (fin : ∀ s' p (out : List Value) (c : Nat) (l' : List Str), (∀ b o, s.heap.get? b = some o → s'.heap.get? b = some o) → s'.gens = s.gens → s'.os = s.os → s.heap.objs.size ≤ p → s'.heap.get? p = some (seqObj "list" out.toArray c) → Vals (l'.map V.str) out →
      l'.Perm l → l'.Pairwise (fun y z => dataLt (.str z) (.str y) = false) → Q (.ref p) s') : wpAny (model P w) A (call (.builtin "sorted") [Value.ref a]) Q E s := by
  obtain ⟨o, es, ep, t, ho, hex, hd, g, hm, nd, hb, hf, hn, hr, hl⟩ := R
  refine Calls.call_function_entry kind_sorted plain_sorted entry_sorted (args_sorted1 (.ref a)) (?_)
  unfold Builtin.«sorted»
  refine wpAny_bind (m := checkCount "sorted" 1 1 _) (wpAny_pure (wpAny_bind ?_))
  refine collect_set (A := A.in1) nh ⟨o, ho, hex.1, hd⟩ hf hb hr hl fun s1 vs k1 low g1 o1 pm => ?_
  have pmv : ∃ l1 : List Str, Vals (l1.map V.str) vs ∧ l1.Perm l := by
    obtain ⟨zs, e, pz⟩ := perm_lifts (fun e : Int × Value => e.2) pm es.toList rfl
    refine ⟨zs.map keyT, ?_, (pz.map keyT).trans hm⟩
    rw [e]
    exact good_strs fun y hy => g y (pz.mem_iff.mp hy)
  obtain ⟨l1, hv, pm1⟩ := pmv
  have l1l := pm1.length_eq
  have vsl : vs.length = l1.length := by rw [← hv.length, List.length_map]
  have hbb : l.length < scanBound := hn ▸ hb
  have hsl : l.length ≤ sizeLine := by
    have := fits_of_scanBound hbb
    first | exact this | (rw [sizeLine_eq]; unfold scanBound at hbb; omega)
  refine wpAny_bind (wpAny_newList ?_ (by rw [vsl, l1l]; exact hsl))
  have at0 : (s1.heap.push (seqObj "list" vs.toArray 0)).get? s1.heap.objs.size = some (seqObj "list" vs.toArray 0) := Heap.get?_push_size _ rfl
  have rd : ∀ {l : List Str} {us : List Value}, Vals (l.map V.str) us → EachIs (fun v (x : Str) => ∃ u, v = Value.str x u) us l := by
    intro l
    induction l with
    | nil =>
      intro us h
      cases h
      exact .nil
    | cons x r ih =>
      intro us h
      cases h with
      | cons h1 h2 => exact .cons h1 (ih h2)
  have rd2 : ∀ {l : List Str} {us : List Value} {h : Heap} {a : Addr}, EachIs (fun v (x : Str) => ∃ u, v = Value.str x u) us l → EachIs (fun v (x : Str) => ∃ as, Reads h v (.str x) as ∧ a ∉ as) us l := by
    intro l us h a q
    induction q with
    | nil => exact .nil
    | cons h1 _ ih =>
      obtain ⟨u, rfl⟩ := h1
      exact .cons ⟨[], .str _ u, by simp⟩ ih
  have back : ∀ {l : List Str} {us : List Value}, EachIs (fun v (x : Str) => ∃ u, v = Value.str x u) us l → Vals (l.map V.str) us := by
    intro l us q
    induction q with
    | nil => exact .nil
    | cons h1 _ ih => exact .cons h1 ih
  have hal : AllAlike (l1.map PyData.str) := AllAlike.of fun z z' => by simp [alike]
  have hsr : Sortable (l1.map PyData.str) := .inr fun d hd => by
    obtain ⟨z, hz, rfl⟩ := List.mem_map.mp hd
    exact ⟨fun q => (by cases q), fun _ q => (by cases q)⟩
  have kp : ∀ b o, s.heap.get? b = some o → ∀ out, (sortedHeap (s1.heap.push (seqObj "list" vs.toArray 0)) s1.heap.objs.size vs out).get? b = some o := fun b ob e out => by
    have e' := k1 b ob e
    have lt := Heap.lt_size e'
    exact (sortedHeap_old (Nat.ne_of_lt lt) (by rw [size_push']; exact Nat.lt_succ_of_lt lt)).trans (Heap.get?_push_of_some _ e')
  refine wpAny_bind (wpAny_holding (list_sort_data (s := { s1 with heap := s1.heap.push (seqObj "list" vs.toArray 0) }) (bs := l1) (R := fun v (x : Str) => ∃ u, v = Value.str x u) (enc := PyData.str) at0 (rd hv) (rd2 (rd hv)) hal hsr (by rw [l1l]; exact hsl) (fun z _ => ?_) fun out ho eo => ?_))
  · show A.units + 1 + 1 + (PyData.str z).depth < cLine
    simp only [PyData.depth]
    omega
  have pw : (l1.mergeSort (dataLe false PyData.str)).Pairwise (fun p q => dataLe false PyData.str p q = true) := sort_pairwise (sortLe_total _ _ _) l1
  obtain ⟨c, hc⟩ := sortedHeap_at (vs := vs) (out := out.toArray) at0
  refine wpAny_pure ⟨_, rfl, fin _ s1.heap.objs.size out c _ (fun b ob e => kp b ob e _) g1 o1 low hc (back eo) ((List.mergeSort_perm _ _).trans pm1) (pw.imp fun h => ?_)⟩
  rw [dataLe_eq] at h
  simpa using h
end
end Deed.KX
namespace Deed
open PySem PySem.Spec PySem.W PyProof.Rows L2 LamX
def SetTx (w : World) (a : Addr) (l : List Str) : HO := .ext fun h => KX.TxS w h a l
section
variable {X : Cx}
theorem setTx_ok {P : Program} {w : World} {H : Hp} {h : Heap} {a : Addr} {l : List Str} (R : KX.TxS w h a l) : ObjOk P w H h a (SetTx w a l) :=
  ⟨R, let ⟨o, _, _, _, e, _⟩ := R; ⟨o, e⟩, fun h1 h2 q k => KX.TxS.at q k⟩
def rSetTx (K : PySem.W.Frag) (w : World) : List V → Hp → VK → Prop := fun xs H Q => ∃ (l : Addr) (ks : List Str), xs = [V.ref l] ∧ SqL K H l (ks.map V.str) ∧ ks.length + 1 < scanBound ∧
  ∀ a L, H a = none → (∀ z ∈ L, z ∈ ks) → (∀ z ∈ ks, z ∈ L) → L.Nodup → Q (.ref a) (upd H a (SetTx w a L))
theorem cr_setTx (hc : X.calm = true) (hu : X.A.units + 64 < cLine) : CallR X (.type "set") (rSetTx X.K X.w) := by
  intro pins s σ H xs us Q I r h
  obtain ⟨l, ks, rfl, hl, few, q⟩ := h
  rw [Vals.ref1 r]
  obtain ⟨its, rv, pl, hz⟩ := I.list hl
  have hn : H s.heap.objs.size = none := I.hok.fresh (Nat.le_refl _)
  refine KX.call_setX ks (I.ok.hd hc) pl.isList (by simpa using rv) few (by omega) fun h' tk L R g k => ?_
  have nd : L.Nodup := by
    obtain ⟨_, _, _, _, _, _, _, _, _, nd, _⟩ := R
    exact nd
  refine ⟨.ref _, _, I.laid (t' := tk) k (Nat.le_refl _) (setTx_ok R), rfl, q _ L hn (fun z hz => List.mem_of_mem_take (g.from_ z hz)) (fun z hz => g.has z (by rw [List.take_length]; exact hz)) nd⟩
def rSortTx (w : World) : List V → Hp → VK → Prop := fun vs H Q => ∃ (a : Addr) (L : List Str), vs = [V.ref a] ∧ H a = some (SetTx w a L) ∧
  ∀ (L' : List Str) (p : Addr), L'.Perm L → L'.Pairwise (fun y z => dataLt (.str z) (.str y) = false) → H p = none → Q (.ref p) (upd H p (.lst (L'.map V.str)))
theorem cr_sortTx (hc : X.calm = true) (hu : X.A.units + 64 < cLine) : CallR X (.builtin "sorted") (rSortTx X.w) := by
  intro pins s σ H vs us Q I r h
  obtain ⟨a, L, rfl, ha, q⟩ := h
  rw [Vals.ref1 r]
  obtain ⟨R, _, _⟩ := I.hok a _ ha
  have R' : KX.TxS X.w s.heap a L := R
  have hsl : L.length ≤ sizeLine := by
    obtain ⟨_, es, _, _, _, _, _, _, _, _, hb, _, hn, _⟩ := R'
    have := fits_of_scanBound hb
    rw [hn] at this
    exact this
  refine KX.call_sortedX R' (I.ok.hd hc) hu fun s' p out c L' k g o hp hg hout pm pw => ?_
  have hlen : (L'.map V.str).length ≤ sizeLine := by
    rw [List.length_map, pm.length_eq]
    exact hsl
  have hn : H p = none := I.hok.fresh hp
  have J : Inv X pins σ (upd H p (.lst (L'.map V.str))) { s with heap := s'.heap, gens := s'.gens, drawn := s'.drawn, toks := s'.toks } :=
    I.call (ch := []) (Un.laid k hp hn) (I.hok.laid k hp ⟨hlen, _, c, hout, hg⟩) (by rw [g]; exact I.bare) (fun _ z => nomatch z)
  have e : s' = { s with heap := s'.heap, gens := s'.gens, drawn := s'.drawn, toks := s'.toks } := by
    obtain ⟨x1, x2, x3, x4, x5⟩ := s'
    cases o
    rfl
  rw [e]
  exact ⟨.ref p, _, J, rfl, q L' p pm pw hn⟩
end
end Deed

namespace Deed
open PySem PySem.Spec PySem.W PyProof.Rows L2 LamX RZ
/-! ### k53: what the law holds for words and forms -/
theorem sign_in (c : Nat) : decide (c ∈ ("abcdefghijklmnopqrstuvwxyz" : Str).cps.toList) = signOk c := by
  rw [show ("abcdefghijklmnopqrstuvwxyz" : Str).cps.toList = (List.range 26).map (97 + ·) from by decide +kernel]
  unfold signOk
  rw [← Bool.decide_and]
  refine decide_eq_decide.mpr ⟨fun h => ?_, fun h => ?_⟩
  · obtain ⟨j, hj, rfl⟩ := List.mem_map.mp h
    have := List.mem_range.mp hj
    omega
  · exact List.mem_map.mpr ⟨c - 97, List.mem_range.mpr (by omega), by omega⟩
theorem filter_none {α : Type} (p : α → Bool) : ∀ l : List α, (l.filter fun x => !p x).isEmpty = l.all p
  | [] => rfl
  | x :: r => by
    rw [List.filter_cons, List.all_cons, ← filter_none p r]
    cases p x <;> rfl
theorem isEmpty_map {α β : Type} (f : α → β) (l : List α) : (l.map f).isEmpty = l.isEmpty := by cases l <;> rfl
theorem eqv_wl (a b : List (List Str)) : PyData.eqv (.list (a.map dWs)) (.list (b.map dWs)) = decide (a = b) := by
  have := eqvAll_map (α := Tup Str) (a.map Tup.mk) (b.map Tup.mk)
  rw [List.map_map, List.map_map] at this
  have e : ∀ l : List (List Str), l.map dWs = l.map (Datum.toD ∘ (Tup.mk : List Str → Tup Str)) := fun l => rfl
  simp only [PyData.eqv]
  rw [e, e, this]
  exact decide_eq_decide.mpr ⟨fun h => List.map_inj_right (fun x y z => by injection z) |>.mp h, fun h => by rw [h]⟩
theorem plain_wl (a : List (List Str)) : (PyData.list (a.map dWs)).plain = true := by
  have := plainAll_map (α := Tup Str) (a.map Tup.mk)
  rw [List.map_map] at this
  simp only [PyData.plain]
  exact this
theorem depth_wl (a : List (List Str)) : (PyData.list (a.map dWs)).depth ≤ 2 := by
  have : ∀ l : List (List Str), PyData.depthAll (l.map dWs) ≤ 1 := fun l => by
    induction l with
    | nil => exact Nat.zero_le _
    | cons x r ih =>
      rw [List.map_cons, PyData.depthAll]
      exact Nat.max_le.mpr ⟨depth_ws x, ih⟩
  simp only [PyData.depth]
  have := this a
  omega
theorem eqv_sl (a b : List Str) : PyData.eqv (.list (a.map PyData.str)) (.list (b.map PyData.str)) = decide (a = b) := by
  have := eqvAll_map (α := Str) a b
  simp only [PyData.eqv]
  exact this
theorem plain_sl (a : List Str) : (PyData.list (a.map PyData.str)).plain = true := by
  simp only [PyData.plain]
  exact plainAll_map (α := Str) a
theorem depth_sl (a : List Str) : (PyData.list (a.map PyData.str)).depth ≤ 1 := by
  simp only [PyData.depth, depth_strs0]
  omega
theorem range_all {α : Type} (p : α → Bool) (l : List α) (d : α) : ((List.range l.length).all fun i => p (l.getD i d)) = l.all p := by
  rw [Bool.eq_iff_iff, List.all_eq_true, List.all_eq_true]
  refine ⟨fun h x hx => ?_, fun h i hi => ?_⟩
  · obtain ⟨i, hi, e⟩ := List.getElem_of_mem hx
    have := h i (List.mem_range.mpr hi)
    rw [List.getD_eq_getElem?_getD, List.getElem?_eq_getElem hi] at this
    rw [← e]
    exact this
  · have hi' := List.mem_range.mp hi
    rw [List.getD_eq_getElem?_getD, List.getElem?_eq_getElem hi']
    exact h _ (List.getElem_mem hi')
/-- two rows in order with the same members are the same -/
theorem sorted_same {α : Type} {r : α → α → Prop} (asym : ∀ a b, r a b → ¬ r b a) (tr : ∀ a b c, r a b → r b c → r a c) : ∀ {a b : List α}, a.Pairwise r → b.Pairwise r → (∀ x, x ∈ a ↔ x ∈ b) → a = b
  | [], [], _, _, _ => rfl
  | [], y :: b, _, _, h => absurd ((h y).mpr List.mem_cons_self) (by simp)
  | x :: a, [], _, _, h => absurd ((h x).mp List.mem_cons_self) (by simp)
  | x :: a, y :: b, ha, hb, h => by
    have ha' := List.pairwise_cons.mp ha
    have hb' := List.pairwise_cons.mp hb
    have exy : x = y := by
      rcases List.mem_cons.mp ((h x).mp List.mem_cons_self) with e | e
      · exact e
      · rcases List.mem_cons.mp ((h y).mpr List.mem_cons_self) with e' | e'
        · exact e'.symm
        · exact absurd (ha'.1 y e') (asym _ _ (hb'.1 x e))
    subst exy
    have irr : ∀ z, ¬ r z z := fun z q => asym _ _ q q
    rw [sorted_same asym tr ha'.2 hb'.2 fun z => ⟨fun hz => ?_, fun hz => ?_⟩]
    · rcases List.mem_cons.mp ((h z).mp (List.mem_cons_of_mem _ hz)) with e | e
      · exact absurd (ha'.1 z hz) (e ▸ irr z)
      · exact e
    · rcases List.mem_cons.mp ((h z).mpr (List.mem_cons_of_mem _ hz)) with e | e
      · exact absurd (hb'.1 z hz) (e ▸ irr z)
      · exact e
section
variable {P : Program} {w : World} {K : PySem.W.Frag} {mg : Str → Option Value} {base : Heap}
abbrev sLIsWord : Stmt := topS 44
abbrev nLIsWord : List Str := ["_law_thing_here", "_law_sign"]
abbrev pLIsWord : List Str := ["_law_thing_here"]
theorem scLIsWord : FnScope nLIsWord pLIsWord (defScope sLIsWord) := ⟨rfl, rfl, rfl, by decide +kernel, rfl, by decide +kernel, by decide +kernel⟩
theorem ok_LIsWord {f : Addr} {fd : FuncData} {k : Nat} (F : Fun K "_law_is_word" "_law_is_word" sLIsWord f fd) (m_isinstance : mg "isinstance" = none) (m_str : mg "str" = none) (m_len : mg "len" = none) : FnOk P w K mg base CX0 (k + 1) f fd pLIsWord (spB1s Tg.word) := by
  refine F.ok scLIsWord (fun vs H Q E h => ?_) (fun cdv A outer s H vs Q E hr h => ?_)
  · obtain ⟨p, v, t, rfl, _⟩ := h
    rfl
  · obtain ⟨p, v, t, rfl, hT, hs, q⟩ := h
    have nd := scLIsWord.nd
    refine ⟨_, pss_cons (ps_if (PW.pt (pw_or (pt_not (pt_val (pe_callB call_isi (by rfl) m_isinstance (by decide +kernel) (pa_cons (pv 0) (pa_cons (pe_bltn (v := .ty "str") (by rfl) m_str (by decide +kernel) rfl) pa_nil))))) (pw_or1 (pt_not (pt_chain op_le op_le pe_int (pe_callB call_len_str (by rfl) m_len (by decide +kernel) (pa_cons (pv 0) pa_nil)) pe_int))))) (pss_one (ps_ret pe_bl)) pss_nil)
      (pss_one (ps_ret (pe_cmpR (op_eqLEK (K := K) (by rfl) hr.units) (pe_lc (own := [("_law_sign", 1)]) (g := gName 1) (by rfl) nd (pi_str (pv 0)) (blkOk_by (own := [("_law_sign", 1)]) (N := nLIsWord) (sc := defScope sLIsWord) (by decide +kernel)) (fun _ _ _ _ _ => (pg_name (i := 1) nd rfl (.inl rfl))) (fun _ _ _ _ _ => (pts_one (pt_cmpR op_notIn_sign (pv 1) pe_str (by rfl))))
          (fun _ _ _ _ _ => (pv 1))) (pe_lst pa_nil) (nomark _)))), ?_⟩
    refine ⟨_, rfl, _, _, _, _, t.isS, rfl, .ty "str", hT.ty, kit_ty t.kS, _, rfl, ?_⟩
    cases hc : t.isS with
    | false =>
      refine iteT ?_
      have e : t.word = false := by cases t <;> first | rfl | cases hc
      rw [e] at q
      exact q _ (same_refl _)
    | true =>
    refine iteF ?_
    obtain ⟨z, rfl, rfl⟩ : ∃ z, v = .str z ∧ t = .str z := by
      cases hT with
      | str x => exact ⟨_, rfl, rfl⟩
      | _ => cases hc
    have hz : z.length ≤ 400 := of_decide_eq_true hs
    have q1 : ∀ H', Same H H' → Q (.bl (decide (1 ≤ z.length) && (decide (z.length ≤ 8) && z.cps.toList.all signOk))) H' := q
    refine ⟨_, rfl, z, rfl, Nat.le_of_lt (small1000 (by omega)), _, _, rfl, rfl, _, rfl, ?_⟩
    by_cases h1 : 1 ≤ z.length
    rotate_left
    · rw [decide_eq_false (show ¬ ((1 : Int) ≤ (z.length : Nat)) by omega)]
      refine iteF ⟨_, rfl, ?_⟩
      refine iteT ?_
      rw [decide_eq_false h1] at q1
      exact q1 _ (same_refl _)
    rw [decide_eq_true (show ((1 : Int) ≤ (z.length : Nat)) by omega)]
    rw [decide_eq_true h1, Bool.true_and] at q1
    refine iteT ⟨_, _, rfl, rfl, _, rfl, ?_⟩
    by_cases h8 : z.length ≤ 8
    rotate_left
    · rw [decide_eq_false (show ¬ (((z.length : Nat) : Int) ≤ 8) by omega)]
      refine iteT ?_
      rw [decide_eq_false h8] at q1
      exact q1 _ (same_refl _)
    rw [decide_eq_true (show (((z.length : Nat) : Int) ≤ 8) by omega)]
    rw [decide_eq_true h8, Bool.true_and] at q1
    refine iteF ⟨_, rfl, z, rfl, fun M nM => ?_⟩
    have hzc : z.cps.toList.length = z.length := by rw [Array.length_toList]; rfl
    refine lc_sameV (walk_str (z := z)) z.cps.toList (fun c => !signOk c) (fun c => .str ⟨#[c]⟩) (by rw [Array.length_toList]) (by omega) nM (fun _ _ => trivial) ?_ ?_
    · rintro i c v H3 H4 hc s3 ⟨rfl, c', hc', rfl⟩ Q1 Q0 q1' q0'
      rw [Array.getElem?_toList] at hc
      rw [hc] at hc'
      injection hc' with hc'
      subst hc'
      refine ⟨rfl, ?_⟩
      refine ⟨_, rfl, c, _, rfl, rfl, _, rfl, ?_⟩
      rw [sign_in]
      cases hp : !signOk c with
      | true => exact iteT ⟨_, rfl, q1' hp _ (same_refl _)⟩
      | false => exact iteF (q0' hp _ (same_refl _))
    intro H3 s3 eM
    refine ⟨Nat.zero_le _, fun l2 nl2 => ?_⟩
    have s4 := same_new nl2 (.lst [])
    refine ⟨M, l2, _, rfl, rfl, SqL.of (s4 _ _ eM), SqL.of upd_same, ?_⟩
    show Q (.bl (((z.cps.toList.filter fun c => !signOk c).map _).isEmpty)) _
    rw [isEmpty_map, filter_none]
    exact q1 _ (s3.trans s4)
abbrev sLAreWords : Stmt := topS 45
abbrev nLAreWords : List Str := ["_law_thing_here", "_law_least", "_law_most", "_law_word_here"]
abbrev pLAreWords : List Str := ["_law_thing_here", "_law_least", "_law_most"]
theorem scLAreWords : FnScope nLAreWords pLAreWords (defScope sLAreWords) := ⟨rfl, rfl, rfl, by decide +kernel, rfl, by decide +kernel, by decide +kernel⟩
theorem ok_LAreWords {f : Addr} {fd : FuncData} {k : Nat} (F : Fun K "_law_are_words" "_law_are_words" sLAreWords f fd) (C__law_is_word : CallOk P w K mg base k "_law_is_word" pLIsWord (spB1s Tg.word)) (m_isinstance : mg "isinstance" = none) (m_tuple : mg "tuple" = none) (m_len : mg "len" = none) : FnOk P w K mg base CX0 (k + 1) f fd pLAreWords spAreWords := by
  refine F.ok scLAreWords (fun vs H Q E h => ?_) (fun cdv A outer s H vs Q E hr h => ?_)
  · obtain ⟨p, v, t, lo, hi, rfl, _⟩ := h
    rfl
  · obtain ⟨p, v, t, lo, hi, rfl, hT, hs, hhi, q⟩ := h
    have nd := scLAreWords.nd
    refine ⟨_, pss_cons (ps_if (PW.pt (pw_or (pt_not (pt_val (pe_callB call_isi (by rfl) m_isinstance (by decide +kernel) (pa_cons (pv 0) (pa_cons (pe_bltn (v := .ty "tuple") (by rfl) m_tuple (by decide +kernel) rfl) pa_nil))))) (pw_or1 (pt_not (pt_chain op_le op_le (pv 1) (pe_callB call_len_seq (by rfl) m_len (by decide +kernel) (pa_cons (pv 0) pa_nil)) (pv 2)))))) (pss_one (ps_ret pe_bl)) pss_nil)
      (pss_one (ps_ret (pe_cmpR (op_eqLEK (K := K) (by rfl) hr.units) (pe_lc (own := [("_law_word_here", 3)]) (g := gName 3) (by rfl) nd (pi_tup (pv 0)) (blkOk_by (own := [("_law_word_here", 3)]) (N := nLAreWords) (sc := defScope sLAreWords) (by decide +kernel)) (fun _ _ _ _ _ => (pg_name (i := 3) nd rfl (.inl rfl))) (fun _ _ _ _ _ => (pts_one (pt_not (pt_val (pe_call C__law_is_word.ok hr (by rfl) C__law_is_word.g C__law_is_word.kp C__law_is_word.b .nil pass0 (pa_cons (pv 3) pa_nil))))))
          (fun _ _ _ _ _ => (pv 3))) (pe_lst pa_nil) (nomark _)))), ?_⟩
    refine ⟨_, rfl, _, _, _, _, t.isT, rfl, .ty "tuple", hT.ty, kit_ty t.kT, _, rfl, ?_⟩
    cases hc : t.isT with
    | false =>
      refine iteT ?_
      have e : t.words lo hi = false := by cases t <;> first | rfl | cases hc
      rw [e] at q
      exact q _ (same_refl _)
    | true =>
    refine iteF ?_
    obtain ⟨a, xs, ts, rfl, rfl, ea, hts⟩ := hT.tupOf hc
    have hlen := hts.length
    have q1 : ∀ H', Same H H' → Q (.bl (decide (lo ≤ (ts.length : Int)) && (decide ((ts.length : Int) ≤ hi) && ts.all Tg.word))) H' := q
    refine ⟨_, rfl, _, rfl, a, _, rfl, .inr (SqT.of ea), _, _, rfl, rfl, _, rfl, ?_⟩
    rw [hlen]
    by_cases h1 : lo ≤ (ts.length : Int)
    rotate_left
    · rw [decide_eq_false h1]
      refine iteF ⟨_, rfl, ?_⟩
      refine iteT ?_
      rw [decide_eq_false h1] at q1
      exact q1 _ (same_refl _)
    rw [decide_eq_true h1]
    rw [decide_eq_true h1, Bool.true_and] at q1
    refine iteT ⟨_, rfl, _, _, rfl, rfl, _, rfl, ?_⟩
    by_cases h2 : (ts.length : Int) ≤ hi
    rotate_left
    · rw [decide_eq_false h2]
      refine iteT ?_
      rw [decide_eq_false h2] at q1
      exact q1 _ (same_refl _)
    rw [decide_eq_true h2]
    rw [decide_eq_true h2, Bool.true_and] at q1
    refine iteF ⟨_, rfl, a, rfl, ⟨_, SqT.of ea⟩, fun M nM => ?_⟩
    refine lc_sameV (walk_tup (xs := xs)) (List.range ts.length) (fun i => !(ts.getD i .non).word) (fun i => xs.getD i .non) (by rw [List.length_range, hlen]) (by rw [List.length_range]; omega) nM (fun H s => SqT.of (s _ _ ea)) ?_ ?_
    · rintro i y x H2' H2 hy s2 ⟨rfl, hx⟩ Q1 Q0 q1' q0'
      obtain rfl : i = y := by
        have h9 := (List.getElem?_eq_some_iff.mp hy).2
        rw [List.getElem_range] at h9
        exact h9
      obtain ⟨t1, ht1, hat⟩ := hts.get hx
      have e1 : ts.getD i .non = t1 := by rw [List.getD_eq_getElem?_getD, ht1]; rfl
      have e2 : xs.getD i .non = x := by rw [List.getD_eq_getElem?_getD, hx]; rfl
      rw [e1] at q1' q0'
      rw [e2] at q1'
      refine ⟨rfl, _, rfl, p, x, t1, rfl, TgAt.same s2 _ _ hat, Tg.smAll_mem hs t1 (List.mem_of_getElem? ht1), fun H3 s3 => ⟨_, rfl, ?_⟩⟩
      cases hp : t1.word with
      | true => exact iteF (q0' (by rw [hp]; rfl) _ s3)
      | false => exact iteT ⟨_, rfl, q1' (by rw [hp]; rfl) _ s3⟩
    intro H2 s2 eM
    refine ⟨Nat.zero_le _, fun l2 nl2 => ?_⟩
    have s4 := same_new nl2 (.lst [])
    refine ⟨M, l2, _, rfl, rfl, SqL.of (s4 _ _ eM), SqL.of upd_same, ?_⟩
    show Q (.bl ((((List.range ts.length).filter fun i => !(ts.getD i .non).word).map _).isEmpty)) _
    rw [isEmpty_map, filter_none (fun i => (ts.getD i .non).word), range_all (fun t : Tg => t.word) ts .non]
    exact q1 _ (s2.trans s4)
end
end Deed

namespace Deed
open PySem PySem.Spec PySem.W PyProof.Rows L2 LamX RZ
/-! ### k53: _law_are_forms -/
theorem str_up {a b : Str} (h : dataLt (.str b) (.str a) = false) (n : a ≠ b) : dataLt (.str a) (.str b) = true := by
  rw [dataLt_str] at h ⊢
  refine decide_eq_true ?_
  rcases Classical.em (a.cps.toList < b.cps.toList) with c | c
  · exact c
  · exact absurd (str_total c (of_decide_eq_false h)) n
theorem lt_asym {a b : PyData} (h : dataLt a b = true) : ¬ dataLt b a = true := fun z => by
  have := lt_trans h z
  rw [dataLt_self] at this
  cases this
section
variable {P : Program} {w : World} {K : PySem.W.Frag} {mg : Str → Option Value} {base : Heap}
theorem setSortT {H : Hp} {c : Addr} {ks : List (Addr × List Str)} {Q : VK} (hl : SqT K H c (ks.map fun z => V.ref z.1)) (hk : ∀ z ∈ ks, H z.1 = some (.tup (z.2.map V.str))) (ne : ∀ z ∈ ks, z.2 ≠ []) (few : ks.length ≤ 4)
    (q : ∀ (p : Addr) (H' : Hp) (L : List (Addr × List Str)), Same H H' → H' p = some (.lst (L.map fun z => .ref z.1)) → (∀ z ∈ L, z ∈ ks) → (∀ z ∈ ks, z.2 ∈ L.map (·.2)) → (L.map (·.2)).Pairwise (fun a b => dataLt (dWs a) (dWs b) = true) → Q (.ref p) H') :
    rSetTt K P w [V.ref c] H fun v H1 => rSortTs K P w [v] H1 Q := by
  refine ⟨c, ks, rfl, hl, fun z hz => SqT.of (hk z hz), few, fun a L na from_ has nd => ?_⟩
  have s1 := same_new na (SetS P w a L)
  have e1 : (upd H a (SetS P w a L)) a = some (SetS P w a L) := upd_same
  have hk1 : ∀ z ∈ ks, SqT K (upd H a (SetS P w a L)) z.1 (z.2.map V.str) := fun z hz => SqT.of (s1 _ _ (hk z hz))
  generalize (upd H a (SetS P w a L)) = H1 at s1 e1 hk1
  refine ⟨a, L, rfl, e1, fun z hz => ⟨hk1 z (from_ z hz), ne z (from_ z hz)⟩, fun L' p pm up np => ?_⟩
  have s2 := same_new np (.lst (L'.map fun z => V.ref z.1))
  have nd' : (L'.map (·.2)).Nodup := ((pm.map _).nodup_iff).mpr nd
  refine q p _ L' (s1.trans s2) upd_same (fun z hz => from_ z (pm.mem_iff.mp hz)) (fun z hz => ((pm.map (·.2)).mem_iff).mpr (has z hz)) ?_
  refine List.pairwise_map.mpr ?_
  exact (up.and (List.pairwise_map.mp nd')).imp fun {a b} h => dWs_up h.1 h.2
theorem setSortX {H : Hp} {l : Addr} {ks : List Str} {Q : VK} (hl : SqL K H l (ks.map V.str)) (few : ks.length ≤ 100)
    (q : ∀ (p : Addr) (H' : Hp) (L : List Str), Same H H' → H' p = some (.lst (L.map V.str)) → (∀ z, z ∈ L ↔ z ∈ ks) → L.Pairwise (fun a b => dataLt (.str a) (.str b) = true) → Q (.ref p) H') :
    rSetTx K w [V.ref l] H fun v H1 => rSortTx w [v] H1 Q := by
  refine ⟨l, ks, rfl, hl, by unfold scanBound; omega, fun a L na from_ has nd => ?_⟩
  have s1 := same_new na (SetTx w a L)
  have e1 : (upd H a (SetTx w a L)) a = some (SetTx w a L) := upd_same
  generalize (upd H a (SetTx w a L)) = H1 at s1 e1
  refine ⟨a, L, rfl, e1, fun L' p pm up np => ?_⟩
  have nd' : L'.Nodup := (pm.nodup_iff).mpr nd
  exact q p _ L' (s1.trans (same_new np _)) upd_same (fun z => ⟨fun hz => from_ z (pm.mem_iff.mp hz), fun hz => pm.mem_iff.mpr (has z hz)⟩) ((up.and nd').imp fun {a b} h => str_up h.1 h.2)
theorem fulls_ks {p : Addr} {H : Hp} : ∀ {ts : List Tg} {vs : List V}, TgAll p H vs ts → ts.all (Tg.words 1 3) = true → ∃ ks : List (Addr × List Str), vs = ks.map (fun z => V.ref z.1) ∧ ks.map (·.2) = ts.map Tg.toWs ∧ ∀ z ∈ ks, H z.1 = some (.tup (z.2.map V.str)) ∧ z.2 ≠ []
  | [], _, h, _ => by
    cases h
    exact ⟨[], rfl, rfl, fun _ h => nomatch h⟩
  | t :: ts, _, h, ha => by
    rw [List.all_cons, Bool.and_eq_true] at ha
    cases h with
    | cons h1 h2 =>
      obtain ⟨ks, e1, e2, e3⟩ := fulls_ks h2 ha.2
      obtain ⟨us, rfl, g1, g2, g3⟩ := Tg.words_tup ha.1
      cases h1 with
      | @tup a xs _ e hx =>
        have e4 := dt_words hx g3
        subst e4
        refine ⟨(a, us.map Tg.toS) :: ks, by rw [e1]; rfl, by rw [List.map_cons, e2]; rfl, fun z hz => ?_⟩
        rcases List.mem_cons.mp hz with rfl | hz
        · refine ⟨e, fun z => ?_⟩
          have := congrArg List.length z
          rw [List.length_map] at this
          simp at this
          rw [this] at g1
          simp at g1
        · exact e3 z hz
theorem dpAll_refs {H : Hp} (ks : List (Addr × List Str)) (h : ∀ z ∈ ks, H z.1 = some (.tup (z.2.map V.str))) : DtAll H (ks.map fun z => V.ref z.1) ((ks.map (·.2)).map dWs) := by
  rw [List.map_map]
  exact DtAll.refs (enc := dWs) fun z hz => .tup (h z hz) (DtAll.strs _)
theorem rows_same {a b : List (List Str)} (hb : b.Pairwise fun x y => dataLt (dWs x) (dWs y) = true) (hm : ∀ x, x ∈ a ↔ x ∈ b) : decide (a = b) = risD (a.map dWs) := by
  rw [Bool.eq_iff_iff]
  refine ⟨fun h => ?_, fun h => decide_eq_true ?_⟩
  · rw [of_decide_eq_true h]
    exact risD_of (List.pairwise_map.mpr hb)
  · exact sorted_same (r := fun a b : List Str => dataLt (dWs a) (dWs b) = true) (fun _ _ => lt_asym) (fun _ _ _ => lt_trans) (List.pairwise_map.mp (risD_pairwise h)) hb hm
theorem strs_same {a b : List Str} (hb : b.Pairwise fun x y => dataLt (.str x) (.str y) = true) (hm : ∀ x, x ∈ b ↔ x ∈ a) : decide (a = b) = risD (a.map PyData.str) := by
  rw [Bool.eq_iff_iff]
  refine ⟨fun h => ?_, fun h => decide_eq_true ?_⟩
  · rw [of_decide_eq_true h]
    exact risD_of (List.pairwise_map.mpr hb)
  · exact sorted_same (r := fun a b : Str => dataLt (.str a) (.str b) = true) (fun _ _ => lt_asym) (fun _ _ _ => lt_trans) (List.pairwise_map.mp (risD_pairwise h)) hb fun x => (hm x).symm
abbrev sLAreForms : Stmt := topS 46
abbrev nLAreForms : List Str := ["_law_thing_here", "_law_shorts", "_law_form", "_law_full"]
abbrev pLAreForms : List Str := ["_law_thing_here"]
theorem scLAreForms : FnScope nLAreForms pLAreForms (defScope sLAreForms) := ⟨rfl, rfl, rfl, by decide +kernel, rfl, by decide +kernel, by decide +kernel⟩
theorem ok_LAreForms {f : Addr} {fd : FuncData} {k : Nat} (F : Fun K "_law_are_forms" "_law_are_forms" sLAreForms f fd) (C__law_is_word : CallOk P w K mg base k "_law_is_word" pLIsWord (spB1s Tg.word)) (C__law_are_words : CallOk P w K mg base k "_law_are_words" pLAreWords spAreWords) (m_isinstance : mg "isinstance" = none) (m_tuple : mg "tuple" = none) (m_len : mg "len" = none) (m_list : mg "list" = none) (m_set : mg "set" = none) (m_sorted : mg "sorted" = none) : FnOk P w K mg base CX0 (k + 1) f fd pLAreForms (spB1s Tg.forms) := by
  refine F.ok scLAreForms (fun vs H Q E h => ?_) (fun cdv A outer s H vs Q E hr h => ?_)
  · obtain ⟨p, v, t, rfl, _⟩ := h
    rfl
  · obtain ⟨p, v, t, rfl, hT, hs, q⟩ := h
    have nd := scLAreForms.nd
    refine ⟨_, pss_cons (ps_if (PW.pt (pw_or (pt_not (pt_val (pe_callB call_isi (by rfl) m_isinstance (by decide +kernel) (pa_cons (pv 0) (pa_cons (pe_bltn (v := .ty "tuple") (by rfl) m_tuple (by decide +kernel) rfl) pa_nil))))) (pw_or1 (pt_cmpR op_gt (pe_callB call_len_seq (by rfl) m_len (by decide +kernel) (pa_cons (pv 0) pa_nil)) pe_int (nomark _))))) (pss_one (ps_ret pe_bl)) pss_nil)
      (pss_cons (ps_set (i := 1) nd rfl (.inl rfl) (pe_lst pa_nil))
      (pss_cons (ps_for PassesOwn.never rfl (pi_tup (pv 0)) (pg_name (i := 2) nd rfl (.inl rfl))
        (pss_cons (ps_if (PW.pt (pw_or (pt_not (pt_val (pe_callB call_isi (by rfl) m_isinstance (by decide +kernel) (pa_cons (pv 2) (pa_cons (pe_bltn (v := .ty "tuple") (by rfl) m_tuple (by decide +kernel) rfl) pa_nil))))) (pw_or (pt_cmpR op_ne (pe_callB call_len_seq (by rfl) m_len (by decide +kernel) (pa_cons (pv 2) pa_nil)) pe_int (nomark _)) (pw_or1 (pt_not (pt_val (pe_call C__law_is_word.ok hr (by rfl) C__law_is_word.g C__law_is_word.kp C__law_is_word.b .nil pass0 (pa_cons (pe_ix ix_tup (pv 2) pe_int (fun _ _ => rfl)) pa_nil)))))))) (pss_one (ps_ret pe_bl)) pss_nil)
      (pss_cons (ps_if (PW.pt (pw_or (pt_not (pt_val (pe_callB call_isi (by rfl) m_isinstance (by decide +kernel) (pa_cons (pe_ix ix_tup (pv 2) pe_int (fun _ _ => rfl)) (pa_cons (pe_bltn (v := .ty "tuple") (by rfl) m_tuple (by decide +kernel) rfl) pa_nil))))) (pw_or1 (pt_not (pt_chain op_le op_le pe_int (pe_callB call_len_seq (by rfl) m_len (by decide +kernel) (pa_cons (pe_ix ix_tup (pv 2) pe_int (fun _ _ => rfl)) pa_nil)) pe_int))))) (pss_one (ps_ret pe_bl)) pss_nil)
      (pss_cons (ps_if (pt_cmpR (op_neLEK (K := K) (by rfl) hr.units) (pe_lc (own := [("_law_full", 3)]) (g := gName 3) (by rfl) nd (pi_tup (pe_ix ix_tup (pv 2) pe_int (fun _ _ => rfl))) (blkOk_by (own := [("_law_full", 3)]) (N := nLAreForms) (sc := defScope sLAreForms) (by decide +kernel)) (fun _ _ _ _ _ => (pg_name (i := 3) nd rfl (.inl rfl))) (fun _ _ _ _ _ => (pts_one (pt_not (pt_val (pe_call C__law_are_words.ok hr (by rfl) C__law_are_words.g C__law_are_words.kp C__law_are_words.b .nil pass0 (pa_cons (pv 3) (pa_cons pe_int (pa_cons pe_int pa_nil))))))))
          (fun _ _ _ _ _ => (pv 3))) (pe_lst pa_nil) (nomark _)) (pss_one (ps_ret pe_bl)) pss_nil)
      (pss_cons (ps_if (pt_cmpR (op_neP (K := K) (by rfl) hr.units) (pe_callTy call_list_of (by rfl) m_list (by decide +kernel) (pa_cons (pe_ix ix_tup (pv 2) pe_int (fun _ _ => rfl)) pa_nil)) (pe_callB (cr_sortTs rfl hr.units) (by rfl) m_sorted (by decide +kernel) (pa_cons (pe_callTy (cr_setTt rfl hr.units) (by rfl) m_set (by decide +kernel) (pa_cons (pe_ix ix_tup (pv 2) pe_int (fun _ _ => rfl)) pa_nil)) pa_nil)) (nomark _)) (pss_one (ps_ret pe_bl)) pss_nil)
      (pss_one (ps_expr (pe_bm PySem.F.plainAttrs_list PySem.F.slot_list_append PySem.F.type_list_append mt_append (pv 1) (pa_cons (pe_ix ix_tup (pv 2) pe_int (fun _ _ => rfl)) pa_nil)))))))))
      (pss_one (ps_ret (pe_cmpR (op_eqP (K := K) (by rfl) hr.units) (pv 1) (pe_callB (cr_sortTx rfl hr.units) (by rfl) m_sorted (by decide +kernel) (pa_cons (pe_callTy (cr_setTx rfl hr.units) (by rfl) m_set (by decide +kernel) (pa_cons (pv 1) pa_nil)) pa_nil)) (nomark _)))))), ?_⟩
    refine ⟨_, rfl, _, _, _, _, t.isT, rfl, .ty "tuple", hT.ty, kit_ty t.kT, _, rfl, ?_⟩
    cases hc : t.isT with
    | false =>
      refine iteT ?_
      have e : t.forms = false := by cases t <;> first | rfl | cases hc
      rw [e] at q
      exact q _ (same_refl _)
    | true =>
    refine iteF ?_
    obtain ⟨a, xs, ts, rfl, rfl, ea, hts⟩ := hT.tupOf hc
    have hlen := hts.length
    have q1 : ∀ H', Same H H' → Q (.bl (decide ((ts.length : Int) ≤ 8) && (ts.all Tg.form && risD (ts.map fun t => .str t.toF1.1)))) H' := q
    refine ⟨_, rfl, a, _, rfl, .inr (SqT.of ea), _, _, rfl, rfl, _, rfl, ?_⟩
    rw [hlen]
    by_cases h8 : (ts.length : Int) ≤ 8
    rotate_left
    · rw [decide_eq_true (show (ts.length : Int) > 8 by omega)]
      refine iteT ?_
      rw [decide_eq_false h8] at q1
      exact q1 _ (same_refl _)
    rw [decide_eq_false (show ¬ (ts.length : Int) > 8 by omega)]
    rw [decide_eq_true h8, Bool.true_and] at q1
    refine iteF ⟨Nat.zero_le _, fun l nl => ?_⟩
    have bad : ∀ t ∈ ts, t.form = false → ∀ H', Same H H' → Q (.bl false) H' := fun t ht hf H' s => by
      have : ts.all Tg.form = false := Bool.eq_false_iff.mpr fun z => by
        rw [List.all_eq_true.mp z t ht] at hf
        cases hf
      have h := q1 H' s
      rw [this, Bool.false_and] at h
      exact h
    refine ⟨_, rfl, a, rfl, ⟨_, SqT.of ((same_new nl _) _ _ ea)⟩, ?_⟩
    refine for_tup (xs := xs) (fun j σ H' => ∃ y2 y3, σ = [some (.ref a), some (.ref l), y2, y3] ∧ Same H H' ∧ H' l = some (.lst (((ts.take j).map fun t => t.toF1.1).map V.str)) ∧ (ts.take j).all Tg.form = true) ⟨_, _, rfl, same_new nl _, upd_same, rfl⟩ (fun j σ H' _ hj => ?_) ?_ ?_
    · obtain ⟨_, _, _, s1, _⟩ := hj
      exact SqT.of (s1 _ _ ea)
    · rintro j x σ H1 hx ⟨y2, y3, rfl, s1, el, hall⟩
      obtain ⟨t, ht, hat⟩ := hts.get hx
      have tm := List.mem_of_getElem? ht
      have tsm := Tg.smAll_mem hs t tm
      have hjl : j < ts.length := (List.getElem?_eq_some_iff.mp ht).1
      refine ⟨_, rfl, _, _, _, _, t.isT, rfl, .ty "tuple", (TgAt.same s1 _ _ hat).ty, kit_ty t.kT, _, rfl, ?_⟩
      cases hc : t.isT with
      | false =>
        refine iteT ?_
        exact bad t tm (by cases t <;> first | rfl | cases hc) _ s1
      | true =>
      refine iteF ?_
      obtain ⟨b, xb, tb, rfl, rfl, eb0, htb⟩ := hat.tupOf hc
      have eb := s1 _ _ eb0
      have hlb := htb.length
      refine ⟨_, rfl, b, _, rfl, .inr (SqT.of eb), rfl, _, rfl, ?_⟩
      by_cases h3 : tb.length = 2
      rotate_left
      · rw [show decide (V.int (xb.length : Nat) = V.int 2) = false from decide_eq_false fun z => h3 (by injection z with z; omega)]
        refine iteT (iteT ?_)
        refine bad _ tm ?_ _ s1
        match tb, h3 with
        | [], _ => rfl
        | [_], _ => rfl
        | [_, _], h3 => exact absurd rfl h3
        | _ :: _ :: _ :: _, _ => rfl
      rw [show decide (V.int (xb.length : Nat) = V.int 2) = true from decide_eq_true (by rw [hlb, h3]; rfl)]
      refine iteF ?_
      obtain ⟨t1, t2, rfl⟩ : ∃ x y, tb = [x, y] := by
        match tb, h3 with
        | [x, y], _ => exact ⟨x, y, rfl⟩
      match xb, htb with
      | [x1, x2], .cons hx1 (.cons hx2 .nil) =>
      have m1 := Tg.smAll_mem tsm t1 List.mem_cons_self
      have m2 := Tg.smAll_mem tsm t2 (List.mem_cons_of_mem _ List.mem_cons_self)
      have eform : (Tg.tup [t1, t2]).form = (t1.word && t2.fulls) := rfl
      refine ⟨_, rfl, b, _, _, _, rfl, rfl, SqT.of eb, atI_nat (j := 0) rfl, p, x1, t1, rfl, TgAt.same s1 _ _ hx1, m1, fun H2 s2 => ⟨_, rfl, ?_⟩⟩
      have s02 := s1.trans s2
      cases hw1 : t1.word with
      | false => exact iteT (bad _ tm (by rw [eform, hw1]; rfl) _ s02)
      | true =>
      refine iteF ?_
      have hx2' := TgAt.same s02 _ _ hx2
      have eb2 := s2 _ _ eb
      refine ⟨_, rfl, b, _, _, _, rfl, rfl, SqT.of eb2, atI_nat (j := 1) rfl, _, _, _, _, t2.isT, rfl, .ty "tuple", hx2'.ty, kit_ty t2.kT, _, rfl, ?_⟩
      cases hc2 : t2.isT with
      | false =>
        refine iteT ?_
        exact bad _ tm (by rw [eform, hw1]; cases t2 <;> first | rfl | cases hc2) _ s02
      | true =>
      refine iteF ?_
      obtain ⟨c, xc, tc, rfl, rfl, ec0, htc⟩ := hx2.tupOf hc2
      have ec := s02 _ _ ec0
      have hlc := htc.length
      refine ⟨_, rfl, b, _, _, _, rfl, rfl, SqT.of eb2, atI_nat (j := 1) rfl, c, _, rfl, .inr (SqT.of ec), _, _, rfl, rfl, _, rfl, ?_⟩
      have efulls : (Tg.tup tc).fulls = (decide (1 ≤ (tc.length : Int)) && (decide ((tc.length : Int) ≤ 3) && (tc.all (Tg.words 1 3) && risD (tc.map fun t => dWs t.toWs)))) := rfl
      rw [hlc]
      by_cases h1 : (1 : Int) ≤ (tc.length : Int)
      rotate_left
      · rw [decide_eq_false h1]
        refine iteF ⟨_, rfl, ?_⟩
        refine iteT ?_
        exact bad _ tm (by rw [eform, efulls, decide_eq_false h1, Bool.false_and, Bool.and_false]) _ s02
      rw [decide_eq_true h1]
      refine iteT ⟨_, _, rfl, rfl, _, rfl, ?_⟩
      by_cases h2 : (tc.length : Int) ≤ 3
      rotate_left
      · rw [decide_eq_false h2]
        refine iteT ?_
        exact bad _ tm (by rw [eform, efulls, decide_eq_false h2, Bool.false_and, Bool.and_false, Bool.and_false]) _ s02
      rw [decide_eq_true h2]
      rw [decide_eq_true h1, decide_eq_true h2, Bool.true_and, Bool.true_and] at efulls
      refine iteF ?_
      refine ⟨_, rfl, b, _, _, _, rfl, rfl, SqT.of eb2, atI_nat (j := 1) rfl, c, rfl, ⟨_, SqT.of ec⟩, fun M nM => ?_⟩
      refine lc_sameV (walk_tup (xs := xc)) (List.range tc.length) (fun i => !(tc.getD i .non).words 1 3) (fun i => xc.getD i .non) (by rw [List.length_range, hlc]) (by rw [List.length_range]; omega) nM (fun H s => SqT.of (s _ _ ec)) ?_ ?_
      · rintro i y x H3' H3 hy s3 ⟨rfl, hx⟩ Q1 Q0 q1' q0'
        obtain rfl : i = y := by
          have h9 := (List.getElem?_eq_some_iff.mp hy).2
          rw [List.getElem_range] at h9
          exact h9
        obtain ⟨u1, hu1, hau⟩ := htc.get hx
        have e1 : tc.getD i .non = u1 := by rw [List.getD_eq_getElem?_getD, hu1]; rfl
        have e2 : xc.getD i .non = x := by rw [List.getD_eq_getElem?_getD, hx]; rfl
        rw [e1] at q1' q0'
        rw [e2] at q1'
        refine ⟨rfl, _, rfl, p, x, u1, 1, 3, rfl, TgAt.same (s02.trans s3) _ _ hau, Tg.smAll_mem m2 u1 (List.mem_of_getElem? hu1), by decide, fun H4 s4 => ⟨_, rfl, ?_⟩⟩
        cases hp : u1.words 1 3 with
        | true => exact iteF (q0' (by rw [hp]; rfl) _ s4)
        | false => exact iteT ⟨_, rfl, q1' (by rw [hp]; rfl) _ s4⟩
      intro H3 s3 eM
      refine ⟨Nat.zero_le _, fun l2 nl2 => ?_⟩
      have s4 := same_new nl2 (.lst [])
      have e4 : (upd H3 l2 (.lst [])) l2 = some (.lst []) := upd_same
      generalize (upd H3 l2 (.lst [])) = H4 at s4 e4
      refine ⟨M, l2, _, rfl, rfl, SqL.of (s4 _ _ eM), SqL.of e4, ?_⟩
      have s04 := s02.trans (s3.trans s4)
      have ee : ((((List.range tc.length).filter fun i => !(tc.getD i .non).words 1 3).map fun i => xc.getD i .non).isEmpty) = tc.all (Tg.words 1 3) := by
        rw [isEmpty_map, filter_none (fun i => (tc.getD i .non).words 1 3), range_all (fun t : Tg => t.words 1 3) tc .non]
      refine ⟨_, rfl, ?_⟩
      cases hall3 : tc.all (Tg.words 1 3) with
      | false =>
        refine ite2 (fun _ => ?_) (fun z => ?_)
        · exact bad _ tm (by rw [eform, efulls, hall3, Bool.false_and, Bool.and_false]) _ s04
        · have z' : ¬ ((!(((List.range tc.length).filter fun i => !(tc.getD i .non).words 1 3).map fun i => xc.getD i .non).isEmpty) = true) := z
          rw [ee, hall3] at z'
          exact absurd rfl z'
      | true =>
      refine ite2 (fun z => ?_) (fun _ => ?_)
      · have z' : ((!(((List.range tc.length).filter fun i => !(tc.getD i .non).words 1 3).map fun i => xc.getD i .non).isEmpty) = true) := z
        rw [ee, hall3] at z'
        cases z'
      rw [hall3, Bool.true_and] at efulls
      obtain ⟨ks, rfl, hk2, hks⟩ := fulls_ks (TgAll.same s04 _ _ htc) hall3
      have eb4 := s04 _ _ eb0
      have ec4 := s04 _ _ ec0
      refine ⟨_, rfl, b, _, _, _, rfl, rfl, SqT.of eb4, atI_nat (j := 1) rfl, c, _, rfl, .inr (SqT.of ec4), fun l5 nl5 => ?_⟩
      have s5 := same_new nl5 (.lst (ks.map fun z => V.ref z.1))
      have e5 : (upd H4 l5 (.lst (ks.map fun z => V.ref z.1))) l5 = some (.lst (ks.map fun z => V.ref z.1)) := upd_same
      generalize (upd H4 l5 (.lst (ks.map fun z => V.ref z.1))) = H5 at s5 e5
      refine ⟨_, rfl, b, _, _, _, rfl, rfl, SqT.of (s5 _ _ eb4), atI_nat (j := 1) rfl, ?_⟩
      dsimp only [tNil]
      have klen : ks.length ≤ 4 := by
        have := congrArg List.length hk2
        rw [List.length_map, List.length_map] at this
        omega
      refine setSortT (SqT.of (s5 _ _ ec4)) (fun z hz => s5 _ _ (hks z hz).1) (fun z hz => (hks z hz).2) klen fun p6 H6 L s6 e6 hL hK up => ?_
      have s06 := s04.trans (s5.trans s6)
      refine ⟨_, _, .lst (SqL.of (s6 _ _ e5)) (DtAll.dp _ _ (dpAll_refs ks fun z hz => s6 _ _ (s5 _ _ (hks z hz).1))), .lst (SqL.of e6) (DtAll.dp _ _ (dpAll_refs L fun z hz => s6 _ _ (s5 _ _ (hks z (hL z hz)).1))), plain_wl _, plain_wl _, Nat.le_trans (depth_wl _) (by decide), ?_⟩
      rw [eqv_wl, rows_same up fun x => ⟨fun hx => ?_, fun hx => ?_⟩]
      rotate_left
      · obtain ⟨z, hz, rfl⟩ := List.mem_map.mp hx
        exact hK z hz
      · obtain ⟨z, hz, rfl⟩ := List.mem_map.mp hx
        exact List.mem_map.mpr ⟨z, hL z hz, rfl⟩
      have ers : risD ((ks.map (·.2)).map dWs) = risD (tc.map fun t => dWs t.toWs) := by rw [hk2, List.map_map]; rfl
      rw [ers]
      refine ⟨_, rfl, ?_⟩
      cases hris : risD (tc.map fun t => dWs t.toWs) with
      | false => exact iteT (bad _ tm (by rw [eform, efulls, hris, Bool.and_false]) _ s06)
      | true =>
      refine iteF ?_
      have el6 : H6 l = some (.lst (((ts.take j).map fun t => t.toF1.1).map V.str)) := (s2.trans (s3.trans (s4.trans (s5.trans s6)))) _ _ el
      obtain ⟨x, rfl, hxw⟩ := Tg.word_str hw1
      cases hx1
      refine ⟨_, rfl, .inl ⟨rfl, _, SqL.of el6⟩, _, rfl, b, _, _, _, rfl, rfl, SqT.of (s06 _ _ eb0), atI_nat (j := 0) rfl, l, _, _, rfl, rfl, el6, small1000 (by simp only [List.length_map, List.length_take]; omega), ?_⟩
      have etk : ts.take (j + 1) = ts.take j ++ [Tg.tup [.str x, .tup tc]] := by
        rw [List.take_add_one, ht]
        rfl
      refine ⟨_, _, rfl, same_put nl s06 _, ?_, ?_⟩
      · rw [upd_same, etk, List.map_append, List.map_append]
        rfl
      · rw [etk, List.all_append, hall]
        show (true && ((Tg.tup [.str x, .tup tc]).form && true)) = true
        rw [eform, efulls, hw1, hris]
        rfl
    · rintro σ H1 ⟨y2, y3, rfl, s1, el, hall⟩
      rw [hlen, List.take_length] at el hall
      rw [hall, Bool.true_and] at q1
      refine ⟨_, rfl, _, rfl, ?_⟩
      dsimp only [tNil]
      refine setSortX (K := K) (w := w) (SqL.of el) (by rw [List.length_map]; omega) fun p6 H6 L s6 e6 hm up => ?_
      refine ⟨_, _, .lst (SqL.of (s6 _ _ el)) (DtAll.dp _ _ (DtAll.strs _)), .lst (SqL.of e6) (DtAll.dp _ _ (DtAll.strs _)), plain_sl _, plain_sl _, Nat.le_trans (depth_sl _) (by decide), ?_⟩
      show Q (.bl (PyData.eqv _ _)) _
      rw [eqv_sl, strs_same up hm, List.map_map]
      exact q1 _ (s1.trans s6)
end
end Deed

namespace Deed
open PySem PySem.Spec PyProof.Rows L2 LamX
theorem okC {P : Program} {w : World} {K : PySem.W.Frag} {mg : Str → Option Value} {base : Heap} {x qual : Str} {st : Stmt} {f c : Addr} {fd : FuncData} {N ps : List Str} {k : Nat} {sp : Sp} (F : Fun K x qual st f fd) (hc : fd.code = .ref c) (S : FnScope N ps (defScope st)) (len : ∀ vs H Q E, sp vs H Q E → vs.length = ps.length)
    (hbody : ∀ (A : Around) (outer : List Env) (s : Shared) (H : Hp) (vs : List V) (Q : VK) (E : XK), Room k (A.deeper (envOfC qual (defScope st) s.heap.objs.size f (.ref c))) → sp vs H Q E →
      ∃ t, PSs (cxOf CX0 P w K mg base N qual (defScope st) f (.ref c) A outer s H E).nox (defBody st) t ∧ t { nx := fun _ H' => Q .non H', rt := Q } (start N vs) H) : FnOk P w K mg base CX0 (k + 1) f fd ps sp := by
  obtain ⟨oc, od, kV, doc, pm, an, cdv, ct, osl, rfl, lk, hcd⟩ := F.ex
  have e : cdv = .ref c := hc
  subst e
  refine fn_of lk hcd S len fun A outer s H vs Q E hr hsp => ?_
  obtain ⟨t, h, q⟩ := hbody A outer s H vs Q E hr hsp
  exact ⟨t, h.nox, q⟩
/-- what isn't tracked, or a table -/
def Fresh (H : Hp) (p : Addr) : Prop := ∀ o, H p = some o → ∃ ps, o = .tbl ps
theorem Fresh.of {H H' : Hp} {p : Addr} (e : ExtN H H') (n : H' p = none) : Fresh H p := fun o z => by
  by_cases h : ∃ ps, o = .tbl ps
  · exact h
  · rw [e p o z fun ps q => h ⟨ps, q⟩] at n
    cases n
theorem Fresh.ne {H : Hp} {p b : Addr} {o : HO} (f : Fresh H p) (e : H b = some o) (h : ∀ ps, o ≠ .tbl ps) : b ≠ p := fun z => by
  rw [z] at e
  obtain ⟨ps, q⟩ := f o e
  exact h ps q
theorem Fresh.up {H H' : Hp} {p : Addr} (e : ExtN H H') (f : Fresh H' p) : Fresh H p := fun o z => by
  by_cases h : ∃ ps, o = .tbl ps
  · exact h
  · exact f o (e p o z fun ps q => h ⟨ps, q⟩)
theorem ExtN.tup {H H' : Hp} (e : ExtN H H') : KpT H H' := fun b xs z => e _ _ z fun ps q => by cases q
theorem ExtN.new {H : Hp} {p : Addr} (n : H p = none) (o : HO) : ExtN H (upd H p o) := .of fun b u e => by
  rw [upd_ne (ne_of_none e n)]
  exact e
theorem Tabs.new {T : List (Addr × Str)} {H : Hp} (t : Tabs T H) {p : Addr} (n : H p = none) (o : HO) : Tabs T (upd H p o) := t.ext fun b u e => by
  rw [upd_ne (ne_of_none e n)]
  exact e
/-- a tracked list is written: the tables stay -/
theorem Tabs.put {T : List (Addr × Str)} {H : Hp} (t : Tabs T H) {p : Addr} {xs : List V} (e : H p = some (.lst xs)) (o : HO) : Tabs T (upd H p o) := fun q hq => by
  obtain ⟨ps, h1, h2, h3⟩ := t q hq
  have n1 : q.1 ≠ p := fun z => by
    rw [z, e] at h1
    cases h1
  refine ⟨ps, by rw [upd_ne n1]; exact h1, h2, fun pos cv hc => ?_⟩
  obtain ⟨c, e1, e2⟩ := h3 pos cv hc
  refine ⟨c, e1, ?_⟩
  have n2 : c ≠ p := fun z => by
    rw [z, e] at e2
    unfold CodeO at e2
    cases e2
  rw [upd_ne n2]
  exact e2
theorem ExtN.put {H H' : Hp} {p : Addr} (e : ExtN H H') (f : Fresh H p) (o : HO) : ExtN H (upd H' p o) := fun b u z h => by
  rw [upd_ne (f.ne z h)]
  exact e b u z h
end Deed

namespace Deed
open PySem PySem.Spec PySem.W PyProof.Rows L2 LamX RZ
/-! ### k53: the words of refusals -/
structure ExmT (K : PySem.W.Frag) (CF CD CC : Addr) : Prop where
  ff : PySem.W.exmOne K (.ref CF) (.ref CF) = some true
  df : PySem.W.exmOne K (.ref CD) (.ref CF) = some false
  dd : PySem.W.exmOne K (.ref CD) (.ref CD) = some true
  cf : PySem.W.exmOne K (.ref CC) (.ref CF) = some false
  cd : PySem.W.exmOne K (.ref CC) (.ref CD) = some false
  cc : PySem.W.exmOne K (.ref CC) (.ref CC) = some true
abbrev clT (CF CD CC : Addr) : List (Addr × Str) := [(CF, "forms"), (CD, "draft"), (CC, "copy")]
def dueT (tf td tc : Tg) : Str := if tf.forms = true then (if td.words 0 12 = true then (if tc.words 0 30 = true then "ok" else "copy") else "draft") else "forms"
theorem dueT_ok (tf td tc : Tg) : PyData.strOk (dueT tf td tc) = true := by
  unfold dueT
  cases tf.forms <;> cases td.words 0 12 <;> cases tc.words 0 30 <;> decide +kernel
section
variable {K : PySem.W.Frag} {CF CD CC : Addr} {tf td tc : Tg} {Q : VK} {H : Hp}
theorem bad_due (M : ExmT K CF CD CC) (q : ∀ H', Same H H' → Q (.str (dueT tf td tc)) H') : BadT CF CD CC tf td tc (chain K Q (clT CF CD CC)) H := fun H' s => by
  have h := q H' s
  unfold dueT at h
  refine ⟨fun c => ?_, fun c1 c2 => ?_, fun c1 c2 c3 => ?_⟩
  · rw [if_neg (by rw [c]; decide)] at h
    exact ⟨true, M.ff, fun _ => h, fun z => nomatch z⟩
  · rw [if_pos c1, if_neg (by rw [c2]; decide)] at h
    exact ⟨false, M.df, (fun z => nomatch z), fun _ => ⟨true, M.dd, fun _ => h, fun z => nomatch z⟩⟩
  · rw [if_pos c1, if_pos c2, if_neg (by rw [c3]; decide)] at h
    exact ⟨false, M.cf, (fun z => nomatch z), fun _ => ⟨false, M.cd, (fun z => nomatch z), fun _ => ⟨true, M.cc, fun _ => h, fun z => nomatch z⟩⟩⟩
theorem ok_due (o : Ok3 tf td tc) : dueT tf td tc = "ok" := by
  unfold dueT
  rw [if_pos o.1, if_pos o.2.1, if_pos o.2.2]
theorem tx_due (M : ExmT K CF CD CC) {R : List Fm1 → List Str → List Str → Hp → V → Hp → Prop} {p : Addr} {f d c : V} (hf : TgAt p H f tf) (hd : TgAt p H d td) (hc : TgAt p H c tc) (sf : tf.sm = true) (sd : td.sm = true) (sc : tc.sm = true) (q : ∀ H', Same H H' → Q (.str (dueT tf td tc)) H') :
    spTx CF CD CC R [f, d, c] H (fun _ H' => Q (.str "ok") H') (chain K Q (clT CF CD CC)) :=
  ⟨p, f, d, c, tf, td, tc, rfl, hf, hd, hc, sf, sd, sc, bad_due M q, fun o r H' s _ => by
    have h := q H' s
    rw [ok_due o] at h
    exact h⟩
theorem tx_due4 (M : ExmT K CF CD CC) {R : Option (List Tg) → List Fm1 → List Str → List Str → Hp → V → Hp → Prop} {p : Addr} {f d c : V} (hf : TgAt p H f tf) (hd : TgAt p H d td) (hc : TgAt p H c tc) (sf : tf.sm = true) (sd : td.sm = true) (sc : tc.sm = true) (q : ∀ H', Same H H' → Q (.str (dueT tf td tc)) H') :
    spTx4 CF CD CC R [f, d, c, .non] H (fun _ H' => Q (.str "ok") H') (chain K Q (clT CF CD CC)) :=
  ⟨p, f, d, c, .non, tf, td, tc, none, rfl, hf, hd, hc, ⟨.non, .non, rfl⟩, sf, sd, sc, bad_due M q, fun o r H' s _ => by
    have h := q H' s
    rw [ok_due o] at h
    exact h⟩
end
abbrev sLWhy : Stmt := topS 47
theorem scLWhy : FnScope ["_law_call"] ["_law_call"] (defScope sLWhy) := ⟨rfl, rfl, rfl, by decide +kernel, rfl, by decide +kernel, by decide +kernel⟩
/-- _law_why(lambda: ..) -/
theorem pe_why {X : Cx} {T : List (Addr × Str)} {g c P CF CD CC : Addr} {gd : FuncData} {k : Nat} {params : Arguments} {body : Expr} {scope : Scope} {t : XK → TE} {p lpos pos : Pos} (D : Df X.K X.mg "_law_why" sLWhy ["_law_call"] g gd) (hF : X.mg "NoForms" = some (.ref CF)) (hD : X.mg "NoDraft" = some (.ref CD)) (hC : X.mg "NoCopy" = some (.ref CC)) (hg : Gl X "_law_why")
    (TB : TabB X.base X.mg c P) (hcode : X.env.code = .ref c) (hmT : (P, X.env.qual ++ "<lambda>") ∈ T) (hu : ∀ p ∈ T, p.1 = P → p.2 = X.env.qual ++ "<lambda>") (hr : Room (k + 2) X.A) (L : LamS X.env.scope scope) (hdef : defaultsOf params X.env = ([], []))
    (hbind : ∀ (q : Str) (cl : List (Str × Addr)) (pm cv ctv : Value), bindArgs (PySem.W.kla_fn "<lambda>" q params body scope cl pm cv ctv) ⟨[], []⟩ = pure [])
    (hbody : ∀ (A : Around) (outer : List Env) (s : Shared) (H : Hp) (E : XK) (f c' : Addr), Room k (A.deeper (lamEnv X scope s.heap.objs.size f c')) → PE (lamCx X A outer s H E scope f c') body (t E)) :
    PE X (.Call (.Name "_law_why" p) [.Lambda params body scope lpos] [] pos) (tLam T (TWhy X.K (clT CF CD CC) "ok") t) := by
  obtain ⟨oc, od, kV, doc, pm, an, cdv, ct, osl, e, lk, hcd⟩ := D.F.ex
  have hb := D.b
  rw [e] at lk hb
  exact pe_lamcall (Ng := ["_law_call"]) (a := "_law_call") hg D.g D.F.kp lk hcd hb scLWhy rfl (.inl rfl)
    (why_gives (l := clT CF CD CC) (fun _ => rfl) (fun s H => HdsOk.cons ⟨rfl, by decide, .inl hF⟩ (fun a oe cls d pn _ _ => pss_one (ps_ret pe_str)) (HdsOk.cons ⟨rfl, by decide, .inl hD⟩ (fun a oe cls d pn _ _ => pss_one (ps_ret pe_str)) (HdsOk.cons ⟨rfl, by decide, .inl hC⟩ (fun a oe cls d pn _ _ => pss_one (ps_ret pe_str)) HdsOk.nil))))
    TB hcode hmT hu hr L hdef hbind hbody
theorem rep6 (x : V) : (List.replicate (6 : Int).toNat [x]).flatten = [x, x, x, x, x, x] := rfl
section
variable {P : Program} {w : World} {K : PySem.W.Frag} {mg : Str → Option Value} {base : Heap} {T : List (Addr × Str)}
abbrev sLRight : Stmt := topS 48
abbrev nLRight : List Str := ["_law_forms_here", "_law_draft_here", "_law_copy_here", "_law_due", "_law_words"]
abbrev pLRight : List Str := ["_law_forms_here", "_law_draft_here", "_law_copy_here"]
theorem scLRight : FnScope nLRight pLRight (defScope sLRight) := ⟨rfl, rfl, rfl, by decide +kernel, rfl, by decide +kernel, by decide +kernel⟩
def qRight : Str := "_law_right.<locals>.<lambda>"
def spLRight (T : List (Addr × Str)) : Sp := fun vs H Q _ => ∃ (p : Addr) (f d c : V) (tf td tc : Tg), vs = [f, d, c] ∧ TgAt p H f tf ∧ TgAt p H d td ∧ TgAt p H c tc ∧ OkT tf ∧ OkT td ∧ OkT tc ∧ Tabs T H ∧ ∀ H', ExtN H H' → Tabs T H' → Q (.bl true) H'
theorem ok_LRight {f c tb g CF CD CC : Addr} {fd gd : FuncData} {k : Nat} (F : Fun K "_law_right" "_law_right" sLRight f fd) (hc : fd.code = .ref c) (TB : TabB base mg c tb) (hmT : (tb, qRight) ∈ T) (hu : ∀ p ∈ T, p.1 = tb → p.2 = qRight) (M : ExmT K CF CD CC) (DW : Df K mg "_law_why" sLWhy ["_law_call"] g gd) (hF : mg "NoForms" = some (.ref CF)) (hD : mg "NoDraft" = some (.ref CD)) (hC : mg "NoCopy" = some (.ref CC))
    (C__law_are_words : CallOk P w K mg base (k + 2) "_law_are_words" pLAreWords spAreWords) (C__law_are_forms : CallOk P w K mg base (k + 2) "_law_are_forms" pLAreForms (spB1s Tg.forms))
    (C0 : CallX P w K mg base k "says" pSays (spTx CF CD CC RSays)) (C1 : CallX P w K mg base k "ways_many" pWaysM (spTx CF CD CC RMany)) (C2 : CallX P w K mg base k "first_way" pFirstWay (spTx CF CD CC RFirst)) (C3 : CallX P w K mg base k "reaches_of" pReachesOf (spTx CF CD CC RReach)) (C4 : CallX P w K mg base k "reaches_hold" pReachesHold (spTx4 CF CD CC RHolds)) (C5 : CallX P w K mg base k "parts_at" pPartsAt (spTx CF CD CC RParts)) : FnOk P w K mg base CX0 (k + 3) f fd pLRight (spLRight T) := by
  refine okC F hc scLRight (fun vs H Q E h => ?_) (fun A outer s H vs Q E hr h => ?_)
  · obtain ⟨p, f, d, c, tf, td, tc, rfl, _⟩ := h
    rfl
  · obtain ⟨p, fv, dv, cv, tf, td, tc, rfl, hf, hd, hcv, of_, od, oc, hT, q⟩ := h
    have nd := scLRight.nd
    refine ⟨_, pss_cons (ps_set (i := 3) nd rfl (.inl rfl) pe_str)
      (C8.pss_cut (ps_if (pt_not (pt_val (pe_call C__law_are_words.ok hr (by rfl) C__law_are_words.g C__law_are_words.kp C__law_are_words.b .nil pass0 (pa_cons (pv 2) (pa_cons pe_int (pa_cons pe_int pa_nil)))))) (pss_one (ps_set (i := 3) nd rfl (.inl rfl) pe_str)) pss_nil)
      (C8.pss_cut (ps_if (pt_not (pt_val (pe_call C__law_are_words.ok hr (by rfl) C__law_are_words.g C__law_are_words.kp C__law_are_words.b .nil pass0 (pa_cons (pv 1) (pa_cons pe_int (pa_cons pe_int pa_nil)))))) (pss_one (ps_set (i := 3) nd rfl (.inl rfl) pe_str)) pss_nil)
      (C8.pss_cut (ps_if (pt_not (pt_val (pe_call C__law_are_forms.ok hr (by rfl) C__law_are_forms.g C__law_are_forms.kp C__law_are_forms.b .nil pass0 (pa_cons (pv 0) pa_nil)))) (pss_one (ps_set (i := 3) nd rfl (.inl rfl) pe_str)) pss_nil)
      (pss_cons (ps_set (i := 4) nd rfl (.inl rfl) (pe_lst (pa_cons (pe_why (T := T) (c := c) (P := tb) (k := k) DW hF hD hC rfl TB rfl hmT hu hr (lamS_by (sc := defScope sLRight) (by decide +kernel)) rfl (fun _ _ _ _ _ => rfl) (fun A outer s H E f c' hr' => pe_call C0.ok hr' (by rfl) C0.g C0.kp C0.b .nil (passes_call (takes_of rfl rfl rfl rfl) (fun _ _ _ _ h => h)) (pa_cons (pv 0) (pa_cons (pv 1) (pa_cons (pv 2) pa_nil))))) pa_nil)))
      (pss_cons (ps_expr (pe_bm PySem.F.plainAttrs_list PySem.F.slot_list_append PySem.F.type_list_append mt_append (pv 4) (pa_cons (pe_why (T := T) (c := c) (P := tb) (k := k) DW hF hD hC rfl TB rfl hmT hu hr (lamS_by (sc := defScope sLRight) (by decide +kernel)) rfl (fun _ _ _ _ _ => rfl) (fun A outer s H E f c' hr' => pe_call C1.ok hr' (by rfl) C1.g C1.kp C1.b .nil (passes_call (takes_of rfl rfl rfl rfl) (fun _ _ _ _ h => h)) (pa_cons (pv 0) (pa_cons (pv 1) (pa_cons (pv 2) pa_nil))))) pa_nil)))
      (pss_cons (ps_expr (pe_bm PySem.F.plainAttrs_list PySem.F.slot_list_append PySem.F.type_list_append mt_append (pv 4) (pa_cons (pe_why (T := T) (c := c) (P := tb) (k := k) DW hF hD hC rfl TB rfl hmT hu hr (lamS_by (sc := defScope sLRight) (by decide +kernel)) rfl (fun _ _ _ _ _ => rfl) (fun A outer s H E f c' hr' => pe_call C2.ok hr' (by rfl) C2.g C2.kp C2.b .nil (passes_call (takes_of rfl rfl rfl rfl) (fun _ _ _ _ h => h)) (pa_cons (pv 0) (pa_cons (pv 1) (pa_cons (pv 2) pa_nil))))) pa_nil)))
      (pss_cons (ps_expr (pe_bm PySem.F.plainAttrs_list PySem.F.slot_list_append PySem.F.type_list_append mt_append (pv 4) (pa_cons (pe_why (T := T) (c := c) (P := tb) (k := k) DW hF hD hC rfl TB rfl hmT hu hr (lamS_by (sc := defScope sLRight) (by decide +kernel)) rfl (fun _ _ _ _ _ => rfl) (fun A outer s H E f c' hr' => pe_call C3.ok hr' (by rfl) C3.g C3.kp C3.b .nil (passes_call (takes_of rfl rfl rfl rfl) (fun _ _ _ _ h => h)) (pa_cons (pv 0) (pa_cons (pv 1) (pa_cons (pv 2) pa_nil))))) pa_nil)))
      (pss_cons (ps_expr (pe_bm PySem.F.plainAttrs_list PySem.F.slot_list_append PySem.F.type_list_append mt_append (pv 4) (pa_cons (pe_why (T := T) (c := c) (P := tb) (k := k) DW hF hD hC rfl TB rfl hmT hu hr (lamS_by (sc := defScope sLRight) (by decide +kernel)) rfl (fun _ _ _ _ _ => rfl) (fun A outer s H E f c' hr' => pe_call C4.ok hr' (by rfl) C4.g C4.kp C4.b .nil (passes_call (takes_of rfl rfl rfl rfl) (fun _ _ _ _ h => h)) (pa_cons (pv 0) (pa_cons (pv 1) (pa_cons (pv 2) (pa_cons pe_non pa_nil)))))) pa_nil)))
      (pss_cons (ps_expr (pe_bm PySem.F.plainAttrs_list PySem.F.slot_list_append PySem.F.type_list_append mt_append (pv 4) (pa_cons (pe_why (T := T) (c := c) (P := tb) (k := k) DW hF hD hC rfl TB rfl hmT hu hr (lamS_by (sc := defScope sLRight) (by decide +kernel)) rfl (fun _ _ _ _ _ => rfl) (fun A outer s H E f c' hr' => pe_call C5.ok hr' (by rfl) C5.g C5.kp C5.b .nil (passes_call (takes_of rfl rfl rfl rfl) (fun _ _ _ _ h => h)) (pa_cons (pv 0) (pa_cons (pv 1) (pa_cons (pv 2) pa_nil))))) pa_nil)))
      (pss_one (ps_ret (pe_cmpR (op_eqP (K := K) (by rfl) hr.units) (pv 4) (pe_op op_rep (pe_lst (pa_cons (pv 3) pa_nil)) pe_int) (nomark _))))))))))))), ?_⟩
    refine ⟨fun σ' H' => σ' = [some fv, some dv, some cv, some (.str (if tc.words 0 30 = true then "ok" else "copy")), none] ∧ Same H H', ?_, ?_⟩
    · refine ⟨_, rfl, p, cv, tc, 0, 30, rfl, hcv, oc.1, by decide, fun H1 s1 => ⟨_, rfl, ?_⟩⟩
      cases hw : tc.words 0 30 with
      | true => exact iteF ⟨rfl, s1⟩
      | false => exact iteT ⟨rfl, s1⟩
    rintro _ H1 ⟨rfl, s1⟩
    refine ⟨fun σ' H' => σ' = [some fv, some dv, some cv, some (.str (if td.words 0 12 = true then (if tc.words 0 30 = true then "ok" else "copy") else "draft")), none] ∧ Same H H', ?_, ?_⟩
    · refine ⟨_, rfl, p, dv, td, 0, 12, rfl, TgAt.same s1 _ _ hd, od.1, by decide, fun H2 s2 => ⟨_, rfl, ?_⟩⟩
      cases hw : td.words 0 12 with
      | true => exact iteF ⟨rfl, s1.trans s2⟩
      | false => exact iteT ⟨rfl, s1.trans s2⟩
    rintro _ H2 ⟨rfl, s2⟩
    refine ⟨fun σ' H' => σ' = [some fv, some dv, some cv, some (.str (dueT tf td tc)), none] ∧ Same H H', ?_, ?_⟩
    · refine ⟨_, rfl, p, fv, tf, rfl, TgAt.same s2 _ _ hf, of_.1, fun H3 s3 => ⟨_, rfl, ?_⟩⟩
      unfold dueT
      cases hw : tf.forms with
      | true => exact iteF ⟨rfl, s2.trans s3⟩
      | false => exact iteT ⟨rfl, s2.trans s3⟩
    rintro _ H3 ⟨rfl, s3⟩
    have hf3 := TgAt.same s3 _ _ hf
    have hd3 := TgAt.same s3 _ _ hd
    have hc3 := TgAt.same s3 _ _ hcv
    have hT3 : Tabs T H3 := hT.ext s3
    have e3 : ExtN H H3 := .of s3
    refine ⟨hT3, fun K1 e1 T1 => ⟨_, rfl, _, rfl, _, rfl, tx_due M (TgAt.ext e1 _ _ hf3) (TgAt.ext e1 _ _ hd3) (TgAt.ext e1 _ _ hc3) of_.1 od.1 oc.1 fun L1 r1 => ?_⟩⟩
    generalize hw : dueT tf td tc = du at ⊢
    have eL : ExtN H3 L1 := e1.trans (.of r1)
    refine ⟨(by show 1 ≤ sizeLine; decide), fun l nl => ?_⟩
    have e4 : ExtN H3 (upd L1 l (.lst [.str du])) := eL.trans (.of (same_new nl _))
    have T4 := Tabs.new (T1.ext r1) nl (.lst [.str du])
    have el4 : (upd L1 l (.lst [.str du])) l = some (.lst [.str du]) := upd_same
    have nl0 : Fresh H3 l := Fresh.of eL nl
    generalize (upd L1 l (.lst [.str du])) = M0 at e4 T4 el4
    refine ⟨_, rfl, .inl ⟨rfl, _, SqL.of el4⟩, T4, fun K1 f1 S1 => ⟨_, rfl, _, rfl, _, rfl, tx_due M (TgAt.ext (e4.trans f1) _ _ hf3) (TgAt.ext (e4.trans f1) _ _ hd3) (TgAt.ext (e4.trans f1) _ _ hc3) of_.1 od.1 oc.1 fun L1 r1 => ?_⟩⟩
    rw [hw]
    have ll := (f1.trans (.of r1)) _ _ el4 fun ps z => by cases z
    refine ⟨l, _, _, rfl, rfl, ll, small1000 (by show 1 ≤ 1000; decide), ?_⟩
    have e5 : ExtN H3 (upd L1 l (.lst ([.str du] ++ [.str du]))) := ExtN.put (e4.trans (f1.trans (.of r1))) nl0 _
    have T5 := Tabs.put (S1.ext r1) ll (.lst ([.str du] ++ [.str du]))
    have el5 : (upd L1 l (.lst ([.str du] ++ [.str du]))) l = some (.lst [.str du, .str du]) := upd_same
    generalize (upd L1 l (.lst ([.str du] ++ [.str du]))) = M1 at e5 T5 el5
    clear e4 T4 el4 ll f1 S1 r1
    have e4 := e5
    have T4 := T5
    have el4 := el5
    clear e5 T5 el5
    refine ⟨_, rfl, .inl ⟨rfl, _, SqL.of el4⟩, T4, fun K2 f1 S1 => ⟨_, rfl, _, rfl, _, rfl, tx_due M (TgAt.ext (e4.trans f1) _ _ hf3) (TgAt.ext (e4.trans f1) _ _ hd3) (TgAt.ext (e4.trans f1) _ _ hc3) of_.1 od.1 oc.1 fun L2 r1 => ?_⟩⟩
    rw [hw]
    have ll := (f1.trans (.of r1)) _ _ el4 fun ps z => by cases z
    refine ⟨l, _, _, rfl, rfl, ll, small1000 (by show 2 ≤ 1000; decide), ?_⟩
    have e5 : ExtN H3 (upd L2 l (.lst ([.str du, .str du] ++ [.str du]))) := ExtN.put (e4.trans (f1.trans (.of r1))) nl0 _
    have T5 := Tabs.put (S1.ext r1) ll (.lst ([.str du, .str du] ++ [.str du]))
    have el5 : (upd L2 l (.lst ([.str du, .str du] ++ [.str du]))) l = some (.lst [.str du, .str du, .str du]) := upd_same
    generalize (upd L2 l (.lst ([.str du, .str du] ++ [.str du]))) = M2 at e5 T5 el5
    clear e4 T4 el4 ll f1 S1 r1
    have e4 := e5
    have T4 := T5
    have el4 := el5
    clear e5 T5 el5
    refine ⟨_, rfl, .inl ⟨rfl, _, SqL.of el4⟩, T4, fun K3 f1 S1 => ⟨_, rfl, _, rfl, _, rfl, tx_due M (TgAt.ext (e4.trans f1) _ _ hf3) (TgAt.ext (e4.trans f1) _ _ hd3) (TgAt.ext (e4.trans f1) _ _ hc3) of_.1 od.1 oc.1 fun L3 r1 => ?_⟩⟩
    rw [hw]
    have ll := (f1.trans (.of r1)) _ _ el4 fun ps z => by cases z
    refine ⟨l, _, _, rfl, rfl, ll, small1000 (by show 3 ≤ 1000; decide), ?_⟩
    have e5 : ExtN H3 (upd L3 l (.lst ([.str du, .str du, .str du] ++ [.str du]))) := ExtN.put (e4.trans (f1.trans (.of r1))) nl0 _
    have T5 := Tabs.put (S1.ext r1) ll (.lst ([.str du, .str du, .str du] ++ [.str du]))
    have el5 : (upd L3 l (.lst ([.str du, .str du, .str du] ++ [.str du]))) l = some (.lst [.str du, .str du, .str du, .str du]) := upd_same
    generalize (upd L3 l (.lst ([.str du, .str du, .str du] ++ [.str du]))) = M3 at e5 T5 el5
    clear e4 T4 el4 ll f1 S1 r1
    have e4 := e5
    have T4 := T5
    have el4 := el5
    clear e5 T5 el5
    refine ⟨_, rfl, .inl ⟨rfl, _, SqL.of el4⟩, T4, fun K4 f1 S1 => ⟨_, rfl, _, rfl, _, rfl, tx_due4 M (TgAt.ext (e4.trans f1) _ _ hf3) (TgAt.ext (e4.trans f1) _ _ hd3) (TgAt.ext (e4.trans f1) _ _ hc3) of_.1 od.1 oc.1 fun L4 r1 => ?_⟩⟩
    rw [hw]
    have ll := (f1.trans (.of r1)) _ _ el4 fun ps z => by cases z
    refine ⟨l, _, _, rfl, rfl, ll, small1000 (by show 4 ≤ 1000; decide), ?_⟩
    have e5 : ExtN H3 (upd L4 l (.lst ([.str du, .str du, .str du, .str du] ++ [.str du]))) := ExtN.put (e4.trans (f1.trans (.of r1))) nl0 _
    have T5 := Tabs.put (S1.ext r1) ll (.lst ([.str du, .str du, .str du, .str du] ++ [.str du]))
    have el5 : (upd L4 l (.lst ([.str du, .str du, .str du, .str du] ++ [.str du]))) l = some (.lst [.str du, .str du, .str du, .str du, .str du]) := upd_same
    generalize (upd L4 l (.lst ([.str du, .str du, .str du, .str du] ++ [.str du]))) = M4 at e5 T5 el5
    clear e4 T4 el4 ll f1 S1 r1
    have e4 := e5
    have T4 := T5
    have el4 := el5
    clear e5 T5 el5
    refine ⟨_, rfl, .inl ⟨rfl, _, SqL.of el4⟩, T4, fun K5 f1 S1 => ⟨_, rfl, _, rfl, _, rfl, tx_due M (TgAt.ext (e4.trans f1) _ _ hf3) (TgAt.ext (e4.trans f1) _ _ hd3) (TgAt.ext (e4.trans f1) _ _ hc3) of_.1 od.1 oc.1 fun L5 r1 => ?_⟩⟩
    rw [hw]
    have ll := (f1.trans (.of r1)) _ _ el4 fun ps z => by cases z
    refine ⟨l, _, _, rfl, rfl, ll, small1000 (by show 5 ≤ 1000; decide), ?_⟩
    have e5 : ExtN H3 (upd L5 l (.lst ([.str du, .str du, .str du, .str du, .str du] ++ [.str du]))) := ExtN.put (e4.trans (f1.trans (.of r1))) nl0 _
    have T5 := Tabs.put (S1.ext r1) ll (.lst ([.str du, .str du, .str du, .str du, .str du] ++ [.str du]))
    have el5 : (upd L5 l (.lst ([.str du, .str du, .str du, .str du, .str du] ++ [.str du]))) l = some (.lst [.str du, .str du, .str du, .str du, .str du, .str du]) := upd_same
    generalize (upd L5 l (.lst ([.str du, .str du, .str du, .str du, .str du] ++ [.str du]))) = M5 at e5 T5 el5
    clear e4 T4 el4 ll f1 S1 r1
    have e4 := e5
    have T4 := T5
    have el4 := el5
    clear e5 T5 el5
    refine ⟨_, rfl, _, rfl, (by show 1 ≤ sizeLine; decide), fun l2 nl2 => ?_⟩
    have s10 := same_new nl2 (.lst [.str du])
    have el10 : (upd M5 l2 (.lst [.str du])) l2 = some (.lst [.str du]) := upd_same
    have T10 := Tabs.new T4 nl2 (.lst [.str du])
    generalize (upd M5 l2 (.lst [.str du])) = H10 at s10 el10 T10
    refine ⟨l2, 6, _, rfl, rfl, el10, by decide, by decide, Nat.le_of_lt (small1000 (by show 1 * 6 ≤ 1000; decide)), fun l3 nl3 => ?_⟩
    rw [rep6]
    have el9 : M5 l = some (.lst (([du, du, du, du, du, du] : List Str).map V.str)) := el4
    have s11 := same_new nl3 (.lst [.str du, .str du, .str du, .str du, .str du, .str du])
    have el11 : (upd H10 l3 (.lst [.str du, .str du, .str du, .str du, .str du, .str du])) l3 = some (.lst (([du, du, du, du, du, du] : List Str).map V.str)) := upd_same
    have T11 := Tabs.new T10 nl3 (.lst [.str du, .str du, .str du, .str du, .str du, .str du])
    generalize (upd H10 l3 (.lst [.str du, .str du, .str du, .str du, .str du, .str du])) = H11 at s11 el11 T11
    refine ⟨_, _, .lst (SqL.of (s11 _ _ (s10 _ _ el9))) (DtAll.dp _ _ (DtAll.strs _)), .lst (SqL.of el11) (DtAll.dp _ _ (DtAll.strs _)), plain_sl _, plain_sl _, Nat.le_trans (depth_sl _) (by decide), ?_⟩
    show Q (.bl (PyData.eqv _ _)) _
    rw [eqv_sl, decide_eq_true rfl]
    exact q _ (e3.trans (e4.trans (.of (s10.trans s11)))) T11
end
end Deed

namespace Deed
open PySem PySem.Spec PyProof.Rows L2 LamX
/-! ### what gives a thing, now or later -/
theorem gName_ap {i : Nat} {v : V} {σ : L2.St} {H : Hp} {Q : L2.St → Hp → Prop} : gName i v σ H Q = Q (σ.set i (some v)) H := rfl
theorem tSeq_ap {t u : TS} {D : Ends} {σ : L2.St} {H : Hp} : tSeq t u D σ H = t { D with nx := u D } σ H := rfl
theorem tAsg_ap {te : TE} {g : TG} {D : Ends} {σ : L2.St} {H : Hp} : tAsg te g D σ H = te σ H (fun x H1 => g x σ H1 D.nx) := rfl
def tupN (m : Nat) (t : Tg) : Prop := ∃ ts, t = .tup ts ∧ ts.length ≤ m
def GE (p : Addr) (te : TE) (σ : L2.St) (H : Hp) (R : Tg → Prop) : Prop := ∀ H1, Kp p H H1 → PenAt H1 p → ∀ Q : VK, (∀ v t H', Kp p H1 H' → PenAt H' p → TgAt p H' v t → R t → Q v H') → te σ H1 Q
def GA (p : Addr) (ta : TA) (σ : L2.St) (H : Hp) (n : Nat) : Prop := ∀ H1, Kp p H H1 → PenAt H1 p → ∀ Q : List V → Hp → Prop, (∀ vs ts H', Kp p H1 H' → PenAt H' p → TgAll p H' vs ts → vs.length = n → Q vs H') → ta σ H1 Q
def GI (p : Addr) (te : TE) (σ : L2.St) (H : Hp) : Prop := ∀ H1, Kp p H H1 → PenAt H1 p → ∀ Q : VK, (∀ i H', Kp p H1 H' → PenAt H' p → Q (.int i) H') → te σ H1 Q
def GO (p : Addr) (to : TO) (σ : L2.St) (H : Hp) : Prop := ∀ H1, Kp p H H1 → PenAt H1 p → ∀ Q : Option Int → Hp → Prop, (∀ o H', Kp p H1 H' → PenAt H' p → Q o H') → to σ H1 Q
section
variable {p : Addr} {σ : L2.St} {H : Hp} {K : PySem.W.Frag} {te tb : TE} {ta : TA} {R : Tg → Prop}
theorem GE.imp {R' : Tg → Prop} (h : GE p te σ H R) (i : ∀ t, R t → R' t) : GE p te σ H R' := fun H1 k P Q q => h H1 k P Q fun v t H' k' P' hT hR => q v t H' k' P' hT (i t hR)
theorem ge_int {i : Int} : GE p (tC (.int i)) σ H (fun t => t = .int i) := fun H1 _ P Q q => q _ _ H1 (Kp.refl _ _) P (.int i) rfl
theorem ge_bl {b : Bool} : GE p (tC (.bl b)) σ H (fun _ => True) := fun H1 _ P Q q => q _ _ H1 (Kp.refl _ _) P (.bl b) trivial
theorem ge_non : GE p (tC .non) σ H (fun _ => True) := fun H1 _ P Q q => q _ _ H1 (Kp.refl _ _) P .non trivial
theorem ge_str {x : Str} : GE p (tC (.str x)) σ H (fun _ => True) := fun H1 _ P Q q => q _ _ H1 (Kp.refl _ _) P (.str x) trivial
theorem ge_neg {r : V → Hp → VK → Prop} {i : Int} (hr : r = rU fun i => .int (-i)) : GE p (tUn r (tC (.int i))) σ H (fun _ => True) := by
  subst hr
  exact fun H1 _ P Q q => ⟨_, rfl, q _ _ H1 (Kp.refl _ _) P (.int _) trivial⟩
theorem ge_gi (h : GI p te σ H) : GE p te σ H (fun _ => True) := fun H1 k P Q q => h H1 k P Q fun i H' k' P' => q _ _ H' k' P' (.int i) trivial
theorem ge_var {i : Nat} {v : V} {t : Tg} (hP : PenAt H p) (hv : σ[i]? = some (some v)) (hT : TgAt p H v t) (hR : R t) : GE p (tVar i) σ H R := fun H1 k P Q q => ⟨v, hv, q _ _ H1 (Kp.refl _ _) P (TgAt.kp k hP _ _ hT) hR⟩
theorem ge_varT {i : Nat} {v : V} {t : Tg} (hP : PenAt H p) (hv : σ[i]? = some (some v)) (hT : TgAt p H v t) : GE p (tVar i) σ H (fun _ => True) := ge_var hP hv hT trivial
theorem ga_nil : GA p tNil σ H 0 := fun H1 _ P Q q => q [] [] H1 (Kp.refl _ _) P .nil rfl
theorem ga_cons {n : Nat} (h1 : GE p te σ H R) (h2 : GA p ta σ H n) : GA p (tCons te ta) σ H (n + 1) := fun H1 k P Q q => h1 H1 k P _ fun v t H2 k2 P2 hT _ => h2 H2 (k.trans k2) P2 _ fun vs ts H3 k3 P3 hts hl => q _ _ H3 (k2.trans k3) P3 (.cons (TgAt.kp k3 P2 _ _ hT) hts) (by rw [List.length_cons, hl])
theorem ge_tup {n : Nat} (h : GA p ta σ H n) (hn : n ≤ 1000 := by decide) : GE p (tTup ta) σ H (tupN n) := fun H1 k P Q q => h H1 k P _ fun vs ts H2 k2 P2 hts hl => ⟨Nat.le_of_lt (small1000 (by omega)), fun a na => q _ _ _ (k2.trans (Kp.new na _)) (P2.new na _) (.tup upd_same (TgAll.kp (Kp.new na _) P2 _ _ hts)) ⟨ts, rfl, by rw [← hts.length, hl]; exact Nat.le_refl _⟩⟩
theorem ge_catA {m n : Nat} (h1 : GE p te σ H (tupN m)) (h2 : GE p tb σ H (tupN n)) (hmn : m + n ≤ 1000 := by decide) : GE p (tOp (rCatA K) te tb) σ H (tupN (m + n)) := fun H1 k P Q q => h1 H1 k P _ fun v t H2 k2 P2 hT hR => h2 H2 (k.trans k2) P2 _ fun v' t' H3 k3 P3 hT' hR' => by
  obtain ⟨ts, rfl, hl⟩ := hR
  obtain ⟨ts', rfl, hl'⟩ := hR'
  have hT3 := TgAt.kp k3 P2 _ _ hT
  cases hT3 with
  | @tup a xs _ ea ha =>
  cases hT' with
  | @tup b ys _ eb hb =>
  have e1 := ha.length
  have e2 := hb.length
  refine catA_same ea eb (by omega) fun c H4 s4 e4 => ?_
  have P4 : PenAt H4 p := by
    obtain ⟨x1, x2, x3, x4, z1, z2⟩ := P3
    exact ⟨x1, x2, x3, x4, s4 _ _ z1, z2⟩
  exact q _ _ H4 (k2.trans (k3.trans (Kp.same s4))) P4 (.tup e4 ((TgAll.same s4 _ _ ha).append (TgAll.same s4 _ _ hb))) ⟨_, rfl, by rw [List.length_append]; omega⟩
theorem ge_slA {m : Nat} {tl th : TO} (h : GE p te σ H (tupN m)) (hl : GO p tl σ H) (hh : GO p th σ H) : GE p (tSl (rSlA K) te tl th) σ H (tupN m) := fun H1 k P Q q => h H1 k P _ fun v t H2 k2 P2 hT hR => hl H2 (k.trans k2) P2 _ fun lo H3 k3 P3 => hh H3 (k.trans (k2.trans k3)) P3 _ fun hi H4 k4 P4 => by
  obtain ⟨ts, rfl, hm⟩ := hR
  have hT4 := TgAt.kp (k3.trans k4) P2 _ _ hT
  cases hT4 with
  | @tup a xs _ ea ha =>
  refine slA_same ea fun c H5 s5 e5 => ?_
  have P5 : PenAt H5 p := by
    obtain ⟨x1, x2, x3, x4, z1, z2⟩ := P4
    exact ⟨x1, x2, x3, x4, s5 _ _ z1, z2⟩
  obtain ⟨ts', hts'⟩ := (TgAll.same s5 _ _ ha).cut lo hi
  refine q _ _ H5 (k2.trans (k3.trans (k4.trans (Kp.same s5)))) P5 (.tup e5 hts') ⟨_, rfl, ?_⟩
  have := hts'.length
  have h9 : (cutV xs lo hi).length ≤ xs.length := cutV_length xs lo hi
  have := ha.length
  omega
theorem go_none : GO p tNoPart σ H := fun H1 _ P Q q => q none H1 (Kp.refl _ _) P
theorem go_some (h : GI p te σ H) : GO p (tPart te) σ H := fun H1 k P Q q => h H1 k P _ fun i H' k' P' => ⟨i, rfl, q _ H' k' P'⟩
theorem gi_int {i : Int} : GI p (tC (.int i)) σ H := fun H1 _ P Q q => q i H1 (Kp.refl _ _) P
theorem gi_neg {r : V → Hp → VK → Prop} {i : Int} (hr : r = rU fun i => .int (-i)) : GI p (tUn r (tC (.int i))) σ H := by
  subst hr
  exact fun H1 _ P Q q => ⟨_, rfl, q _ H1 (Kp.refl _ _) P⟩
theorem gi_var {i : Nat} {n : Int} (hv : σ[i]? = some (some (.int n))) : GI p (tVar i) σ H := fun H1 _ P Q q => ⟨_, hv, q n H1 (Kp.refl _ _) P⟩
theorem gi_add (h1 : GI p te σ H) (h2 : GI p tb σ H) : GI p (tOp (rI0 fun i j => .int (i + j)) te tb) σ H := fun H1 k P Q q => h1 H1 k P _ fun i H2 k2 P2 => h2 H2 (k.trans k2) P2 _ fun j H3 k3 P3 => ⟨i, j, rfl, rfl, q _ H3 (k2.trans k3) P3⟩
theorem gi_sub (h1 : GI p te σ H) (h2 : GI p tb σ H) : GI p (tOp (rI0 fun i j => .int (i - j)) te tb) σ H := fun H1 k P Q q => h1 H1 k P _ fun i H2 k2 P2 => h2 H2 (k.trans k2) P2 _ fun j H3 k3 P3 => ⟨i, j, rfl, rfl, q _ H3 (k2.trans k3) P3⟩
/-- a draw -/
theorem gi_draw {i : Nat} {bd : Int} {E : XK} (hv : σ[i]? = some (some (.ref p))) (h0 : 0 < bd := by decide) (h1 : bd < 1073741824 := by decide) : GI p (tCall spDraw [] E (tCons (tVar i) (tCons (tC (.int bd)) tNil))) σ H := fun H1 k P Q q => ⟨_, hv, p, bd, rfl, P, h0, h1, fun v H2 k2 P2 _ _ => q v H2 k2 P2⟩
/-- the first number of a tuple -/
theorem gi_ix0 (h : GE p te σ H (fun t => ∃ i r, t = .tup (.int i :: r))) : GI p (tOp (rIxT K) te (tC (.int 0))) σ H := fun H1 k P Q q => h H1 k P _ fun v t H2 k2 P2 hT hR => by
  obtain ⟨i, r, rfl⟩ := hR
  cases hT with
  | @tup a xs _ ea ha =>
  cases ha with
  | cons h1 _ =>
  cases h1
  exact ⟨a, _, 0, .int i, rfl, rfl, SqT.of ea, atI_nat (j := 0) rfl, q i H2 k2 P2⟩
/-- list(t) -/
theorem ge_list {m : Nat} (h : GE p te σ H (tupN m)) : GE p (tCB (fun xs H Q => ∃ p ys, xs = [.ref p] ∧ (SqL K H p ys ∨ SqT K H p ys) ∧ ∀ l, H l = none → Q (.ref l) (upd H l (.lst ys))) (tCons te tNil)) σ H (fun _ => True) := fun H1 k P Q q => h H1 k P _ fun v t H2 k2 P2 hT hR => by
  obtain ⟨ts, rfl, hm⟩ := hR
  cases hT with
  | @tup a xs _ ea ha =>
  exact ⟨a, xs, rfl, .inr (SqT.of ea), fun l nl => q _ _ _ (k2.trans (Kp.new nl _)) (P2.new nl _) (.lst (P2.free nl) upd_same) trivial⟩
/-- t * 6 -/
theorem ge_rep {n : Int} (h : GE p te σ H (fun t => ∃ ts, t = .tup ts ∧ ts ≠ [] ∧ ts.length ≤ 1000)) (h2 : 2 ≤ n := by decide) (h3 : n ≤ 1000 := by decide) : GE p (tOp (rRepT K) te (tC (.int n))) σ H (fun _ => True) := fun H1 k P Q q => h H1 k P _ fun v t H2 k2 P2 hT hR => by
  obtain ⟨ts, rfl, hne, hm⟩ := hR
  cases hT with
  | @tup a xs _ ea ha =>
  have hl := ha.length
  refine ⟨a, n, xs, rfl, rfl, SqT.of ea, fun z => hne (List.eq_nil_of_length_eq_zero (by rw [← hl, z]; rfl)), h2, h3, by omega, fun b nb => ?_⟩
  exact q _ _ _ (k2.trans (Kp.new nb _)) (P2.new nb _) (.tup upd_same (TgAll.kp (Kp.new nb _) P2 _ _ (ha.rep _))) trivial
/-- a list of things -/
def ThL (p : Addr) (H : Hp) (L : Addr) (n : Nat) : Prop := L ≠ p ∧ ∃ vs ts, H L = some (.lst vs) ∧ TgAll p H vs ts ∧ vs.length = n
theorem ThL.kp {H' : Hp} {L : Addr} {n : Nat} (h : ThL p H L n) (k : Kp p H H') (P : PenAt H p) : ThL p H' L n := by
  obtain ⟨h1, vs, ts, h2, h3, h4⟩ := h
  exact ⟨h1, vs, ts, k _ _ h1 h2, TgAll.kp k P _ _ h3, h4⟩
theorem gl_lst {n : Nat} {Q : VK} (h : GA p ta σ H n) (P : PenAt H p) (q : ∀ L H', Kp p H H' → PenAt H' p → H L = none → ThL p H' L n → Q (.ref L) H') (hn : n ≤ 1000 := by decide) : tLst ta σ H Q := h H (Kp.refl _ _) P _ fun vs ts H2 k2 P2 hts hl => ⟨Nat.le_of_lt (small1000 (by omega)), fun a na => q _ _ (k2.trans (Kp.new na _)) (P2.new na _) (k2.noneG (P2.free na) na) ⟨P2.free na, vs, ts, upd_same, TgAll.kp (Kp.new na _) P2 _ _ hts, hl⟩⟩
/-- two lists of things put together -/
theorem ThL.cat {L M : Addr} {m n : Nat} {Q : VK} (h1 : ThL p H L m) (h2 : ThL p H M n) (P : PenAt H p) (hmn : m + n ≤ 1000) (q : ∀ N H', Kp p H H' → PenAt H' p → H N = none → ThL p H' N (m + n) → Q (.ref N) H') : rCat (.ref L) (.ref M) H Q := by
  obtain ⟨a1, vs, ts, a2, a3, a4⟩ := h1
  obtain ⟨b1, us, rs, b2, b3, b4⟩ := h2
  refine ⟨L, M, vs, us, rfl, rfl, a2, b2, Nat.le_of_lt (small1000 (by omega)), fun N nN => ?_⟩
  exact q N _ (Kp.new nN _) (P.new nN _) nN ⟨P.free nN, _, _, upd_same, TgAll.kp (Kp.new nN _) P _ _ (a3.append b3), by rw [List.length_append, a4, b4]⟩
/-- one more behind -/
theorem ThL.snoc {L : Addr} {n : Nat} {v : V} {t : Tg} (h : ThL p H L n) (P : PenAt H p) (hT : TgAt p H v t) : ∃ xs, H L = some (.lst xs) ∧ xs.length = n ∧ PenAt (upd H L (.lst (xs ++ [v]))) p ∧ ThL p (upd H L (.lst (xs ++ [v]))) L (n + 1) := by
  obtain ⟨a1, vs, ts, a2, a3, a4⟩ := h
  refine ⟨vs, a2, a4, ?_, a1, _, _, upd_same, (TgAll.relist a2 _ _ a3).append (.cons (TgAt.relist a2 _ _ hT) .nil), by rw [List.length_append, a4]; rfl⟩
  obtain ⟨x1, x2, x3, x4, z1, z2⟩ := P
  exact ⟨x1, x2, x3, x4, by rw [upd_ne fun z => a1 z.symm]; exact z1, z2⟩
end
end Deed

namespace Deed
open PySem PySem.Spec PySem.W PyProof.Rows L2 L2.DX LamX RZ
/-! ### k53: readings that give things within bounds -/
def GB (p : Addr) (ta : TA) (σ : L2.St) (H : Hp) (n : Nat) : Prop := ∀ H1, Kp p H H1 → PenAt H1 p → ∀ Q : List V → Hp → Prop, (∀ vs ts H', Kp p H1 H' → PenAt H' p → TgAll p H' vs ts → vs.length = n → (∀ t ∈ ts, OkT t) → Q vs H') → ta σ H1 Q
section
variable {p : Addr} {σ : L2.St} {H : Hp} {K : PySem.W.Frag} {te tb : TE} {ta : TA}
theorem gb_int {i : Int} : GE p (tC (.int i)) σ H OkT := fun H1 _ P Q q => q _ _ H1 (Kp.refl _ _) P (.int i) (okT_int i)
theorem gb_non : GE p (tC .non) σ H OkT := fun H1 _ P Q q => q _ _ H1 (Kp.refl _ _) P .non okT_non
theorem gb_str {x : Str} (hx : x.length ≤ 400 := by decide +kernel) : GE p (tC (.str x)) σ H OkT := fun H1 _ P Q q => q _ _ H1 (Kp.refl _ _) P (.str x) (okT_str hx)
theorem gb_nil : GB p tNil σ H 0 := fun H1 _ P Q q => q [] [] H1 (Kp.refl _ _) P .nil rfl (fun _ h => nomatch h)
theorem gb_cons {n : Nat} (h1 : GE p te σ H OkT) (h2 : GB p ta σ H n) : GB p (tCons te ta) σ H (n + 1) := fun H1 k P Q q => h1 H1 k P _ fun v t H2 k2 P2 hT ok => h2 H2 (k.trans k2) P2 _ fun vs ts H3 k3 P3 hts hl oks => q _ _ H3 (k2.trans k3) P3 (.cons (TgAt.kp k3 P2 _ _ hT) hts) (by rw [List.length_cons, hl]) (fun t ht => by
  rcases List.mem_cons.mp ht with rfl | ht
  · exact ok
  · exact oks t ht)
theorem gb_tup {n : Nat} (h : GB p ta σ H n) (hn : n ≤ 900 := by decide) : GE p (tTup ta) σ H OkT := fun H1 k P Q q => h H1 k P _ fun vs ts H2 k2 P2 hts hl oks => ⟨Nat.le_of_lt (small1000 (by omega)), fun a na => q _ _ _ (k2.trans (Kp.new na _)) (P2.new na _) (.tup upd_same (TgAll.kp (Kp.new na _) P2 _ _ hts)) (.tup oks (by rw [← hts.length, hl]; exact hn))⟩
theorem gb_lst {n : Nat} (h : GB p ta σ H n) (hn : n ≤ 900 := by decide) : GE p (tLst ta) σ H OkT := fun H1 k P Q q => h H1 k P _ fun vs ts H2 k2 P2 hts hl oks => ⟨Nat.le_of_lt (small1000 (by omega)), fun a na => q _ _ _ (k2.trans (Kp.new na _)) (P2.new na _) (.lst (P2.free na) upd_same) okT_lst⟩
theorem mem_rep {α : Type} {l : List α} {x : α} : ∀ k : Nat, x ∈ (List.replicate k l).flatten → x ∈ l
  | 0, h => by simp at h
  | k + 1, h => by
    rw [List.replicate_succ, List.flatten_cons] at h
    rcases List.mem_append.mp h with h | h
    · exact h
    · exact mem_rep k h
theorem len_rep {α : Type} (l : List α) : ∀ k : Nat, (List.replicate k l).flatten.length = k * l.length
  | 0 => by simp
  | k + 1 => by
    rw [List.replicate_succ, List.flatten_cons, List.length_append, len_rep l k]
    rw [Nat.succ_mul]
    omega
/-- (a, ..) * n -/
theorem gb_rep {m : Nat} {n : Int} (h : GB p ta σ H (m + 1)) (h2 : 2 ≤ n := by decide) (h3 : n ≤ 900 := by decide) (h4 : n.toNat * (m + 1) ≤ 900 := by decide) : GE p (tOp (rRepT K) (tTup ta) (tC (.int n))) σ H OkT := fun H1 k P Q q => h H1 k P _ fun vs ts H2 k2 P2 hts hl oks => by
  have hlt := hts.length
  have hm : m + 1 ≤ 900 := by
    have h5 : n.toNat ≥ 1 := by omega
    have h6 : 1 * (m + 1) ≤ n.toNat * (m + 1) := Nat.mul_le_mul_right _ h5
    omega
  refine ⟨Nat.le_of_lt (small1000 (by omega)), fun a na => ?_⟩
  refine ⟨a, n, vs, rfl, rfl, SqT.of upd_same, (fun z => by rw [z] at hl; cases hl), h2, by omega, by omega, fun b nb => ?_⟩
  have k3 := (Kp.new (p := p) na (.tup vs)).trans (Kp.new nb (.tup (List.replicate n.toNat vs).flatten))
  exact q _ _ _ (k2.trans k3) ((P2.new na _).new nb _) (.tup upd_same (TgAll.kp k3 P2 _ _ (hts.rep _))) (.tup (fun t ht => oks t (mem_rep _ ht)) (by rw [len_rep, ← hlt, hl]; exact h4))
theorem pickB {xs : List V} {i : Int} (φ : V → Prop) (h0 : 0 ≤ i) (h1 : i < (xs.length : Int)) (hx : ∀ x ∈ xs, φ x) : ∃ v, atI xs i = some v ∧ φ v := by
  have hk : i.toNat < xs.length := by omega
  exact ⟨xs[i.toNat], at_of (j := i.toNat) (by omega) (List.getElem?_eq_getElem hk), hx _ (List.getElem_mem hk)⟩
/-- a list of things within bounds -/
def ThB (p : Addr) (H : Hp) (L : Addr) (n : Nat) : Prop := L ≠ p ∧ ∃ vs ts, H L = some (.lst vs) ∧ TgAll p H vs ts ∧ vs.length = n ∧ ∀ t ∈ ts, OkT t
theorem ThB.kp {H' : Hp} {L : Addr} {n : Nat} (h : ThB p H L n) (k : Kp p H H') (P : PenAt H p) : ThB p H' L n := by
  obtain ⟨h1, vs, ts, h2, h3, h4⟩ := h
  exact ⟨h1, vs, ts, k _ _ h1 h2, TgAll.kp k P _ _ h3, h4⟩
theorem gb_list {n : Nat} {Q : VK} (h : GB p ta σ H n) (P : PenAt H p) (q : ∀ L H', Kp p H H' → PenAt H' p → H L = none → ThB p H' L n → Q (.ref L) H') (hn : n ≤ 1000 := by decide) : tLst ta σ H Q := h H (Kp.refl _ _) P _ fun vs ts H2 k2 P2 hts hl oks => ⟨Nat.le_of_lt (small1000 (by omega)), fun a na => q _ _ (k2.trans (Kp.new na _)) (P2.new na _) (k2.noneG (P2.free na) na) ⟨P2.free na, vs, ts, upd_same, TgAll.kp (Kp.new na _) P2 _ _ hts, hl, oks⟩⟩
theorem ThB.cat {L M : Addr} {m n : Nat} {Q : VK} (h1 : ThB p H L m) (h2 : ThB p H M n) (P : PenAt H p) (hmn : m + n ≤ 1000) (q : ∀ N H', Kp p H H' → PenAt H' p → H N = none → ThB p H' N (m + n) → Q (.ref N) H') : rCat (.ref L) (.ref M) H Q := by
  obtain ⟨a1, vs, ts, a2, a3, a4, a5⟩ := h1
  obtain ⟨b1, us, rs, b2, b3, b4, b5⟩ := h2
  refine ⟨L, M, vs, us, rfl, rfl, a2, b2, Nat.le_of_lt (small1000 (by omega)), fun N nN => ?_⟩
  exact q N _ (Kp.new nN _) (P.new nN _) nN ⟨P.free nN, _, _, upd_same, TgAll.kp (Kp.new nN _) P _ _ (a3.append b3), by rw [List.length_append, a4, b4], fun t ht => (List.mem_append.mp ht).elim (a5 t) (b5 t)⟩
theorem ThB.snoc {L : Addr} {n : Nat} {v : V} {t : Tg} (h : ThB p H L n) (P : PenAt H p) (hT : TgAt p H v t) (ok : OkT t) : ∃ xs, H L = some (.lst xs) ∧ xs.length = n ∧ PenAt (upd H L (.lst (xs ++ [v]))) p ∧ ThB p (upd H L (.lst (xs ++ [v]))) L (n + 1) := by
  obtain ⟨a1, vs, ts, a2, a3, a4, a5⟩ := h
  refine ⟨vs, a2, a4, ?_, a1, _, _, upd_same, (TgAll.relist a2 _ _ a3).append (.cons (TgAt.relist a2 _ _ hT) .nil), by rw [List.length_append, a4]; rfl, fun t' ht => ?_⟩
  · obtain ⟨x1, x2, x3, x4, z1, z2⟩ := P
    exact ⟨x1, x2, x3, x4, by rw [upd_ne fun z => a1 z.symm]; exact z1, z2⟩
  · rcases List.mem_append.mp ht with h | h
    · exact a5 _ h
    · rw [List.mem_singleton.mp h]
      exact ok
/-- tuple(xs), tuple(xs[:8]) -/
theorem gb_tupL {i n : Nat} {L : Addr} (P0 : PenAt H p) (hv : σ[i]? = some (some (.ref L))) (h : ThB p H L n) (hn : n ≤ 900 := by decide) : GE p (tCB (fun xs H Q => ∃ p ys, xs = [.ref p] ∧ ((SqL K H p ys ∧ ∀ l, H l = none → Q (.ref l) (upd H l (.tup ys))) ∨ (SqT K H p ys ∧ Q (.ref p) H))) (tCons (tVar i) tNil)) σ H OkT := fun H1 k P Q q => by
  obtain ⟨a1, vs, ts, a2, a3, a4, a5⟩ := h.kp k P0
  refine ⟨_, hv, L, vs, rfl, .inl ⟨SqL.of a2, fun l nl => ?_⟩⟩
  exact q _ _ _ (Kp.new nl _) (P.new nl _) (.tup upd_same (TgAll.kp (Kp.new nl _) P _ _ a3)) (.tup a5 (by rw [← a3.length, a4]; exact hn))
theorem gb_tupS {i n : Nat} {m : Int} {L : Addr} (P0 : PenAt H p) (hv : σ[i]? = some (some (.ref L))) (h : ThB p H L n) (hn : n ≤ 900 := by decide) : GE p (tCB (fun xs H Q => ∃ p ys, xs = [.ref p] ∧ ((SqL K H p ys ∧ ∀ l, H l = none → Q (.ref l) (upd H l (.tup ys))) ∨ (SqT K H p ys ∧ Q (.ref p) H))) (tCons (tSl (rSlL K) (tVar i) tNoPart (tPart (tC (.int m)))) tNil)) σ H OkT := fun H1 k P Q q => by
  obtain ⟨a1, vs, ts, a2, a3, a4, a5⟩ := h.kp k P0
  obtain ⟨us, hus, hmem, hlen⟩ := a3.cutM none (some m)
  refine ⟨_, hv, _, rfl, L, vs, rfl, SqL.of a2, fun l nl => ?_⟩
  have k1 := Kp.new (p := p) nl (.lst (cutV vs none (some m)))
  refine ⟨l, _, rfl, .inl ⟨SqL.of upd_same, fun t nt => ?_⟩⟩
  have k2 := k1.trans (Kp.new nt (.tup (cutV vs none (some m))))
  exact q _ _ _ k2 ((P.new nl _).new nt _) (.tup upd_same (TgAll.kp k2 P _ _ hus)) (.tup (fun t ht => a5 t (hmem t ht)) (by have := a3.length; omega))
/-- [a, b, ..][a draw] -/
theorem gb_choose {m i : Nat} {bd : Int} {E : XK} (h : GB p ta σ H m) (hv : σ[i]? = some (some (.ref p))) (h0 : 0 < bd := by decide) (h1 : bd ≤ m := by decide) (hm : m ≤ 1000 := by decide) : GE p (tOp (rIxL K) (tLst ta) (tCall spDraw [] E (tCons (tVar i) (tCons (tC (.int bd)) tNil)))) σ H OkT := fun H1 k P Q q => h H1 k P _ fun vs ts H2 k2 P2 hts hl oks => ⟨Nat.le_of_lt (small1000 (by omega)), fun a na => by
  have hTs : ∀ v ∈ vs, ∃ t, TgAt p (upd H2 a (.lst vs)) v t ∧ OkT t := fun v hv' => by
    obtain ⟨t, tm, ht⟩ := hts.mem hv'
    exact ⟨t, TgAt.kp (Kp.new na _) P2 _ _ ht, oks t tm⟩
  refine ⟨_, hv, p, bd, rfl, P2.new na _, h0, by omega, fun u H3 k3 P3 a3 b3 => ?_⟩
  obtain ⟨v, gv, t, ht, ok⟩ := pickB (xs := vs) (fun v => ∃ t, TgAt p (upd H2 a (.lst vs)) v t ∧ OkT t) a3 (by omega) hTs
  exact ⟨a, vs, u, v, rfl, rfl, SqL.of (k3 _ _ (P2.free na) upd_same), gv, q v t H3 (k2.trans ((Kp.new na _).trans k3)) P3 (TgAt.kp k3 (P2.new na _) _ _ ht) ok⟩⟩
theorem gb_thing {m i : Nat} {bd : Int} {E : XK} (hv : σ[i]? = some (some (.ref p))) (h0 : 0 ≤ bd := by decide) (h1 : bd < m := by decide) : GE p (tCall (spLThing m) [] E (tCons (tVar i) (tCons (tC (.int bd)) tNil))) σ H OkT := fun H1 k P Q q => ⟨_, hv, p, bd, rfl, P, h0, h1, fun v H2 k2 P2 ⟨⟨t, ht, ok⟩, _⟩ => q v t H2 k2 P2 ht ok⟩
theorem gb_spoilt {n i j : Nat} {v : V} {t : Tg} {E : XK} (P0 : PenAt H p) (hv : σ[i]? = some (some (.ref p))) (hj : σ[j]? = some (some v)) (hT : TgAt p H v t) (hf : FitsC n t) : GE p (tCall (spLSpoilt n) [] E (tCons (tVar i) (tCons (tVar j) tNil))) σ H OkT := fun H1 k P Q q => ⟨_, hv, _, hj, p, v, t, rfl, P, TgAt.kp k P0 _ _ hT, hf, fun v' H2 k2 P2 ⟨t', ht, ok⟩ => q v' t' H2 k2 P2 ht ok⟩
end
section
variable {P : Program} {w : World} {K : PySem.W.Frag} {mg : Str → Option Value} {base : Heap}
abbrev sLBadForms : Stmt := topS 49
abbrev nLBadForms : List Str := ["_law_one", "_law_found", "_law_rows", "_law_word_here"]
abbrev pLBadForms : List Str := []
theorem scLBadForms : FnScope nLBadForms pLBadForms (defScope sLBadForms) := ⟨rfl, rfl, rfl, by decide +kernel, rfl, by decide +kernel, by decide +kernel⟩
def spLBadForms : Sp := fun vs H Q _ => ∃ p : Addr, vs = [] ∧ PenAt H p ∧ ∀ L H' n, Kp p H H' → PenAt H' p → n ≤ 100 → ThB p H' L n → Q (.ref L) H'
theorem ok_LBadForms {f : Addr} {fd : FuncData} {k : Nat} (F : Fun K "_law_bad_forms" "_law_bad_forms" sLBadForms f fd) (m_tuple : mg "tuple" = none) : FnOk P w K mg base CX0 (k + 1) f fd pLBadForms spLBadForms := by
  refine F.ok scLBadForms (fun vs H Q E h => ?_) (fun cdv A outer s H vs Q E hr h => ?_)
  · obtain ⟨p, rfl, _⟩ := h
    rfl
  · obtain ⟨p, rfl, hP, q⟩ := h
    have nd := scLBadForms.nd
    refine ⟨_, pss_cons (ps_set (i := 0) nd rfl (.inl rfl) (pe_tup (pa_cons pe_str (pa_cons (pe_tup (pa_cons (pe_tup (pa_cons pe_str pa_nil)) pa_nil)) pa_nil))))
      (pss_cons (ps_set (i := 1) nd rfl (.inl rfl) (pe_lst (pa_cons (pe_op op_repT (pe_tup (pa_cons (pv 0) pa_nil)) pe_int) (pa_cons (pe_tup (pa_cons (pe_tup (pa_cons pe_str (pa_cons (pe_tup (pa_cons (pe_tup (pa_cons pe_str pa_nil)) pa_nil)) pa_nil))) (pa_cons (pv 0) pa_nil))) (pa_cons (pe_lst (pa_cons (pv 0) pa_nil)) (pa_cons (pe_tup (pa_cons (pe_tup (pa_cons pe_str (pa_cons (pe_tup pa_nil) pa_nil))) pa_nil)) (pa_cons (pe_tup (pa_cons (pe_tup (pa_cons pe_str (pa_cons (pe_lst (pa_cons (pe_tup (pa_cons pe_str pa_nil)) pa_nil)) pa_nil))) pa_nil)) pa_nil)))))))
      (pss_cons (ps_set (i := 1) nd rfl (.inl rfl) (pe_op op_cat (pv 1) (pe_lst (pa_cons (pe_tup (pa_cons (pe_tup (pa_cons pe_str (pa_cons (pe_tup (pa_cons (pe_tup (pa_cons pe_str pa_nil)) (pa_cons (pe_tup (pa_cons pe_str pa_nil)) pa_nil))) pa_nil))) pa_nil)) (pa_cons (pe_tup (pa_cons (pe_tup (pa_cons pe_str (pa_cons (pe_tup (pa_cons (pe_tup (pa_cons pe_str pa_nil)) (pa_cons (pe_tup (pa_cons pe_str pa_nil)) pa_nil))) pa_nil))) pa_nil)) (pa_cons (pe_tup (pa_cons (pe_tup (pa_cons pe_str (pa_cons (pe_tup (pa_cons (pe_tup pa_nil) pa_nil)) pa_nil))) pa_nil)) (pa_cons (pe_tup (pa_cons (pe_tup (pa_cons pe_str (pa_cons (pe_tup (pa_cons (pe_tup (pa_cons pe_str pa_nil)) pa_nil)) pa_nil))) pa_nil)) pa_nil)))))))
      (pss_cons (ps_expr (pe_bm PySem.F.plainAttrs_list PySem.F.slot_list_append PySem.F.type_list_append mt_append (pv 1) (pa_cons (pe_tup (pa_cons (pe_tup (pa_cons pe_str (pa_cons (pe_tup (pa_cons (pe_tup (pa_cons pe_str (pa_cons pe_str (pa_cons pe_str (pa_cons pe_str pa_nil))))) pa_nil)) pa_nil))) pa_nil)) pa_nil)))
      (pss_cons (ps_setLc (i := 2) (own := [("_law_word_here", 3)]) (g := gName 3) (by rfl) nd rfl rfl (sw_true rfl rfl rfl (by decide +kernel)) (pi_list (pe_lst (pa_cons pe_str (pa_cons pe_str (pa_cons pe_str (pa_cons pe_str (pa_cons pe_str (pa_cons pe_str (pa_cons pe_str (pa_cons pe_str (pa_cons pe_str pa_nil))))))))))) (blkOk_by (own := [("_law_word_here", 3)]) (N := nLBadForms) (sc := defScope sLBadForms) (by decide +kernel)) (fun _ _ _ _ _ => (pg_name (i := 3) nd rfl (.inl rfl))) (fun _ _ _ _ _ => pts_nil)
          (fun _ _ _ _ _ => (pe_tup (pa_cons (pv 3) (pa_cons (pe_tup (pa_cons (pe_tup (pa_cons pe_str pa_nil)) pa_nil)) pa_nil)))))
      (pss_cons (ps_set (i := 1) nd rfl (.inl rfl) (pe_op op_cat (pv 1) (pe_lst (pa_cons (pe_callTy call_tuple_of (by rfl) m_tuple (by decide +kernel) (pa_cons (pv 2) pa_nil)) (pa_cons (pe_callTy call_tuple_of (by rfl) m_tuple (by decide +kernel) (pa_cons (pe_slice sl_list (pv 2) po_none (po_some pe_int)) pa_nil)) (pa_cons (pe_tup (pa_cons (pe_tup (pa_cons pe_str (pa_cons (pe_tup (pa_cons (pe_tup (pa_cons pe_str pa_nil)) pa_nil)) pa_nil))) pa_nil)) (pa_cons (pe_tup (pa_cons (pe_tup (pa_cons pe_str (pa_cons (pe_tup (pa_cons (pe_tup (pa_cons pe_str pa_nil)) pa_nil)) pa_nil))) pa_nil)) (pa_cons (pe_tup (pa_cons (pe_tup (pa_cons pe_str (pa_cons pe_str pa_nil))) pa_nil)) pa_nil))))))))
      (pss_one (ps_ret (pe_op op_cat (pv 1) (pe_lst (pa_cons (pe_tup (pa_cons (pe_tup (pa_cons pe_str (pa_cons (pe_tup (pa_cons (pe_tup (pa_cons pe_str pa_nil)) pa_nil)) (pa_cons pe_int pa_nil)))) pa_nil)) (pa_cons (pe_tup (pa_cons (pe_tup (pa_cons pe_non (pa_cons (pe_tup (pa_cons (pe_tup (pa_cons pe_str pa_nil)) pa_nil)) pa_nil))) pa_nil)) (pa_cons (pe_tup (pa_cons (pe_tup (pa_cons pe_str (pa_cons (pe_tup (pa_cons (pe_tup (pa_cons pe_str pa_nil)) (pa_cons (pe_tup (pa_cons pe_str pa_nil)) (pa_cons (pe_tup (pa_cons pe_str pa_nil)) (pa_cons (pe_tup (pa_cons pe_str pa_nil)) pa_nil))))) pa_nil))) pa_nil)) pa_nil)))))))))))), ?_⟩
    rw [tSeq_ap, tAsg_ap]
    refine ((gb_tup (gb_cons (gb_str (x := "a")) (gb_cons (gb_tup (gb_cons (gb_tup (gb_cons (gb_str (x := "b")) gb_nil)) gb_nil)) gb_nil))) : GE p _ _ H OkT) H (Kp.refl _ _) hP _ fun v1 t1 H1 k1 P1 hO1 okOne => ?_
    rw [gName_ap]
    dsimp only
    rw [tSeq_ap, tAsg_ap]
    refine gb_list (n := 5) (gb_cons (gb_rep (gb_cons (ge_var P1 rfl hO1 okOne) gb_nil) (n := 2)) (gb_cons (gb_tup (gb_cons (gb_tup (gb_cons (gb_str (x := "b")) (gb_cons (gb_tup (gb_cons (gb_tup (gb_cons (gb_str (x := "a")) gb_nil)) gb_nil)) gb_nil))) (gb_cons (ge_var P1 rfl hO1 okOne) gb_nil))) (gb_cons (gb_lst (gb_cons (ge_var P1 rfl hO1 okOne) gb_nil)) (gb_cons (gb_tup (gb_cons (gb_tup (gb_cons (gb_str (x := "a")) (gb_cons (gb_tup gb_nil) gb_nil))) gb_nil)) (gb_cons (gb_tup (gb_cons (gb_tup (gb_cons (gb_str (x := "a")) (gb_cons (gb_lst (gb_cons (gb_tup (gb_cons (gb_str (x := "b")) gb_nil)) gb_nil)) gb_nil))) gb_nil)) gb_nil))))) P1 fun L2 H2 k2 P2 nL2 hL2 => ?_
    have hO2 := TgAt.kp k2 P1 _ _ hO1
    rw [gName_ap]
    dsimp only
    rw [tSeq_ap, tAsg_ap]
    refine ⟨_, rfl, ?_⟩
    refine gb_list (n := 4) (gb_cons (gb_tup (gb_cons (gb_tup (gb_cons (gb_str (x := "a")) (gb_cons (gb_tup (gb_cons (gb_tup (gb_cons (gb_str (x := "b")) gb_nil)) (gb_cons (gb_tup (gb_cons (gb_str (x := "a")) gb_nil)) gb_nil))) gb_nil))) gb_nil)) (gb_cons (gb_tup (gb_cons (gb_tup (gb_cons (gb_str (x := "a")) (gb_cons (gb_tup (gb_cons (gb_tup (gb_cons (gb_str (x := "b")) gb_nil)) (gb_cons (gb_tup (gb_cons (gb_str (x := "b")) gb_nil)) gb_nil))) gb_nil))) gb_nil)) (gb_cons (gb_tup (gb_cons (gb_tup (gb_cons (gb_str (x := "a")) (gb_cons (gb_tup (gb_cons (gb_tup gb_nil) gb_nil)) gb_nil))) gb_nil)) (gb_cons (gb_tup (gb_cons (gb_tup (gb_cons (gb_str (x := "")) (gb_cons (gb_tup (gb_cons (gb_tup (gb_cons (gb_str (x := "b")) gb_nil)) gb_nil)) gb_nil))) gb_nil)) gb_nil)))) P2 fun L3 H3 k3 P3 nL3 hL3 => ?_
    refine ThB.cat (hL2.kp k3 P2) hL3 P3 (by decide) fun L4 H4 k4 P4 nL4 hL4 => ?_
    have k04 := k1.trans (k2.trans (k3.trans k4))
    have nH4 : H L4 = none := (k1.trans (k2.trans k3)).noneG hL4.1 nL4
    have hO4 := TgAt.kp (k3.trans k4) P2 _ _ hO2
    obtain ⟨_, xs4, ts4, e4, _⟩ := id hL4
    refine ⟨_, rfl, .inl ⟨rfl, _, SqL.of e4⟩, ?_⟩
    refine (gb_cons (gb_tup (gb_cons (gb_tup (gb_cons (gb_str (x := "a")) (gb_cons (gb_tup (gb_cons (gb_tup (gb_cons (gb_str (x := "a")) (gb_cons (gb_str (x := "a")) (gb_cons (gb_str (x := "a")) (gb_cons (gb_str (x := "a")) gb_nil))))) gb_nil)) gb_nil))) gb_nil)) gb_nil : GB p _ _ H4 1) H4 (Kp.refl _ _) P4 _ fun vs5 us5 H5 k5 P5 hts5 hl5 oks5 => ?_
    obtain ⟨v5, rfl⟩ : ∃ v, vs5 = [v] := by
      match vs5, hl5 with
      | [v], _ => exact ⟨v, rfl⟩
    obtain ⟨t5, rfl, hT5⟩ : ∃ t, us5 = [t] ∧ TgAt p H5 v5 t := by
      cases hts5 with
      | cons h1 h2 =>
        cases h2
        exact ⟨_, rfl, h1⟩
    obtain ⟨xs5, e5, l5, P6, hL6⟩ := (hL4.kp k5 P4).snoc P5 hT5 (oks5 _ List.mem_cons_self)
    refine ⟨L4, _, _, rfl, rfl, e5, small1000 (by omega), ?_⟩
    have hO6 := TgAt.relist e5 _ _ (TgAt.kp k5 P4 _ _ hO4) (ys := xs5 ++ [v5])
    have k06 : Kp p H (upd H5 L4 (.lst (xs5 ++ [v5]))) := (k04.trans k5).over1 nH4 _
    generalize (upd H5 L4 (.lst (xs5 ++ [v5]))) = H6 at P6 hL6 hO6 k06
    refine ⟨(by show 9 ≤ sizeLine; decide), fun l7 nl7 => ?_⟩
    have s7 := same_new nl7 (.lst [V.str "a", V.str "b", V.str "c", V.str "d", V.str "e", V.str "f", V.str "g", V.str "h", V.str "i"])
    have e7 : (upd H6 l7 (.lst [V.str "a", V.str "b", V.str "c", V.str "d", V.str "e", V.str "f", V.str "g", V.str "h", V.str "i"])) l7 = some (.lst ((["a", "b", "c", "d", "e", "f", "g", "h", "i"] : List Str).map V.str)) := upd_same
    refine ⟨l7, rfl, ⟨_, SqL.of e7⟩, fun M nM => ?_⟩
    generalize hH7 : (upd H6 l7 (.lst [V.str "a", V.str "b", V.str "c", V.str "d", V.str "e", V.str "f", V.str "g", V.str "h", V.str "i"])) = H7 at s7 e7 nM ⊢
    refine lc_newG (walk_list (xs := (["a", "b", "c", "d", "e", "f", "g", "h", "i"] : List Str).map V.str)) (["a", "b", "c", "d", "e", "f", "g", "h", "i"] : List Str) (fun x t H => Dt H (.ref t) (dF1 (x, [["b"]]))) ?_ rfl (by decide) nM (fun H s => SqL.of (s _ _ e7)) ?_ ?_
    · intro x t Ha Hb xs hx kp h
      exact Dt.kp (fun a us e => kp a _ (fun z => by rw [z, hx] at e; cases e) e) _ _ h
    · rintro i x y Hz Ha hy sa _ ⟨rfl, hx⟩ Q1 q1
      rw [List.getElem?_map, hy] at hx
      injection hx with hx
      subst hx
      refine ⟨rfl, _, rfl, (by show 1 ≤ sizeLine; decide), fun t1 nt1 => ?_⟩
      have r1 := same_new nt1 (.tup [.str "b"])
      have f1 : (upd Ha t1 (.tup [.str "b"])) t1 = some (.tup [.str "b"]) := upd_same
      generalize (upd Ha t1 (.tup [.str "b"])) = Hb at r1 f1
      refine ⟨(by show 1 ≤ sizeLine; decide), fun t2 nt2 => ?_⟩
      have r2 := same_new nt2 (.tup [.ref t1])
      have f2 : (upd Hb t2 (.tup [.ref t1])) t2 = some (.tup [.ref t1]) := upd_same
      generalize (upd Hb t2 (.tup [.ref t1])) = Hc at r2 f2
      refine ⟨(by show 2 ≤ sizeLine; decide), fun t3 nt3 => ?_⟩
      have r3 := same_new nt3 (.tup [.str x, .ref t2])
      exact q1 t3 _ (r1.trans (r2.trans r3)) (.tup upd_same (.cons (.str x) (.cons (.tup (r3 _ _ f2) (.cons (.tup (r3 _ _ (r2 _ _ f1)) (.cons (.str _) .nil)) .nil)) .nil)))
    intro H8 zs s8 e8 ez hz
    have P8 := P6.same1 (s7.trans s8)
    have k68 : Kp p H6 H8 := Kp.same (s7.trans s8)
    have nine : ∀ x ∈ (["a", "b", "c", "d", "e", "f", "g", "h", "i"] : List Str), (tgD (dF1 (x, [["b"]]))).sm = true ∧ (tgD (dF1 (x, [["b"]]))).len ≤ 900 := by decide +kernel
    have hR8 : ThB p H8 M 9 := by
      refine ⟨(P6.same1 s7).free nM, _, _, e8, DtAll.tg _ _ (DtAll.refs (enc := fun x => dF1 (x, [["b"]])) hz), ?_, fun t ht => ?_⟩
      · have := congrArg List.length ez
        rw [List.length_map] at this
        rw [List.length_map, this]
        rfl
      · rw [tgDs_map, List.map_map] at ht
        obtain ⟨z, hzz, rfl⟩ := List.mem_map.mp ht
        exact nine z.2 (by rw [← ez]; exact List.mem_map.mpr ⟨z, hzz, rfl⟩)
    have hL8 := hL6.kp k68 P6
    have hO8 := TgAt.kp k68 P6 _ _ hO6
    have k08 := k06.trans k68
    dsimp only
    rw [gName_ap, tSeq_ap, tAsg_ap]
    refine ⟨_, rfl, ?_⟩
    refine gb_list (n := 5) (gb_cons (gb_tupL P8 rfl hR8) (gb_cons (gb_tupS P8 rfl hR8) (gb_cons (gb_tup (gb_cons (gb_tup (gb_cons (gb_str (x := "a")) (gb_cons (gb_tup (gb_cons (gb_tup (gb_cons (gb_str (x := "A")) gb_nil)) gb_nil)) gb_nil))) gb_nil)) (gb_cons (gb_tup (gb_cons (gb_tup (gb_cons (gb_str (x := "abcdefghi")) (gb_cons (gb_tup (gb_cons (gb_tup (gb_cons (gb_str (x := "b")) gb_nil)) gb_nil)) gb_nil))) gb_nil)) (gb_cons (gb_tup (gb_cons (gb_tup (gb_cons (gb_str (x := "a")) (gb_cons (gb_str (x := "b")) gb_nil))) gb_nil)) gb_nil))))) P8 fun L9 H9 k9 P9 nL9 hL9 => ?_
    refine ThB.cat (hL8.kp k9 P8) hL9 P9 (by decide) fun L10 H10 k10 P10 nL10 hL10 => ?_
    rw [gName_ap]
    dsimp only
    refine ⟨_, rfl, ?_⟩
    refine gb_list (n := 3) (gb_cons (gb_tup (gb_cons (gb_tup (gb_cons (gb_str (x := "a")) (gb_cons (gb_tup (gb_cons (gb_tup (gb_cons (gb_str (x := "b")) gb_nil)) gb_nil)) (gb_cons gb_int gb_nil)))) gb_nil)) (gb_cons (gb_tup (gb_cons (gb_tup (gb_cons gb_non (gb_cons (gb_tup (gb_cons (gb_tup (gb_cons (gb_str (x := "b")) gb_nil)) gb_nil)) gb_nil))) gb_nil)) (gb_cons (gb_tup (gb_cons (gb_tup (gb_cons (gb_str (x := "a")) (gb_cons (gb_tup (gb_cons (gb_tup (gb_cons (gb_str (x := "a")) gb_nil)) (gb_cons (gb_tup (gb_cons (gb_str (x := "b")) gb_nil)) (gb_cons (gb_tup (gb_cons (gb_str (x := "c")) gb_nil)) (gb_cons (gb_tup (gb_cons (gb_str (x := "d")) gb_nil)) gb_nil))))) gb_nil))) gb_nil)) gb_nil))) P10 fun L11 H11 k11 P11 nL11 hL11 => ?_
    refine ThB.cat (hL10.kp k11 P10) hL11 P11 (by decide) fun L12 H12 k12 P12 nL12 hL12 => ?_
    exact q L12 H12 _ (k08.trans (k9.trans (k10.trans (k11.trans k12)))) P12 (by decide) hL12
end
end Deed

namespace Deed
open PySem PySem.Spec PySem.W PyProof.Rows L2 L2.DX LamX RZ
/-! ### the law of k53 -/
theorem fits_ws (n : Nat) {ws : List Str} (h : ∀ y ∈ ws, y ∈ abL) (l : ws.length ≤ 100) : FitsC (n + 2) (tgD (dWs ws)) := by
  rw [tg_ws]
  refine ⟨by rw [List.length_map]; exact l, fun t ht => ?_⟩
  obtain ⟨y, hy, rfl⟩ := List.mem_map.mp ht
  exact h y hy
theorem fits_fm {fm : List Fm1} (h : AFm fm) : FitsC 5 (tgD (dFm fm)) := by
  rw [tg_fm]
  refine ⟨by rw [List.length_map]; have := h.few; omega, fun t ht => ?_⟩
  obtain ⟨x, hx, rfl⟩ := List.mem_map.mp ht
  rw [tg_f1]
  refine ⟨by show 2 ≤ 100; decide, fun t ht => ?_⟩
  rcases List.mem_cons.mp ht with rfl | ht
  · exact h.short x hx
  rw [List.mem_singleton.mp ht, tg_fs]
  refine ⟨by rw [List.length_map]; have := (h.ok.fs x hx).few; omega, fun t ht => ?_⟩
  obtain ⟨f, hf, rfl⟩ := List.mem_map.mp ht
  exact fits_ws 0 (h.full x hx f hf) (by have := ((h.ok.fs x hx).ws f hf).2; omega)
theorem tabs_kp {T : List (Addr × Str)} {H H' : Hp} {p : Addr} (t : Tabs T H) (k : Kp p H H') (P : PenAt H p) : Tabs T H' := fun q hq => by
  obtain ⟨x1, x2, x3, x4, e, _⟩ := P
  obtain ⟨ps, h1, h2, h3⟩ := t q hq
  refine ⟨ps, k _ _ (fun z => by rw [z, e] at h1; cases h1) h1, h2, fun pos cv hc => ?_⟩
  obtain ⟨c, rfl, hcc⟩ := h3 pos cv hc
  exact ⟨c, rfl, k _ _ (fun z => by rw [z, e] at hcc; cases hcc) hcc⟩
theorem PenAt.extN {H H' : Hp} {p : Addr} (P : PenAt H p) (e : ExtN H H') : PenAt H' p := by
  obtain ⟨x1, x2, x3, x4, z1, z2⟩ := P
  exact ⟨x1, x2, x3, x4, e _ _ z1 (fun _ z => by cases z), z2⟩
theorem tFor_ap {wi : TI} {g : TG} {tb : TS} {D : Ends} {σ : L2.St} {H : Hp} : tFor wi g tb D σ H = wi σ H fun J H1 => ∃ W : Nat → Nat → L2.St → Hp → Prop, (∃ m, W 0 m σ H1) ∧ ∀ i m σ H, W i m σ H →
  (J.stop i H ∧ D.nx σ H) ∨ (J.go i H ∧ ∃ N : L2.St → Hp → Prop, (∀ σ' H', N σ' H' → ∃ m', m' < m ∧ W (i + 1) m' σ' H') ∧ ∀ x H', J.yld i H x H' → g x σ H' fun σ2 H2 => tb { D with nx := N, ct := N, bk := D.nx } σ2 H2) := rfl
theorem iTup_ap {K : PySem.W.Frag} {tl : TE} {σ : L2.St} {H : Hp} {R : It → Hp → Prop} : iTup K tl σ H R = tl σ H fun x H1 => ∃ a, x = .ref a ∧ (∃ xs, SqT K H1 a xs) ∧ R (Itt K a) H1 := rfl
theorem tTup_ap {t : TA} {σ : L2.St} {H : Hp} {Q : VK} : tTup t σ H Q = t σ H fun xs H1 => xs.length ≤ sizeLine ∧ ∀ p, H1 p = none → Q (.ref p) (upd H1 p (.tup xs)) := rfl
/-- what the law has -/
structure Hv (T : List (Addr × Str)) (p : Addr) (H : Hp) (f d c : V) (tf td tc : Tg) : Prop where
  pen : PenAt H p
  tabs : Tabs T H
  ff : TgAt p H f tf
  dd : TgAt p H d td
  cc : TgAt p H c tc
theorem Hv.kp {T : List (Addr × Str)} {p : Addr} {H H' : Hp} {f d c : V} {tf td tc : Tg} (h : Hv T p H f d c tf td tc) (k : Kp p H H') (P : PenAt H' p) : Hv T p H' f d c tf td tc := ⟨P, tabs_kp h.tabs k h.pen, TgAt.kp k h.pen _ _ h.ff, TgAt.kp k h.pen _ _ h.dd, TgAt.kp k h.pen _ _ h.cc⟩
theorem Hv.ext {T : List (Addr × Str)} {p : Addr} {H H' : Hp} {f d c : V} {tf td tc : Tg} (h : Hv T p H f d c tf td tc) (e : ExtN H H') (t : Tabs T H') : Hv T p H' f d c tf td tc := ⟨h.pen.extN e, t, TgAt.ext e _ _ h.ff, TgAt.ext e _ _ h.dd, TgAt.ext e _ _ h.cc⟩
section
variable {P : Program} {w : World} {K : PySem.W.Frag} {mg : Str → Option Value} {base : Heap} {T : List (Addr × Str)}
abbrev sLaw : Stmt := topS 50
abbrev nLaw : List Str := ["_law_script", "_law_pen_here", "_law_forms_here", "_law_draft_here", "_law_copy_here", "_law_turn", "_law_one", "_law_two", "_law_three", "_law_bad"]
abbrev pLaw : List Str := ["_law_script"]
theorem scLaw : FnScope nLaw pLaw (defScope sLaw) := ⟨rfl, rfl, rfl, by decide +kernel, rfl, by decide +kernel, by decide +kernel⟩
def spLaw (K : PySem.W.Frag) (T : List (Addr × Str)) : Sp := fun vs H Q _ => ∃ (a : Addr) (ns : List Int), vs = [.ref a] ∧ SqL K H a (ns.map V.int) ∧ ns.length ≤ 63 ∧ Tabs T H ∧ ∀ H', Q (.bl true) H'
theorem ok_law {f : Addr} {fd : FuncData} {k : Nat} (F : Fun K "law" "law" sLaw f fd) (C__law_cell_at : CallOk P w K mg base k "_law_cell_at" ["_law_script", "_law_k"] (spCell K)) (C__law_pen : CallOk P w K mg base k "_law_pen" ["_law_cell"] spPen) (C__law_forms : CallOk P w K mg base k "_law_forms" pLForms spLForms) (C__law_draft : CallOk P w K mg base k "_law_draft" pLDraft spLDraft) (C__law_copy : CallOk P w K mg base k "_law_copy" pLCopy spLCopy) (C__law_spoilt : CallOk P w K mg base k "_law_spoilt" pLSpoilt (spLSpoilt 5)) (C__law_thing : CallOk P w K mg base k "_law_thing" pLThing (spLThing 4)) (C__law_draw : CDrP P w K mg base k) (C__law_right : CallOk P w K mg base k "_law_right" pLRight (spLRight T)) (C__law_bad_forms : CallOk P w K mg base k "_law_bad_forms" pLBadForms spLBadForms) (m_range : mg "range" = none) : FnOk P w K mg base CX0 (k + 1) f fd pLaw (spLaw K T) := by
  refine F.ok scLaw (fun vs H Q E h => ?_) (fun cdv A outer s H vs Q E hr h => ?_)
  · obtain ⟨a, ns, rfl, _⟩ := h
    rfl
  · obtain ⟨a, ns, rfl, hS, h63, hT0, q⟩ := h
    have nd := scLaw.nd
    refine ⟨_, pss_cons (ps_set (i := 1) nd rfl (.inl rfl) (pe_call C__law_pen.ok hr (by rfl) C__law_pen.g C__law_pen.kp C__law_pen.b .nil pass0 (pa_cons (pe_call C__law_cell_at.ok hr (by rfl) C__law_cell_at.g C__law_cell_at.kp C__law_cell_at.b .nil pass0 (pa_cons (pv 0) (pa_cons pe_int pa_nil))) pa_nil)))
      (pss_cons (ps_set (i := 2) nd rfl (.inl rfl) (pe_call C__law_forms.ok hr (by rfl) C__law_forms.g C__law_forms.kp C__law_forms.b .nil pass0 (pa_cons (pv 1) pa_nil)))
      (pss_cons (ps_set (i := 3) nd rfl (.inl rfl) (pe_call C__law_draft.ok hr (by rfl) C__law_draft.g C__law_draft.kp C__law_draft.b .nil pass0 (pa_cons (pv 1) (pa_cons (pv 2) (pa_cons pe_int pa_nil)))))
      (pss_cons (ps_set (i := 4) nd rfl (.inl rfl) (pe_call C__law_copy.ok hr (by rfl) C__law_copy.g C__law_copy.kp C__law_copy.b .nil pass0 (pa_cons (pv 1) (pa_cons (pv 2) (pa_cons (pv 3) pa_nil)))))
      (pss_cons (ps_for PassesOwn.never rfl (pi_range1 rfl m_range (pa_cons pe_int pa_nil)) (pg_name (i := 5) nd rfl (.inl rfl))
        (pss_cons (ps_set (i := 6) nd rfl (.inl rfl) (pe_ix ix_list (pe_lst (pa_cons (pv 2) (pa_cons (pe_call C__law_spoilt.ok hr (by rfl) C__law_spoilt.g C__law_spoilt.kp C__law_spoilt.b .nil pass0 (pa_cons (pv 1) (pa_cons (pv 2) pa_nil))) (pa_cons (pe_call C__law_thing.ok hr (by rfl) C__law_thing.g C__law_thing.kp C__law_thing.b .nil pass0 (pa_cons (pv 1) (pa_cons pe_int pa_nil))) pa_nil)))) (pe_call C__law_draw.ok hr (by rfl) C__law_draw.g C__law_draw.kp C__law_draw.b .nil pass0 (pa_cons (pv 1) (pa_cons pe_int pa_nil))) (fun _ _ => rfl)))
      (pss_cons (ps_set (i := 7) nd rfl (.inl rfl) (pe_ix ix_list (pe_lst (pa_cons (pv 3) (pa_cons (pe_call C__law_spoilt.ok hr (by rfl) C__law_spoilt.g C__law_spoilt.kp C__law_spoilt.b .nil pass0 (pa_cons (pv 1) (pa_cons (pv 3) pa_nil))) (pa_cons (pe_call C__law_thing.ok hr (by rfl) C__law_thing.g C__law_thing.kp C__law_thing.b .nil pass0 (pa_cons (pv 1) (pa_cons pe_int pa_nil))) pa_nil)))) (pe_call C__law_draw.ok hr (by rfl) C__law_draw.g C__law_draw.kp C__law_draw.b .nil pass0 (pa_cons (pv 1) (pa_cons pe_int pa_nil))) (fun _ _ => rfl)))
      (pss_cons (ps_set (i := 8) nd rfl (.inl rfl) (pe_ix ix_list (pe_lst (pa_cons (pv 4) (pa_cons (pe_call C__law_spoilt.ok hr (by rfl) C__law_spoilt.g C__law_spoilt.kp C__law_spoilt.b .nil pass0 (pa_cons (pv 1) (pa_cons (pv 4) pa_nil))) (pa_cons (pe_call C__law_thing.ok hr (by rfl) C__law_thing.g C__law_thing.kp C__law_thing.b .nil pass0 (pa_cons (pv 1) (pa_cons pe_int pa_nil))) pa_nil)))) (pe_call C__law_draw.ok hr (by rfl) C__law_draw.g C__law_draw.kp C__law_draw.b .nil pass0 (pa_cons (pv 1) (pa_cons pe_int pa_nil))) (fun _ _ => rfl)))
      (pss_one (ps_if (pt_not (pt_val (pe_call C__law_right.ok hr (by rfl) C__law_right.g C__law_right.kp C__law_right.b .nil pass0 (pa_cons (pv 6) (pa_cons (pv 7) (pa_cons (pv 8) pa_nil)))))) (pss_one (ps_ret pe_bl)) pss_nil))))))
      (pss_cons (ps_for PassesOwn.never rfl (pi_list (pe_call0 C__law_bad_forms.ok hr (by rfl) C__law_bad_forms.g C__law_bad_forms.kp C__law_bad_forms.b .nil pass0)) (pg_name (i := 9) nd rfl (.inl rfl))
        (pss_one (ps_if (PW.pt (pw_or (pt_not (pt_val (pe_call C__law_right.ok hr (by rfl) C__law_right.g C__law_right.kp C__law_right.b .nil pass0 (pa_cons (pv 9) (pa_cons (pv 3) (pa_cons (pv 4) pa_nil)))))) (pw_or1 (pt_not (pt_val (pe_call C__law_right.ok hr (by rfl) C__law_right.g C__law_right.kp C__law_right.b .nil pass0 (pa_cons (pv 9) (pa_cons pe_non (pa_cons pe_non pa_nil))))))))) (pss_one (ps_ret pe_bl)) pss_nil)))
      (pss_cons (ps_for PassesOwn.never rfl (pi_tup (pe_tup (pa_cons (pe_op op_repT (pe_tup (pa_cons pe_str pa_nil)) pe_int) (pa_cons (pe_op op_repT (pe_tup (pa_cons pe_str pa_nil)) pe_int) (pa_cons (pe_lst (pa_cons pe_str pa_nil)) (pa_cons (pe_tup (pa_cons pe_str pa_nil)) (pa_cons (pe_tup (pa_cons pe_str pa_nil)) (pa_cons (pe_tup (pa_cons pe_str pa_nil)) (pa_cons (pe_tup (pa_cons pe_str pa_nil)) (pa_cons pe_str (pa_cons (pe_tup (pa_cons pe_int pa_nil)) (pa_cons pe_non pa_nil)))))))))))) (pg_name (i := 9) nd rfl (.inl rfl))
        (pss_one (ps_if (PW.pt (pw_or (pt_not (pt_val (pe_call C__law_right.ok hr (by rfl) C__law_right.g C__law_right.kp C__law_right.b .nil pass0 (pa_cons (pv 2) (pa_cons (pv 9) (pa_cons (pv 4) pa_nil)))))) (pw_or1 (pt_not (pt_val (pe_call C__law_right.ok hr (by rfl) C__law_right.g C__law_right.kp C__law_right.b .nil pass0 (pa_cons (pv 2) (pa_cons (pv 9) (pa_cons pe_non pa_nil))))))))) (pss_one (ps_ret pe_bl)) pss_nil)))
      (pss_cons (ps_for PassesOwn.never rfl (pi_tup (pe_tup (pa_cons (pe_op op_repT (pe_tup (pa_cons pe_str pa_nil)) pe_int) (pa_cons (pe_op op_repT (pe_tup (pa_cons pe_str pa_nil)) pe_int) (pa_cons (pe_lst pa_nil) (pa_cons (pe_tup (pa_cons pe_str pa_nil)) (pa_cons (pe_tup (pa_cons pe_str (pa_cons pe_non pa_nil))) (pa_cons pe_int pa_nil)))))))) (pg_name (i := 9) nd rfl (.inl rfl))
        (pss_one (ps_if (pt_not (pt_val (pe_call C__law_right.ok hr (by rfl) C__law_right.g C__law_right.kp C__law_right.b .nil pass0 (pa_cons (pv 2) (pa_cons (pv 3) (pa_cons (pv 9) pa_nil)))))) (pss_one (ps_ret pe_bl)) pss_nil)))
      (pss_one (ps_ret pe_bl))))))))), ?_⟩
    refine ⟨_, rfl, a, ns, 0, rfl, hS, by omega, fun cv => ?_⟩
    refine ⟨cv, rfl, fun p H1 s1 np P1 => ?_⟩
    refine ⟨_, rfl, p, rfl, P1, fun fa H2 fm k2 P2 hA hF2 => ?_⟩
    refine ⟨_, rfl, _, rfl, p, fa, 12, fm, rfl, P2, hF2, hA, by decide, by decide, fun da H3 ds k3 P3 ed hds hdl => ?_⟩
    have hF3 := Dt.kp (k3.tup P2) _ _ hF2
    refine ⟨_, rfl, _, rfl, _, rfl, p, fa, da, fm, ds, rfl, P3, hF3, hA, ed, hds, by omega, fun ca H4 cs k4 P4 ec hcs hcl _ => ?_⟩
    have hv : Hv T p H4 (.ref fa) (.ref da) (.ref ca) (tgD (dFm fm)) (tgD (dWs ds)) (tgD (dWs cs)) := ⟨P4, tabs_kp (tabs_kp (tabs_kp (hT0.ext s1) k2 P1) k3 P2) k4 P3, Dt.tg _ _ (Dt.kp (k4.tup P3) _ _ hF3), Dt.tg _ _ (.tup (k4.tup P3 _ _ ed) (DtAll.strs _)), Dt.tg _ _ (.tup ec (DtAll.strs _))⟩
    have fF := fits_fm hA
    have fD := fits_ws 3 hds (by omega)
    have fC := fits_ws 3 hcs (by omega)
    have oF := FitsC.ok fF
    have oD := FitsC.ok fD
    have oC := FitsC.ok fC
    generalize tgD (dFm fm) = tf at hv fF oF
    generalize tgD (dWs ds) = td at hv fD oD
    generalize tgD (dWs cs) = tc at hv fC oC
    generalize V.ref fa = fv at hv ⊢
    generalize V.ref da = dv at hv ⊢
    generalize V.ref ca = cw at hv ⊢
    refine ⟨_, rfl, by decide, by decide, ?_⟩
    refine for_range (fun i σ H' => ∃ y5 y6 y7 y8 y9, σ = [some (.ref a), some (.ref p), some fv, some dv, some cw, y5, y6, y7, y8, y9] ∧ Hv T p H' fv dv cw tf td tc) ⟨_, _, _, _, _, rfl, hv⟩ ?_ ?_
    · rintro i σ H9 hi ⟨y5, y6, y7, y8, y9, rfl, hv9⟩
      have P9 := hv9.pen
      have f9 := hv9.ff
      show gName 5 _ _ _ _
      rw [gName_ap]
      rw [tSeq_ap, tAsg_ap]
      refine (gb_choose (m := 3) (gb_cons (ge_var P9 rfl hv9.ff oF) (gb_cons (gb_spoilt (n := 5) P9 rfl rfl hv9.ff fF) (gb_cons (gb_thing (m := 4) rfl) gb_nil))) rfl : GE p _ _ H9 OkT) H9 (Kp.refl _ _) P9 _ fun v1 t1 H10 k10 P10 hT1 ok1 => ?_
      have hv10 := hv9.kp k10 P10
      rw [gName_ap]
      dsimp only
      rw [tSeq_ap, tAsg_ap]
      refine (gb_choose (m := 3) (gb_cons (ge_var P10 rfl hv10.dd oD) (gb_cons (gb_spoilt (n := 5) P10 rfl rfl hv10.dd fD) (gb_cons (gb_thing (m := 4) rfl) gb_nil))) rfl : GE p _ _ H10 OkT) H10 (Kp.refl _ _) P10 _ fun v2 t2 H11 k11 P11 hT2 ok2 => ?_
      have hv11 := hv10.kp k11 P11
      rw [gName_ap]
      dsimp only
      rw [tSeq_ap, tAsg_ap]
      refine (gb_choose (m := 3) (gb_cons (ge_var P11 rfl hv11.cc oC) (gb_cons (gb_spoilt (n := 5) P11 rfl rfl hv11.cc fC) (gb_cons (gb_thing (m := 4) rfl) gb_nil))) rfl : GE p _ _ H11 OkT) H11 (Kp.refl _ _) P11 _ fun v3 t3 H12 k12 P12 hT3 ok3 => ?_
      have hv12 := hv11.kp k12 P12
      refine ⟨_, rfl, _, rfl, _, rfl, p, v1, v2, v3, t1, t2, t3, rfl, TgAt.kp (k11.trans k12) P10 _ _ hT1, TgAt.kp k12 P11 _ _ hT2, hT3, ok1, ok2, ok3, hv12.tabs, fun H13 e13 T13 => ⟨_, rfl, ?_⟩⟩
      refine iteF ⟨_, _, _, _, _, rfl, hv12.ext e13 T13⟩
    · rintro σ H9 ⟨y5, y6, y7, y8, y9, rfl, hv9⟩
      refine ⟨p, rfl, hv9.pen, fun L H10 n k10 P10 hn hL => ?_⟩
      have hv10 := hv9.kp k10 P10
      obtain ⟨nLp, vs, ts, eL, hts, hvl, oks⟩ := hL
      refine ⟨L, rfl, ⟨_, SqL.of eL⟩, ?_⟩
      refine for_list (xs := vs) (fun i σ H' => ∃ y9, σ = [some (.ref a), some (.ref p), some fv, some dv, some cw, y5, y6, y7, y8, y9] ∧ Hv T p H' fv dv cw tf td tc ∧ TgAll p H' vs ts ∧ H' L = some (.lst vs)) ⟨_, rfl, hv10, hts, eL⟩ (fun i σ H' _ h => ?_) ?_ ?_
      · obtain ⟨_, _, _, _, e⟩ := h
        exact SqL.of e
      · rintro i x σ H11 hx ⟨z9, rfl, hv11, hts11, eL11⟩
        obtain ⟨t, ht, hat⟩ := hts11.get hx
        have okt := oks t (List.mem_of_getElem? ht)
        refine ⟨_, rfl, _, rfl, _, rfl, p, x, dv, cw, t, td, tc, rfl, hat, hv11.dd, hv11.cc, okt, oD, oC, hv11.tabs, fun H12 e12 T12 => ⟨_, rfl, ?_⟩⟩
        have hv12 := hv11.ext e12 T12
        refine iteF ⟨_, rfl, p, x, .non, .non, t, .non, .non, rfl, TgAt.ext e12 _ _ hat, .non, .non, okt, okT_non, okT_non, hv12.tabs, fun H13 e13 T13 => ⟨_, rfl, ?_⟩⟩
        have e113 := e12.trans e13
        exact iteF ⟨_, rfl, hv12.ext e13 T13, TgAll.ext e113 _ _ hts11, e113 _ _ eL11 fun _ z => by cases z⟩
      · rintro σ H11 ⟨z9, rfl, hv11, _, _⟩
        have P11 := hv11.pen
        dsimp only
        rw [tSeq_ap, tFor_ap, iTup_ap, tTup_ap]
        refine ((gb_cons (gb_rep (gb_cons (gb_str (x := "a")) gb_nil) (n := 12)) (gb_cons (gb_rep (gb_cons (gb_str (x := "a")) gb_nil) (n := 13)) (gb_cons (gb_lst (gb_cons (gb_str (x := "a")) gb_nil)) (gb_cons (gb_tup (gb_cons (gb_str (x := "")) gb_nil)) (gb_cons (gb_tup (gb_cons (gb_str (x := "abcdefgh")) gb_nil)) (gb_cons (gb_tup (gb_cons (gb_str (x := "abcdefghi")) gb_nil)) (gb_cons (gb_tup (gb_cons (gb_str (x := "a b")) gb_nil)) (gb_cons (gb_str (x := "a")) (gb_cons (gb_tup (gb_cons gb_int gb_nil)) (gb_cons gb_non gb_nil)))))))))) : GB p _ _ H11 10) H11 (Kp.refl _ _) P11 _ fun vs2 ts2 H12 k12 P12 hts2 hvl2 oks2 => ?_
        have hv12 := hv11.kp k12 P12
        refine ⟨Nat.le_of_lt (small1000 (by omega)), fun t3 nt3 => ?_⟩
        have s13 := same_new nt3 (.tup vs2)
        have e13 : (upd H12 t3 (.tup vs2)) t3 = some (.tup vs2) := upd_same
        have hv13 := hv12.kp (Kp.same s13) (P12.same1 s13)
        have hts13 := TgAll.same s13 _ _ hts2
        generalize (upd H12 t3 (.tup vs2)) = H13 at s13 e13 hv13 hts13
        refine ⟨t3, rfl, ⟨_, SqT.of e13⟩, ?_⟩
        refine for_tup (xs := vs2) (fun i σ H' => ∃ y9, σ = [some (.ref a), some (.ref p), some fv, some dv, some cw, y5, y6, y7, y8, y9] ∧ Hv T p H' fv dv cw tf td tc ∧ TgAll p H' vs2 ts2 ∧ H' t3 = some (.tup vs2)) ⟨_, rfl, hv13, hts13, e13⟩ (fun i σ H' _ h => ?_) ?_ ?_
        · obtain ⟨_, _, _, _, e⟩ := h
          exact SqT.of e
        · rintro i x σ H14 hx ⟨w9, rfl, hv14, hts14, eL14⟩
          obtain ⟨t, ht, hat⟩ := hts14.get hx
          have okt := oks2 t (List.mem_of_getElem? ht)
          refine ⟨_, rfl, _, rfl, _, rfl, p, fv, x, cw, tf, t, tc, rfl, hv14.ff, hat, hv14.cc, oF, okt, oC, hv14.tabs, fun H15 e15 T15 => ⟨_, rfl, ?_⟩⟩
          have hv15 := hv14.ext e15 T15
          refine iteF ⟨_, rfl, _, rfl, p, fv, x, .non, tf, t, .non, rfl, hv15.ff, TgAt.ext e15 _ _ hat, .non, oF, okt, okT_non, hv15.tabs, fun H16 e16 T16 => ⟨_, rfl, ?_⟩⟩
          have e146 := e15.trans e16
          exact iteF ⟨_, rfl, hv15.ext e16 T16, TgAll.ext e146 _ _ hts14, e146 _ _ eL14 fun _ z => by cases z⟩
        · rintro σ H14 ⟨w9, rfl, hv14, _, _⟩
          have P14 := hv14.pen
          dsimp only
          rw [tSeq_ap, tFor_ap, iTup_ap, tTup_ap]
          refine ((gb_cons (gb_rep (gb_cons (gb_str (x := "a")) gb_nil) (n := 30)) (gb_cons (gb_rep (gb_cons (gb_str (x := "a")) gb_nil) (n := 31)) (gb_cons (gb_lst gb_nil) (gb_cons (gb_tup (gb_cons (gb_str (x := "A")) gb_nil)) (gb_cons (gb_tup (gb_cons (gb_str (x := "a")) (gb_cons gb_non gb_nil))) (gb_cons gb_int gb_nil)))))) : GB p _ _ H14 6) H14 (Kp.refl _ _) P14 _ fun vs3 ts3 H15 k15 P15 hts3 hvl3 oks3 => ?_
          have hv15 := hv14.kp k15 P15
          refine ⟨Nat.le_of_lt (small1000 (by omega)), fun t4 nt4 => ?_⟩
          have s16 := same_new nt4 (.tup vs3)
          have e16 : (upd H15 t4 (.tup vs3)) t4 = some (.tup vs3) := upd_same
          have hv16 := hv15.kp (Kp.same s16) (P15.same1 s16)
          have hts16 := TgAll.same s16 _ _ hts3
          generalize (upd H15 t4 (.tup vs3)) = H16 at s16 e16 hv16 hts16
          refine ⟨t4, rfl, ⟨_, SqT.of e16⟩, ?_⟩
          refine for_tup (xs := vs3) (fun i σ H' => ∃ y9, σ = [some (.ref a), some (.ref p), some fv, some dv, some cw, y5, y6, y7, y8, y9] ∧ Hv T p H' fv dv cw tf td tc ∧ TgAll p H' vs3 ts3 ∧ H' t4 = some (.tup vs3)) ⟨_, rfl, hv16, hts16, e16⟩ (fun i σ H' _ h => ?_) ?_ ?_
          · obtain ⟨_, _, _, _, e⟩ := h
            exact SqT.of e
          · rintro i x σ H17 hx ⟨x9, rfl, hv17, hts17, eL17⟩
            obtain ⟨t, ht, hat⟩ := hts17.get hx
            have okt := oks3 t (List.mem_of_getElem? ht)
            refine ⟨_, rfl, _, rfl, _, rfl, p, fv, dv, x, tf, td, t, rfl, hv17.ff, hv17.dd, hat, oF, oD, okt, hv17.tabs, fun H18 e18 T18 => ⟨_, rfl, ?_⟩⟩
            exact iteF ⟨_, rfl, hv17.ext e18 T18, TgAll.ext e18 _ _ hts17, e18 _ _ eL17 fun _ z => by cases z⟩
          · rintro σ H17 ⟨x9, rfl, hv17, _, _⟩
            exact q H17
end
end Deed

namespace Deed
open PySem PySem.Spec PyProof.Rows L2 LamX
/-! ### the end: the facts by names -/
def mkD (x : Str) (st : Stmt) : He.DefD := ⟨(x, none), x, x, defArgs st, defBody st, defScope st, [], []⟩
def mkDd (x : Str) (st : Stmt) (dfl : List He.Dv) : He.DefD := ⟨(x, none), x, x, defArgs st, defBody st, defScope st, dfl, []⟩
def fnAll : List He.DefD := [mkD "_law_cell_at" sCell, mkD "_law_pen" sPen, mkD "_law_draw" sDraw, mkD "_law_word" sLWord, mkD "_law_forms" sLForms, mkD "_law_draft" sLDraft, mkD "_law_fulls" sLFulls, mkD "_law_said" sLSaid, mkD "_law_copy" sLCopy, mkD "is_rising" sRisT, mkD "is_word" sIsWord, mkD "are_words" sAreWords, mkD "are_fulls" sAreFulls, mkD "is_form" sIsForm, mkD "are_forms" sAreForms, mkD "check_texts" sCheckT, mkD "fulls_of" sFullsOf, mkD "counts_behind" sCountsB, mkD "counts_of" sCountsOf, mkD "says" sSays, mkD "ways_many" sWaysM, mkD "ways_behind" sWaysBehind, mkD "first_way" sFirstWay, mkD "reaches_of" sReachesOf, mkD "parts_at" sPartsAt, mkD "is_whole" sIsWhole, mkD "is_reach" sIsReach, mkD "reaches_hold" sReachesHold, mkD "_law_thing" sLThing, mkD "_law_spoilt" sLSpoilt, mkD "_law_is_word" sLIsWord, mkD "_law_are_words" sLAreWords, mkD "_law_are_forms" sLAreForms, mkD "_law_why" sLWhy, mkD "_law_right" sLRight, mkD "_law_bad_forms" sLBadForms, mkD "law" sLaw]
def faAll : List He.Fa := [.glo "_law_cell_at", .glo "_law_pen", .glo "_law_draw", .glo "_law_word", .glo "_law_forms", .glo "_law_draft", .glo "_law_fulls", .glo "_law_said", .glo "_law_copy", .glo "is_rising", .glo "is_word", .glo "are_words", .glo "are_fulls", .glo "is_form", .glo "are_forms", .glo "check_texts", .glo "fulls_of", .glo "counts_behind", .glo "counts_of", .glo "says", .glo "ways_many", .glo "ways_behind", .glo "first_way", .glo "reaches_of", .glo "parts_at", .glo "is_whole", .glo "is_reach", .glo "reaches_hold", .glo "_law_thing", .glo "_law_spoilt", .glo "_law_is_word", .glo "_law_are_words", .glo "_law_are_forms", .glo "_law_why", .glo "_law_right", .glo "_law_bad_forms", .glo "law", .free "range", .free "min", .free "tuple", .free "len", .free "sorted", .free "int", .free "isinstance", .free "str", .free "all", .free "zip", .free "set", .free "enumerate", .free "list", .free "bool", .int "LONGEST_WORD" 8, .int "MOST_FORMS" 8, .int "MOST_FULLS" 3, .int "MOST_FULL_WORDS" 3, .int "MOST_DRAFT_WORDS" 12, .int "MOST_COPY_WORDS" 30, .glo "NoForms", .glo "NoDraft", .glo "NoCopy", .exc "NoForms", .exc "NoDraft", .exc "NoCopy", .exm "NoForms" "NoForms" true, .exm "NoDraft" "NoDraft" true, .exm "NoCopy" "NoCopy" true, .exm "NoDraft" "NoForms" false, .exm "NoCopy" "NoForms" false, .exm "NoCopy" "NoDraft" false]
def tfAll : List He.Defn := [("_law_right", none)]
abbrev tsAll : List He.Tab := []
def exAll (K : PySem.W.Frag) : Bool := true
abbrev rowR : PySem.W.OpenRow := PySem.W.OpenLaw.row PySem.Challenge.rw_deedsheaf_k53_forms_drafts_and_copies_re
abbrev hk : PySem.W.Hook := He.hookX 4 faAll fnAll tsAll tfAll exAll
def ob (s : PySem.W.SharedT) : He.AlX := He.obsX 4 faAll fnAll tsAll tfAll exAll (HandSHeadRun.getT s)
theorem ob_eq (s : PySem.W.SharedT) : ob s = hk.obs s.abs := He.obsX_eq (HandSHeadRun.getT_eq s)
def looseAll : List Str := (["is_whole", "is_rising", "SheafError", "NoForms", "NoDraft", "NoCopy", "LONGEST_WORD", "MOST_FORMS", "MOST_FULLS", "MOST_FULL_WORDS", "MOST_DRAFT_WORDS", "MOST_COPY_WORDS"] : List Str) ++ (["is_word", "are_words", "are_fulls", "is_form", "are_forms", "check_texts", "fulls_of", "counts_behind", "counts_of", "says", "ways_many", "ways_behind"] : List Str) ++ (["first_way", "reaches_of", "is_reach", "reaches_hold", "parts_at", "_law_pen", "_law_cell_at", "_law_draw", "_law_word", "_law_forms", "_law_draft", "_law_fulls"] : List Str) ++ (["_law_said", "_law_copy", "_law_thing", "_law_spoilt", "_law_is_word", "_law_are_words", "_law_are_forms", "_law_why", "_law_right", "_law_bad_forms"] : List Str)
theorem run (w : World) : HandSHeadRun.RunEq rowR (PySem.W.view rowR.prog [50]) hk ob 12000 looseAll w := by
  intro os
  kernel_rfl
theorem funOf {K : PySem.W.Frag} {x : Str} {st : Stmt} {f : Addr} {fd : FuncData} (F : FunD K x x (defArgs st) (defBody st) (defScope st) [] [] f fd) : Fun K x x st f fd := by
  obtain ⟨oc, od, dV, kV, doc, pm, an, cdv, ct, osl, e, lk, hcd, hD, hK⟩ := F.ex
  rcases hD with ⟨_, hD⟩ | ⟨hD, _⟩
  · subst hD
    exact ⟨⟨oc, od, kV, doc, pm, an, cdv, ct, osl, e, lk, hcd⟩, F.kp⟩
  · exact absurd rfl hD
theorem codeAt {K : PySem.W.Frag} {x : Str} {st : Stmt} {p : He.Defn} {fd : FuncData} (F : Fun K x x st (He.fAd K p) fd) : fd.code = .ref (He.cT K p).1 := by
  obtain ⟨oc, od, kV, doc, pm, an, cdv, ct, osl, e, lk, hcd⟩ := F.ex
  obtain ⟨c, ec⟩ := He.codeIn_ref hcd
  have e2 : fd.code = .ref c := by rw [e, ← ec]
  rw [show (He.cT K p).1 = c from He.codeOf_eq lk e2]
  exact e2
theorem facts {l : PySem.W.OpenLaw} {w : World} {K : PySem.W.Frag} {h : Heap} {mg : Str → Option Value} {f : Addr} (X : K.In h) (G : h.Ns mainGlobals mg) (hfa : mg ("law" : Str) = some (.ref f)) (c : He.SaysX faAll fnAll tsAll tfAll exAll w h K) : LawAtS l w K CX0 41 63 "_law_script" mg f h := by
  obtain ⟨d0, F0'⟩ := c.t.d.def_ 0 (d := mkD "_law_cell_at" sCell) rfl
  have g0 := He.glo_ok X G (c.t.d.fact 0 (f := .glo "_law_cell_at") rfl)
  have F0 : Fun K "_law_cell_at" "_law_cell_at" sCell (He.fAd K ("_law_cell_at", none)) d0 := funOf F0'
  have D0 : Df K mg "_law_cell_at" sCell ["_law_script", "_law_k"] _ d0 := ⟨F0, F0.binds (ps := ["_law_script", "_law_k"]) (fun _ _ _ _ _ _ us hl => match us, hl with | [_, _], _ => rfl), g0⟩
  obtain ⟨d1, F1'⟩ := c.t.d.def_ 1 (d := mkD "_law_pen" sPen) rfl
  have g1 := He.glo_ok X G (c.t.d.fact 1 (f := .glo "_law_pen") rfl)
  have F1 : Fun K "_law_pen" "_law_pen" sPen (He.fAd K ("_law_pen", none)) d1 := funOf F1'
  have D1 : Df K mg "_law_pen" sPen ["_law_cell"] _ d1 := ⟨F1, F1.binds (ps := ["_law_cell"]) (fun _ _ _ _ _ _ us hl => match us, hl with | [_], _ => rfl), g1⟩
  obtain ⟨d2, F2'⟩ := c.t.d.def_ 2 (d := mkD "_law_draw" sDraw) rfl
  have g2 := He.glo_ok X G (c.t.d.fact 2 (f := .glo "_law_draw") rfl)
  have F2 : Fun K "_law_draw" "_law_draw" sDraw (He.fAd K ("_law_draw", none)) d2 := funOf F2'
  have D2 : Df K mg "_law_draw" sDraw ["_law_pen_here", "_law_bound"] _ d2 := ⟨F2, F2.binds (ps := ["_law_pen_here", "_law_bound"]) (fun _ _ _ _ _ _ us hl => match us, hl with | [_, _], _ => rfl), g2⟩
  obtain ⟨d3, F3'⟩ := c.t.d.def_ 3 (d := mkD "_law_word" sLWord) rfl
  have g3 := He.glo_ok X G (c.t.d.fact 3 (f := .glo "_law_word") rfl)
  have F3 : Fun K "_law_word" "_law_word" sLWord (He.fAd K ("_law_word", none)) d3 := funOf F3'
  have D3 : Df K mg "_law_word" sLWord ["_law_pen_here"] _ d3 := ⟨F3, F3.binds (ps := ["_law_pen_here"]) (fun _ _ _ _ _ _ us hl => match us, hl with | [_], _ => rfl), g3⟩
  obtain ⟨d4, F4'⟩ := c.t.d.def_ 4 (d := mkD "_law_forms" sLForms) rfl
  have g4 := He.glo_ok X G (c.t.d.fact 4 (f := .glo "_law_forms") rfl)
  have F4 : Fun K "_law_forms" "_law_forms" sLForms (He.fAd K ("_law_forms", none)) d4 := funOf F4'
  have D4 : Df K mg "_law_forms" sLForms ["_law_pen_here"] _ d4 := ⟨F4, F4.binds (ps := ["_law_pen_here"]) (fun _ _ _ _ _ _ us hl => match us, hl with | [_], _ => rfl), g4⟩
  obtain ⟨d5, F5'⟩ := c.t.d.def_ 5 (d := mkD "_law_draft" sLDraft) rfl
  have g5 := He.glo_ok X G (c.t.d.fact 5 (f := .glo "_law_draft") rfl)
  have F5 : Fun K "_law_draft" "_law_draft" sLDraft (He.fAd K ("_law_draft", none)) d5 := funOf F5'
  have D5 : Df K mg "_law_draft" sLDraft ["_law_pen_here", "_law_forms_here", "_law_most"] _ d5 := ⟨F5, F5.binds (ps := ["_law_pen_here", "_law_forms_here", "_law_most"]) (fun _ _ _ _ _ _ us hl => match us, hl with | [_, _, _], _ => rfl), g5⟩
  obtain ⟨d6, F6'⟩ := c.t.d.def_ 6 (d := mkD "_law_fulls" sLFulls) rfl
  have g6 := He.glo_ok X G (c.t.d.fact 6 (f := .glo "_law_fulls") rfl)
  have F6 : Fun K "_law_fulls" "_law_fulls" sLFulls (He.fAd K ("_law_fulls", none)) d6 := funOf F6'
  have D6 : Df K mg "_law_fulls" sLFulls ["_law_forms_here", "_law_word_here"] _ d6 := ⟨F6, F6.binds (ps := ["_law_forms_here", "_law_word_here"]) (fun _ _ _ _ _ _ us hl => match us, hl with | [_, _], _ => rfl), g6⟩
  obtain ⟨d7, F7'⟩ := c.t.d.def_ 7 (d := mkD "_law_said" sLSaid) rfl
  have g7 := He.glo_ok X G (c.t.d.fact 7 (f := .glo "_law_said") rfl)
  have F7 : Fun K "_law_said" "_law_said" sLSaid (He.fAd K ("_law_said", none)) d7 := funOf F7'
  have D7 : Df K mg "_law_said" sLSaid ["_law_pen_here", "_law_forms_here", "_law_draft_here"] _ d7 := ⟨F7, F7.binds (ps := ["_law_pen_here", "_law_forms_here", "_law_draft_here"]) (fun _ _ _ _ _ _ us hl => match us, hl with | [_, _, _], _ => rfl), g7⟩
  obtain ⟨d8, F8'⟩ := c.t.d.def_ 8 (d := mkD "_law_copy" sLCopy) rfl
  have g8 := He.glo_ok X G (c.t.d.fact 8 (f := .glo "_law_copy") rfl)
  have F8 : Fun K "_law_copy" "_law_copy" sLCopy (He.fAd K ("_law_copy", none)) d8 := funOf F8'
  have D8 : Df K mg "_law_copy" sLCopy ["_law_pen_here", "_law_forms_here", "_law_draft_here"] _ d8 := ⟨F8, F8.binds (ps := ["_law_pen_here", "_law_forms_here", "_law_draft_here"]) (fun _ _ _ _ _ _ us hl => match us, hl with | [_, _, _], _ => rfl), g8⟩
  obtain ⟨d9, F9'⟩ := c.t.d.def_ 9 (d := mkD "is_rising" sRisT) rfl
  have g9 := He.glo_ok X G (c.t.d.fact 9 (f := .glo "is_rising") rfl)
  have F9 : Fun K "is_rising" "is_rising" sRisT (He.fAd K ("is_rising", none)) d9 := funOf F9'
  have D9 : Df K mg "is_rising" sRisT ["things"] _ d9 := ⟨F9, F9.binds (ps := ["things"]) (fun _ _ _ _ _ _ us hl => match us, hl with | [_], _ => rfl), g9⟩
  obtain ⟨d10, F10'⟩ := c.t.d.def_ 10 (d := mkD "is_word" sIsWord) rfl
  have g10 := He.glo_ok X G (c.t.d.fact 10 (f := .glo "is_word") rfl)
  have F10 : Fun K "is_word" "is_word" sIsWord (He.fAd K ("is_word", none)) d10 := funOf F10'
  have D10 : Df K mg "is_word" sIsWord ["thing"] _ d10 := ⟨F10, F10.binds (ps := ["thing"]) (fun _ _ _ _ _ _ us hl => match us, hl with | [_], _ => rfl), g10⟩
  obtain ⟨d11, F11'⟩ := c.t.d.def_ 11 (d := mkD "are_words" sAreWords) rfl
  have g11 := He.glo_ok X G (c.t.d.fact 11 (f := .glo "are_words") rfl)
  have F11 : Fun K "are_words" "are_words" sAreWords (He.fAd K ("are_words", none)) d11 := funOf F11'
  have D11 : Df K mg "are_words" sAreWords ["thing", "least", "most"] _ d11 := ⟨F11, F11.binds (ps := ["thing", "least", "most"]) (fun _ _ _ _ _ _ us hl => match us, hl with | [_, _, _], _ => rfl), g11⟩
  obtain ⟨d12, F12'⟩ := c.t.d.def_ 12 (d := mkD "are_fulls" sAreFulls) rfl
  have g12 := He.glo_ok X G (c.t.d.fact 12 (f := .glo "are_fulls") rfl)
  have F12 : Fun K "are_fulls" "are_fulls" sAreFulls (He.fAd K ("are_fulls", none)) d12 := funOf F12'
  have D12 : Df K mg "are_fulls" sAreFulls ["thing"] _ d12 := ⟨F12, F12.binds (ps := ["thing"]) (fun _ _ _ _ _ _ us hl => match us, hl with | [_], _ => rfl), g12⟩
  obtain ⟨d13, F13'⟩ := c.t.d.def_ 13 (d := mkD "is_form" sIsForm) rfl
  have g13 := He.glo_ok X G (c.t.d.fact 13 (f := .glo "is_form") rfl)
  have F13 : Fun K "is_form" "is_form" sIsForm (He.fAd K ("is_form", none)) d13 := funOf F13'
  have D13 : Df K mg "is_form" sIsForm ["thing"] _ d13 := ⟨F13, F13.binds (ps := ["thing"]) (fun _ _ _ _ _ _ us hl => match us, hl with | [_], _ => rfl), g13⟩
  obtain ⟨d14, F14'⟩ := c.t.d.def_ 14 (d := mkD "are_forms" sAreForms) rfl
  have g14 := He.glo_ok X G (c.t.d.fact 14 (f := .glo "are_forms") rfl)
  have F14 : Fun K "are_forms" "are_forms" sAreForms (He.fAd K ("are_forms", none)) d14 := funOf F14'
  have D14 : Df K mg "are_forms" sAreForms ["thing"] _ d14 := ⟨F14, F14.binds (ps := ["thing"]) (fun _ _ _ _ _ _ us hl => match us, hl with | [_], _ => rfl), g14⟩
  obtain ⟨d15, F15'⟩ := c.t.d.def_ 15 (d := mkD "check_texts" sCheckT) rfl
  have g15 := He.glo_ok X G (c.t.d.fact 15 (f := .glo "check_texts") rfl)
  have F15 : Fun K "check_texts" "check_texts" sCheckT (He.fAd K ("check_texts", none)) d15 := funOf F15'
  have D15 : Df K mg "check_texts" sCheckT ["forms", "draft", "copy"] _ d15 := ⟨F15, F15.binds (ps := ["forms", "draft", "copy"]) (fun _ _ _ _ _ _ us hl => match us, hl with | [_, _, _], _ => rfl), g15⟩
  obtain ⟨d16, F16'⟩ := c.t.d.def_ 16 (d := mkD "fulls_of" sFullsOf) rfl
  have g16 := He.glo_ok X G (c.t.d.fact 16 (f := .glo "fulls_of") rfl)
  have F16 : Fun K "fulls_of" "fulls_of" sFullsOf (He.fAd K ("fulls_of", none)) d16 := funOf F16'
  have D16 : Df K mg "fulls_of" sFullsOf ["forms", "draft"] _ d16 := ⟨F16, F16.binds (ps := ["forms", "draft"]) (fun _ _ _ _ _ _ us hl => match us, hl with | [_, _], _ => rfl), g16⟩
  obtain ⟨d17, F17'⟩ := c.t.d.def_ 17 (d := mkD "counts_behind" sCountsB) rfl
  have g17 := He.glo_ok X G (c.t.d.fact 17 (f := .glo "counts_behind") rfl)
  have F17 : Fun K "counts_behind" "counts_behind" sCountsB (He.fAd K ("counts_behind", none)) d17 := funOf F17'
  have D17 : Df K mg "counts_behind" sCountsB ["counts", "fulls", "copy"] _ d17 := ⟨F17, F17.binds (ps := ["counts", "fulls", "copy"]) (fun _ _ _ _ _ _ us hl => match us, hl with | [_, _, _], _ => rfl), g17⟩
  obtain ⟨d18, F18'⟩ := c.t.d.def_ 18 (d := mkD "counts_of" sCountsOf) rfl
  have g18 := He.glo_ok X G (c.t.d.fact 18 (f := .glo "counts_of") rfl)
  have F18 : Fun K "counts_of" "counts_of" sCountsOf (He.fAd K ("counts_of", none)) d18 := funOf F18'
  have D18 : Df K mg "counts_of" sCountsOf ["forms", "draft", "copy"] _ d18 := ⟨F18, F18.binds (ps := ["forms", "draft", "copy"]) (fun _ _ _ _ _ _ us hl => match us, hl with | [_, _, _], _ => rfl), g18⟩
  obtain ⟨d19, F19'⟩ := c.t.d.def_ 19 (d := mkD "says" sSays) rfl
  have g19 := He.glo_ok X G (c.t.d.fact 19 (f := .glo "says") rfl)
  have F19 : Fun K "says" "says" sSays (He.fAd K ("says", none)) d19 := funOf F19'
  have D19 : Df K mg "says" sSays ["forms", "draft", "copy"] _ d19 := ⟨F19, F19.binds (ps := ["forms", "draft", "copy"]) (fun _ _ _ _ _ _ us hl => match us, hl with | [_, _, _], _ => rfl), g19⟩
  obtain ⟨d20, F20'⟩ := c.t.d.def_ 20 (d := mkD "ways_many" sWaysM) rfl
  have g20 := He.glo_ok X G (c.t.d.fact 20 (f := .glo "ways_many") rfl)
  have F20 : Fun K "ways_many" "ways_many" sWaysM (He.fAd K ("ways_many", none)) d20 := funOf F20'
  have D20 : Df K mg "ways_many" sWaysM ["forms", "draft", "copy"] _ d20 := ⟨F20, F20.binds (ps := ["forms", "draft", "copy"]) (fun _ _ _ _ _ _ us hl => match us, hl with | [_, _, _], _ => rfl), g20⟩
  obtain ⟨d21, F21'⟩ := c.t.d.def_ 21 (d := mkD "ways_behind" sWaysBehind) rfl
  have g21 := He.glo_ok X G (c.t.d.fact 21 (f := .glo "ways_behind") rfl)
  have F21 : Fun K "ways_behind" "ways_behind" sWaysBehind (He.fAd K ("ways_behind", none)) d21 := funOf F21'
  have D21 : Df K mg "ways_behind" sWaysBehind ["ways", "fulls", "copy"] _ d21 := ⟨F21, F21.binds (ps := ["ways", "fulls", "copy"]) (fun _ _ _ _ _ _ us hl => match us, hl with | [_, _, _], _ => rfl), g21⟩
  obtain ⟨d22, F22'⟩ := c.t.d.def_ 22 (d := mkD "first_way" sFirstWay) rfl
  have g22 := He.glo_ok X G (c.t.d.fact 22 (f := .glo "first_way") rfl)
  have F22 : Fun K "first_way" "first_way" sFirstWay (He.fAd K ("first_way", none)) d22 := funOf F22'
  have D22 : Df K mg "first_way" sFirstWay ["forms", "draft", "copy"] _ d22 := ⟨F22, F22.binds (ps := ["forms", "draft", "copy"]) (fun _ _ _ _ _ _ us hl => match us, hl with | [_, _, _], _ => rfl), g22⟩
  obtain ⟨d23, F23'⟩ := c.t.d.def_ 23 (d := mkD "reaches_of" sReachesOf) rfl
  have g23 := He.glo_ok X G (c.t.d.fact 23 (f := .glo "reaches_of") rfl)
  have F23 : Fun K "reaches_of" "reaches_of" sReachesOf (He.fAd K ("reaches_of", none)) d23 := funOf F23'
  have D23 : Df K mg "reaches_of" sReachesOf ["forms", "draft", "copy"] _ d23 := ⟨F23, F23.binds (ps := ["forms", "draft", "copy"]) (fun _ _ _ _ _ _ us hl => match us, hl with | [_, _, _], _ => rfl), g23⟩
  obtain ⟨d24, F24'⟩ := c.t.d.def_ 24 (d := mkD "parts_at" sPartsAt) rfl
  have g24 := He.glo_ok X G (c.t.d.fact 24 (f := .glo "parts_at") rfl)
  have F24 : Fun K "parts_at" "parts_at" sPartsAt (He.fAd K ("parts_at", none)) d24 := funOf F24'
  have D24 : Df K mg "parts_at" sPartsAt ["forms", "draft", "copy"] _ d24 := ⟨F24, F24.binds (ps := ["forms", "draft", "copy"]) (fun _ _ _ _ _ _ us hl => match us, hl with | [_, _, _], _ => rfl), g24⟩
  obtain ⟨d25, F25'⟩ := c.t.d.def_ 25 (d := mkD "is_whole" sIsWhole) rfl
  have g25 := He.glo_ok X G (c.t.d.fact 25 (f := .glo "is_whole") rfl)
  have F25 : Fun K "is_whole" "is_whole" sIsWhole (He.fAd K ("is_whole", none)) d25 := funOf F25'
  have D25 : Df K mg "is_whole" sIsWhole ["thing"] _ d25 := ⟨F25, F25.binds (ps := ["thing"]) (fun _ _ _ _ _ _ us hl => match us, hl with | [_], _ => rfl), g25⟩
  obtain ⟨d26, F26'⟩ := c.t.d.def_ 26 (d := mkD "is_reach" sIsReach) rfl
  have g26 := He.glo_ok X G (c.t.d.fact 26 (f := .glo "is_reach") rfl)
  have F26 : Fun K "is_reach" "is_reach" sIsReach (He.fAd K ("is_reach", none)) d26 := funOf F26'
  have D26 : Df K mg "is_reach" sIsReach ["reach", "thing"] _ d26 := ⟨F26, F26.binds (ps := ["reach", "thing"]) (fun _ _ _ _ _ _ us hl => match us, hl with | [_, _], _ => rfl), g26⟩
  obtain ⟨d27, F27'⟩ := c.t.d.def_ 27 (d := mkD "reaches_hold" sReachesHold) rfl
  have g27 := He.glo_ok X G (c.t.d.fact 27 (f := .glo "reaches_hold") rfl)
  have F27 : Fun K "reaches_hold" "reaches_hold" sReachesHold (He.fAd K ("reaches_hold", none)) d27 := funOf F27'
  have D27 : Df K mg "reaches_hold" sReachesHold ["forms", "draft", "copy", "thing"] _ d27 := ⟨F27, F27.binds (ps := ["forms", "draft", "copy", "thing"]) (fun _ _ _ _ _ _ us hl => match us, hl with | [_, _, _, _], _ => rfl), g27⟩
  obtain ⟨d28, F28'⟩ := c.t.d.def_ 28 (d := mkD "_law_thing" sLThing) rfl
  have g28 := He.glo_ok X G (c.t.d.fact 28 (f := .glo "_law_thing") rfl)
  have F28 : Fun K "_law_thing" "_law_thing" sLThing (He.fAd K ("_law_thing", none)) d28 := funOf F28'
  have D28 : Df K mg "_law_thing" sLThing ["_law_pen_here", "_law_deep"] _ d28 := ⟨F28, F28.binds (ps := ["_law_pen_here", "_law_deep"]) (fun _ _ _ _ _ _ us hl => match us, hl with | [_, _], _ => rfl), g28⟩
  obtain ⟨d29, F29'⟩ := c.t.d.def_ 29 (d := mkD "_law_spoilt" sLSpoilt) rfl
  have g29 := He.glo_ok X G (c.t.d.fact 29 (f := .glo "_law_spoilt") rfl)
  have F29 : Fun K "_law_spoilt" "_law_spoilt" sLSpoilt (He.fAd K ("_law_spoilt", none)) d29 := funOf F29'
  have D29 : Df K mg "_law_spoilt" sLSpoilt ["_law_pen_here", "_law_thing_here"] _ d29 := ⟨F29, F29.binds (ps := ["_law_pen_here", "_law_thing_here"]) (fun _ _ _ _ _ _ us hl => match us, hl with | [_, _], _ => rfl), g29⟩
  obtain ⟨d30, F30'⟩ := c.t.d.def_ 30 (d := mkD "_law_is_word" sLIsWord) rfl
  have g30 := He.glo_ok X G (c.t.d.fact 30 (f := .glo "_law_is_word") rfl)
  have F30 : Fun K "_law_is_word" "_law_is_word" sLIsWord (He.fAd K ("_law_is_word", none)) d30 := funOf F30'
  have D30 : Df K mg "_law_is_word" sLIsWord ["_law_thing_here"] _ d30 := ⟨F30, F30.binds (ps := ["_law_thing_here"]) (fun _ _ _ _ _ _ us hl => match us, hl with | [_], _ => rfl), g30⟩
  obtain ⟨d31, F31'⟩ := c.t.d.def_ 31 (d := mkD "_law_are_words" sLAreWords) rfl
  have g31 := He.glo_ok X G (c.t.d.fact 31 (f := .glo "_law_are_words") rfl)
  have F31 : Fun K "_law_are_words" "_law_are_words" sLAreWords (He.fAd K ("_law_are_words", none)) d31 := funOf F31'
  have D31 : Df K mg "_law_are_words" sLAreWords ["_law_thing_here", "_law_least", "_law_most"] _ d31 := ⟨F31, F31.binds (ps := ["_law_thing_here", "_law_least", "_law_most"]) (fun _ _ _ _ _ _ us hl => match us, hl with | [_, _, _], _ => rfl), g31⟩
  obtain ⟨d32, F32'⟩ := c.t.d.def_ 32 (d := mkD "_law_are_forms" sLAreForms) rfl
  have g32 := He.glo_ok X G (c.t.d.fact 32 (f := .glo "_law_are_forms") rfl)
  have F32 : Fun K "_law_are_forms" "_law_are_forms" sLAreForms (He.fAd K ("_law_are_forms", none)) d32 := funOf F32'
  have D32 : Df K mg "_law_are_forms" sLAreForms ["_law_thing_here"] _ d32 := ⟨F32, F32.binds (ps := ["_law_thing_here"]) (fun _ _ _ _ _ _ us hl => match us, hl with | [_], _ => rfl), g32⟩
  obtain ⟨d33, F33'⟩ := c.t.d.def_ 33 (d := mkD "_law_why" sLWhy) rfl
  have g33 := He.glo_ok X G (c.t.d.fact 33 (f := .glo "_law_why") rfl)
  have F33 : Fun K "_law_why" "_law_why" sLWhy (He.fAd K ("_law_why", none)) d33 := funOf F33'
  have D33 : Df K mg "_law_why" sLWhy ["_law_call"] _ d33 := ⟨F33, F33.binds (ps := ["_law_call"]) (fun _ _ _ _ _ _ us hl => match us, hl with | [_], _ => rfl), g33⟩
  obtain ⟨d34, F34'⟩ := c.t.d.def_ 34 (d := mkD "_law_right" sLRight) rfl
  have g34 := He.glo_ok X G (c.t.d.fact 34 (f := .glo "_law_right") rfl)
  have F34 : Fun K "_law_right" "_law_right" sLRight (He.fAd K ("_law_right", none)) d34 := funOf F34'
  have D34 : Df K mg "_law_right" sLRight ["_law_forms_here", "_law_draft_here", "_law_copy_here"] _ d34 := ⟨F34, F34.binds (ps := ["_law_forms_here", "_law_draft_here", "_law_copy_here"]) (fun _ _ _ _ _ _ us hl => match us, hl with | [_, _, _], _ => rfl), g34⟩
  obtain ⟨d35, F35'⟩ := c.t.d.def_ 35 (d := mkD "_law_bad_forms" sLBadForms) rfl
  have g35 := He.glo_ok X G (c.t.d.fact 35 (f := .glo "_law_bad_forms") rfl)
  have F35 : Fun K "_law_bad_forms" "_law_bad_forms" sLBadForms (He.fAd K ("_law_bad_forms", none)) d35 := funOf F35'
  have D35 : Df K mg "_law_bad_forms" sLBadForms [] _ d35 := ⟨F35, F35.binds (ps := []) (fun _ _ _ _ _ _ us hl => match us, hl with | [], _ => rfl), g35⟩
  obtain ⟨d36, F36'⟩ := c.t.d.def_ 36 (d := mkD "law" sLaw) rfl
  have g36 := He.glo_ok X G (c.t.d.fact 36 (f := .glo "law") rfl)
  have F36 : Fun K "law" "law" sLaw (He.fAd K ("law", none)) d36 := funOf F36'
  have m_range := He.free_ok X G (c.t.d.fact 37 (f := .free "range") rfl)
  have m_min := He.free_ok X G (c.t.d.fact 38 (f := .free "min") rfl)
  have m_tuple := He.free_ok X G (c.t.d.fact 39 (f := .free "tuple") rfl)
  have m_len := He.free_ok X G (c.t.d.fact 40 (f := .free "len") rfl)
  have m_sorted := He.free_ok X G (c.t.d.fact 41 (f := .free "sorted") rfl)
  have m_int := He.free_ok X G (c.t.d.fact 42 (f := .free "int") rfl)
  have m_isinstance := He.free_ok X G (c.t.d.fact 43 (f := .free "isinstance") rfl)
  have m_str := He.free_ok X G (c.t.d.fact 44 (f := .free "str") rfl)
  have m_all := He.free_ok X G (c.t.d.fact 45 (f := .free "all") rfl)
  have m_zip := He.free_ok X G (c.t.d.fact 46 (f := .free "zip") rfl)
  have m_set := He.free_ok X G (c.t.d.fact 47 (f := .free "set") rfl)
  have m_enumerate := He.free_ok X G (c.t.d.fact 48 (f := .free "enumerate") rfl)
  have m_list := He.free_ok X G (c.t.d.fact 49 (f := .free "list") rfl)
  have m_bool := He.free_ok X G (c.t.d.fact 50 (f := .free "bool") rfl)
  have i_LONGEST_WORD : MgInt mg "LONGEST_WORD" 8 := He.int_ok X G (c.t.d.fact 51 (f := .int "LONGEST_WORD" 8) rfl)
  have i_MOST_FORMS : MgInt mg "MOST_FORMS" 8 := He.int_ok X G (c.t.d.fact 52 (f := .int "MOST_FORMS" 8) rfl)
  have i_MOST_FULLS : MgInt mg "MOST_FULLS" 3 := He.int_ok X G (c.t.d.fact 53 (f := .int "MOST_FULLS" 3) rfl)
  have i_MOST_FULL_WORDS : MgInt mg "MOST_FULL_WORDS" 3 := He.int_ok X G (c.t.d.fact 54 (f := .int "MOST_FULL_WORDS" 3) rfl)
  have i_MOST_DRAFT_WORDS : MgInt mg "MOST_DRAFT_WORDS" 12 := He.int_ok X G (c.t.d.fact 55 (f := .int "MOST_DRAFT_WORDS" 12) rfl)
  have i_MOST_COPY_WORDS : MgInt mg "MOST_COPY_WORDS" 30 := He.int_ok X G (c.t.d.fact 56 (f := .int "MOST_COPY_WORDS" 30) rfl)
  have e := hfa.symm.trans g36
  cases e
  have b := FunD.bindsA (ps := ["_law_script"]) F36' fun _ _ _ _ _ _ us hl => match us, hl with | [_], _ => rfl
  have gF := He.glo_ok X G (c.t.d.fact 57 (f := .glo "NoForms") rfl)
  have gD := He.glo_ok X G (c.t.d.fact 58 (f := .glo "NoDraft") rfl)
  have gC := He.glo_ok X G (c.t.d.fact 59 (f := .glo "NoCopy") rfl)
  obtain ⟨xF1, xF2, xF3, xF4⟩ := He.exc_ok (c.t.d.fact 60 (f := .exc "NoForms") rfl)
  obtain ⟨xD1, xD2, xD3, xD4⟩ := He.exc_ok (c.t.d.fact 61 (f := .exc "NoDraft") rfl)
  obtain ⟨xC1, xC2, xC3, xC4⟩ := He.exc_ok (c.t.d.fact 62 (f := .exc "NoCopy") rfl)
  have NF : ExcCl K mg "NoForms" _ := ⟨xF1, gF, xF2, xF3, xF4, He.exm_ok (c.t.d.fact 63 (f := .exm "NoForms" "NoForms" true) rfl)⟩
  have ND : ExcCl K mg "NoDraft" _ := ⟨xD1, gD, xD2, xD3, xD4, He.exm_ok (c.t.d.fact 64 (f := .exm "NoDraft" "NoDraft" true) rfl)⟩
  have NC : ExcCl K mg "NoCopy" _ := ⟨xC1, gC, xC2, xC3, xC4, He.exm_ok (c.t.d.fact 65 (f := .exm "NoCopy" "NoCopy" true) rfl)⟩
  have M : ExmT K _ _ _ := ⟨He.exm_ok (c.t.d.fact 63 (f := .exm "NoForms" "NoForms" true) rfl), He.exm_ok (c.t.d.fact 66 (f := .exm "NoDraft" "NoForms" false) rfl), He.exm_ok (c.t.d.fact 64 (f := .exm "NoDraft" "NoDraft" true) rfl), He.exm_ok (c.t.d.fact 67 (f := .exm "NoCopy" "NoForms" false) rfl), He.exm_ok (c.t.d.fact 68 (f := .exm "NoCopy" "NoDraft" false) rfl), He.exm_ok (c.t.d.fact 65 (f := .exm "NoCopy" "NoCopy" true) rfl)⟩
  have t0 : (("_law_right", none) : He.Defn) ∈ tfAll := by unfold tfAll; simp only [List.mem_cons, true_or, or_true]
  have mT : ∀ {p : Addr × Str}, p ∈ ([((He.cT K ("_law_right", none)).2, qRight)] : List (Addr × Str)) ↔ p = ((He.cT K ("_law_right", none)).2, qRight) := by
    intro p
    simp only [List.mem_cons, List.not_mem_nil, or_false]
  refine ⟨d36, tfAll.map (He.cT K), spLaw K ([((He.cT K ("_law_right", none)).2, qRight)] : List (Addr × Str)), fun p hp => ?_, fun p hp => ?_, fun p hp => ?_, fun s v => b s [v] rfl, fun H a ns hl _ hH hS => ?_, fun base hK hG hTB => ?_⟩
  · obtain ⟨q, hq, rfl⟩ := List.mem_map.mp hp
    exact c.empty q hq
  · obtain ⟨q, hq, rfl⟩ := List.mem_map.mp hp
    exact c.out q hq
  · obtain ⟨q, hq, rfl⟩ := List.mem_map.mp hp
    exact PySem.W.codeHd_of_K X (c.hd q hq)
  · refine ⟨a, ns, rfl, hS, hl, fun p hp => ?_, fun _ => rfl⟩
    rcases mT.mp hp with rfl
    exact TabS.nil (hH _ (List.mem_map.mpr ⟨_, t0, rfl⟩))
  · have tb0 := hTB _ (List.mem_map.mpr ⟨_, t0, rfl⟩)
    have u0 : ∀ p ∈ ([((He.cT K ("_law_right", none)).2, qRight)] : List (Addr × Str)), p.1 = (He.cT K ("_law_right", none)).2 → p.2 = qRight := fun p hp e => by
      rcases mT.mp hp with rfl
      rfl
    let cDr : ∀ k, CDrP l.prog w K mg base (k + 1) := fun k => D2.call (ok_draw D2.F)
    let cIw : CallOk l.prog w K mg base 10 "is_word" _ _ := D10.call (ok_IsWord (k := 9) D10.F m_isinstance m_str m_len m_all i_LONGEST_WORD)
    let cRt : CallOk l.prog w K mg base 10 "is_rising" _ spRisT := D9.call (ok_RisT (k := 9) D9.F m_zip m_all)
    let cRl : CallOk l.prog w K mg base 10 "is_rising" _ spRisL := D9.call (ok_RisL (k := 9) D9.F m_zip m_all)
    let cAw : CallOk l.prog w K mg base 11 "are_words" _ _ := D11.call (ok_AreWords (k := 10) D11.F cIw m_isinstance m_tuple m_len m_all)
    let cAf : CallOk l.prog w K mg base 12 "are_fulls" _ _ := D12.call (ok_AreFulls (k := 11) D12.F cAw (cRt.mono (by decide)) m_isinstance m_tuple m_len m_all i_MOST_FULLS i_MOST_FULL_WORDS)
    let cIf : CallOk l.prog w K mg base 13 "is_form" _ _ := D13.call (ok_IsForm (k := 12) D13.F (cIw.mono (by decide)) cAf m_isinstance m_tuple m_len)
    let cFs : CallOk l.prog w K mg base 14 "are_forms" _ _ := D14.call (ok_AreForms (k := 13) D14.F cIf (cRl.mono (by decide)) m_isinstance m_tuple m_len m_all i_MOST_FORMS)
    let xCk := D15.callX (okX_CheckT (k := 14) D15.F NF ND NC cFs (cAw.mono (by decide)) i_MOST_DRAFT_WORDS i_MOST_COPY_WORDS)
    let cFo : CallOk l.prog w K mg base 15 "fulls_of" _ _ := D16.call (ok_FullsOf (k := 14) D16.F)
    let cCb : CallOk l.prog w K mg base 15 "counts_behind" _ _ := D17.call (ok_CountsB (k := 14) D17.F m_len m_enumerate)
    let xCo := D18.callX (okX_CountsOf (k := 15) D18.F xCk cFo cCb m_len)
    let xRe := D23.callX (okX_ReachesOf (k := 16) D23.F xCo m_tuple m_enumerate)
    let cWo : CallOk l.prog w K mg base 10 "_law_word" _ _ := D3.call (ok_LWord (k := 9) D3.F (cDr 8) m_range)
    let cLf : CallOk l.prog w K mg base 11 "_law_forms" _ _ := D4.call (ok_LForms (k := 10) D4.F (cDr 9) cWo m_range m_tuple m_set m_sorted)
    let cLd : CallOk l.prog w K mg base 10 "_law_draft" _ _ := D5.call (ok_LDraft (k := 9) D5.F (cDr 8) m_range m_len m_tuple)
    let cLu : CallOk l.prog w K mg base 10 "_law_fulls" _ _ := D6.call (ok_LFulls (k := 9) D6.F)
    let cLs : CallOk l.prog w K mg base 11 "_law_said" _ _ := D7.call (ok_LSaid (k := 10) D7.F cLu (cDr 9) m_len)
    let cLc : CallOk l.prog w K mg base 12 "_law_copy" _ _ := D8.call (ok_LCopy (k := 11) D8.F cLs (cDr 10) (cWo.mono (by decide)) m_len)
    let xWm := D20.callX (okX_WaysM (k := 16) D20.F xCo)
    let xSy := D19.callX (okX_Says (k := 17) D19.F xWm)
    let xPa := D24.callX (okX_PartsAt (k := 18) D24.F xSy (xRe.mono (by decide)).g0 m_len)
    let cWb : CallOk l.prog w K mg base 15 "ways_behind" _ _ := D21.call (ok_WaysB (k := 14) D21.F m_enumerate m_len m_min)
    let xFw := D22.callX (okX_FirstWay (k := 15) D22.F xCk cFo cWb m_len)
    let cWh : CallOk l.prog w K mg base 10 "is_whole" _ _ := D25.call (ok_IsWhole (k := 9) D25.F m_isinstance m_int m_bool)
    let cIr : CallOk l.prog w K mg base 11 "is_reach" _ _ := D26.call (ok_IsReach (k := 10) D26.F cWh m_isinstance m_tuple m_all)
    let xRh := D27.callX (okX_ReachesHold (k := 17) D27.F xRe (cIr.mono (by decide)) m_isinstance m_list m_len m_zip m_all)
    let cTh3 : CallOk l.prog w K mg base 14 "_law_thing" _ (spLThing 3) := D28.call (ok_LThing (k := 10) D28 (fun n => (cDr (9 + n)).mono (by omega)) m_range m_tuple 3)
    let cTh4 : CallOk l.prog w K mg base 15 "_law_thing" _ (spLThing 4) := D28.call (ok_LThing (k := 10) D28 (fun n => (cDr (9 + n)).mono (by omega)) m_range m_tuple 4)
    let cSp : CallOk l.prog w K mg base 20 "_law_spoilt" _ (spLSpoilt 5) := D29.call (ok_LSpoilt (k := 14) D29 (fun n => (cDr (13 + n)).mono (by omega)) (fun n => cTh3.mono (by omega)) m_isinstance m_tuple m_len m_list m_int m_str 5)
    let cLi : CallOk l.prog w K mg base 10 "_law_is_word" _ _ := D30.call (ok_LIsWord (k := 9) D30.F m_isinstance m_str m_len)
    let cLa : CallOk l.prog w K mg base 11 "_law_are_words" _ _ := D31.call (ok_LAreWords (k := 10) D31.F cLi m_isinstance m_tuple m_len)
    let cLo : CallOk l.prog w K mg base 12 "_law_are_forms" _ _ := D32.call (ok_LAreForms (k := 11) D32.F (cLi.mono (by decide)) cLa m_isinstance m_tuple m_len m_list m_set m_sorted)
    let cRi : CallOk l.prog w K mg base 33 "_law_right" _ _ := D34.call (ok_LRight (k := 30) F34 (codeAt F34) tb0 (mT.mpr rfl) u0 M D33 gF gD gC (cLa.mono (by decide)) (cLo.mono (by decide)) (xSy.mono (by decide)) (xWm.mono (by decide)) (xFw.mono (by decide)) (xRe.mono (by decide)) (xRh.mono (by decide)) (xPa.mono (by decide)))
    let cBf : CallOk l.prog w K mg base 10 "_law_bad_forms" _ _ := D35.call (ok_LBadForms (k := 9) D35.F m_tuple)
    exact ok_law (k := 40) F36 (D0.call (ok_cell D0.F m_len)) (D1.call (ok_pen D1.F m_int)) (cLf.mono (by decide)) (cLd.mono (by decide)) (cLc.mono (by decide)) (cSp.mono (by decide)) (cTh4.mono (by decide)) (cDr 39) (cRi.mono (by decide)) (cBf.mono (by decide)) m_range
end Deed
open PySem PySem.W PySem.Calls PyProof.Rows
theorem PySem.Challenge.cw_deedsheaf_k53_forms_drafts_and_copies_re_holds : PySem.Challenge.rw_deedsheaf_k53_forms_drafts_and_copies_re.Holds := by
  w_on; o_law
  refine HandSHeadRun.head_any (r := OpenLaw.row PySem.Challenge.rw_deedsheaf_k53_forms_drafts_and_copies_re) (q := view (OpenLaw.row PySem.Challenge.rw_deedsheaf_k53_forms_drafts_and_copies_re).prog [50]) (H := Deed.hk) (ob := Deed.ob) (M := 12000) (loose := Deed.looseAll) (d := HandSHeadRun.topDef (OpenLaw.row PySem.Challenge.rw_deedsheaf_k53_forms_drafts_and_copies_re).prog 50) (kwd := []) Deed.ob_eq
    (by kernel_rfl) (fun s => by kernel_rfl) Deed.run (by kernel_rfl) (by kernel_rfl) (by kernel_rfl) (by rfl) (by first | assumption | decide +kernel) (by decide +kernel) ⟨rfl, rfl, rfl, rfl, rfl, by decide +kernel⟩ ?hw ?hc
  case hw => w_witness2
  case hc =>
    refine LamX.walk_ofTsE (l := PySem.Challenge.rw_deedsheaf_k53_forms_drafts_and_copies_re) (n := 63) (k := 41) (x := "_law_script") (CX := fun _ => L2.CX0) rfl (by decide) (by kernel_rfl) ⟨rfl, by decide, by decide⟩ ?F (fun _ _ _ _ _ z => z)
    intro w mg fa h Y G hmg0
    obtain ⟨K, KX, c⟩ := Y
    have hmg : mg ("law" : PySem.Str) = some (.ref fa) := by
      have e : (HandSHeadRun.topDef (OpenLaw.row PySem.Challenge.rw_deedsheaf_k53_forms_drafts_and_copies_re).prog 50).name = ("law" : PySem.Str) := by kernel_rfl
      rw [← e]
      exact hmg0
    exact ⟨K, KX, Deed.facts KX G hmg c⟩
