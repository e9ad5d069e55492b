import PyProof.Rows.All
import Wide.All
import OpenK.AllK
import Wide.FinOn
import KE.SortKeyHeap
import KE.KLam
import HandS.ForMost
import HandS.ForExc
import HandS.Flow
import HandS.Style
import HandS.SortInts
import HandS.SortKw
import HandS.TupAny
import HandS.TupMul
import HandS.Lambda
import HandS.EndTab
import HandS.Head2
import HandS.HeadEnd
import HandS.HeadHook4
import HandS.HeadWalk
import HandS.Walk
import HandS.IsInst
import HandS.Defaults
import HandS.More
import HandS.DictComp
import HandS.ListItems
import HandS.SetFor
import HandS.Strs
import HandS.Zip
import HandS.TupSets
import KE.SortData
import KE.GoesMore
import HandS.Conv
import HandS.WordsDict
import HandS.MakeKw
import HandS.Codes
import KE.KIndexOf
import PySem.Challenge.RW_deedsheaf_k17_whys_looked_at
set_option Elab.async false
set_option linter.all false
set_option maxRecDepth 100000
set_option maxHeartbeats 0
set_option pp.maxSteps 1200

namespace PySem.SeqAt
open AutoSeq1 (wpAny_loadPart')
open MeetsSeq
/-! ### a dict and a text are never equal -/
theorem dict_eq_declines_str (l : Addr) (es : Array DictEntry) (ep : Nat) (dd : Option Addr) (sl : Array (Option Value)) (b : Str) (u : Tok) :
    Meets (Builtin.«dict.__eq__» ⟨[.ref l, .str b u], []⟩) (fun _ R s => s.heap.get? l = some { cls := .type "dict", dict := dd, data := .dict es ep, slots := sl } ∧ R (.ok (.ret .notImplemented)) s) :=
  .of_wp fun prog w A R s h => by obtain ⟨hp, g, d, tk, os⟩ := s; obtain ⟨hl, h⟩ := h; have f1 := F.sub_str_dict; wp_walk using wpAny_loadPart' hl; exact ⟨_, rfl, h⟩
theorem str_eq_declines_dict (b : Str) (u : Tok) (l : Addr) (c : Value) (es : Array DictEntry) (ep : Nat) (dd : Option Addr) (sl : Array (Option Value)) :
    Meets (Builtin.«str.__eq__» ⟨[.str b u, .ref l], []⟩) (fun _ R s => s.heap.get? l = some { cls := c, dict := dd, data := .dict es ep, slots := sl } ∧ R (.ok (.ret .notImplemented)) s) :=
  .of_wp fun prog w A R s h => by obtain ⟨hp, g, d, tk, os⟩ := s; obtain ⟨hl, h⟩ := h; wp_walk using wpAny_loadPart' hl, wpAny_load hl; exact ⟨_, rfl, h⟩
section
variable {M : Model} {A : Around} {E : Value → Shared → Prop} {s : Shared}
theorem RcAt.dict_str {l : Addr} {o : Obj} {es : Array DictEntry} {ep : Nat} (b : Str) (u : Tok) (ho : s.heap.get? l = some o) (hc : o.cls = .type "dict") (hd : o.data = .dict es ep) (hu : A.units < cLine) : RcAt A s (.ref l) (.str b u) false := fun prog w E Q h => by
  obtain ⟨cls, dd, data, sl⟩ := o
  simp only at hc hd
  subst hc hd
  exact rc_eq_decline_or (k := false) ⟨_, ho, rfl⟩ (typeIs_str s b u) (by decide) F.sub_str_dict F.slot_dict_eq F.slot_str_eq_refl
    (fun _ hq => call_meets F.slot_dict_eq ⟨_, ho, rfl⟩ F.entry_dict_eq (F.args_dict_eq_2 _ _) (dict_eq_declines_str l es ep dd sl b u) ⟨ho, hq⟩)
    (fun _ hq => call_meets F.slot_str_eq_refl (typeIs_str s b u) F.entry_str_eq (F.args_str_eq_2 _ _) (str_eq_declines_dict b u l (.type "dict") es ep dd sl) ⟨ho, hq⟩)
    (fun _ hq => wpAny_of_eq (rfl : isSame (.ref l) (.str b u) = pure false) hq) (.inr hu) h
theorem RcAt.str_dict {l : Addr} {o : Obj} {es : Array DictEntry} {ep : Nat} (b : Str) (u : Tok) (ho : s.heap.get? l = some o) (hc : o.cls = .type "dict") (hd : o.data = .dict es ep) (hu : A.units < cLine) : RcAt A s (.str b u) (.ref l) false := fun prog w E Q h => by
  obtain ⟨cls, dd, data, sl⟩ := o
  simp only at hc hd
  subst hc hd
  exact rc_eq_decline_or (k := false) (typeIs_str s b u) ⟨_, ho, rfl⟩ (by decide) F.sub_dict_str F.slot_str_eq F.slot_dict_eq_refl
    (fun _ hq => call_meets F.slot_str_eq (typeIs_str s b u) F.entry_str_eq (F.args_str_eq_2 _ _) (str_eq_declines_dict b u l (.type "dict") es ep dd sl) ⟨ho, hq⟩)
    (fun _ hq => call_meets F.slot_dict_eq_refl ⟨_, ho, rfl⟩ F.entry_dict_eq (F.args_dict_eq_2 _ _) (dict_eq_declines_str l es ep dd sl b u) ⟨ho, hq⟩)
    (fun _ hq => wpAny_of_eq (rfl : isSame (.str b u) (.ref l) = pure false) hq) (.inr hu) h
theorem EqAt.str_dict {l : Addr} {o : Obj} {es : Array DictEntry} {ep : Nat} (b : Str) (u : Tok) (ho : s.heap.get? l = some o) (hc : o.cls = .type "dict") (hd : o.data = .dict es ep) (hu : A.units < cLine) : EqAt A s (.str b u) (.ref l) false := fun prog w E Q h => by
  unfold eqBool
  refine wpAny_holding ?_
  refine wpAny_ite_split (fun hab => absurd (eq_of_beq hab) nofun) (fun _ => ?_)
  exact wpAny_bind (RcAt.str_dict b u ho hc hd hu prog w E _ (wpAny_truthy_bool h))
theorem int___gt___bool_int_0 (a : Bool) (b : Int) (u : Tok) : Gives (Builtin.«int.__gt__» ⟨[.bool a, .int b u], []⟩) (.val (Value.bool (decide ((if a = true then (1 : Int) else 0) > b)))) :=
  .of_wp fun M A E s Q h => by obtain ⟨hp, g, d, tk, os⟩ := s; wp_walk; exact ⟨_, rfl, h⟩
theorem gt_bool_int {prog : Program} {w : World} {a : Bool} {b : Int} {u : Tok} {Q : Value → Shared → Prop} (h : Q (.bool (decide ((if a = true then (1 : Int) else 0) > b))) s) : wpAny (model prog w) A (compareOp .Gt (.bool a) (.int b u)) Q E s :=
  rc_left_or (op := .Gt) rfl (typeIs_int s b u) (by decide) F.sub_int_bool F.slot_bool_gt
    (call_gives F.slot_bool_gt rfl F.entry_int_gt (F.args_int_gt_2 _ _) (int___gt___bool_int_0 a b u) ⟨nofun, h⟩) (.inl rfl)
end
end PySem.SeqAt
namespace Deed
open PySem PySem.Spec PyProof.Rows L2
/-! ### things of whatever kind -/
inductive Knd (H : Hp) : V → Prop
  | non : Knd H .non
  | bl (b : Bool) : Knd H (.bl b)
  | int (i : Int) : Knd H (.int i)
  | str (x : Str) : Knd H (.str x)
  | lst {a : Addr} {xs : List V} : H a = some (.lst xs) → Knd H (.ref a)
  | tup {a : Addr} {xs : List V} : H a = some (.tup xs) → Knd H (.ref a)
  | dct {a : Addr} {kvs : List (Key × V)} : H a = some (.dK kvs) → Knd H (.ref a)
section
variable {X : Cx}
/-- thing == text -/
def rEqTS : R2 := fun x y H Q => ∃ z, y = .str z ∧ Knd H x ∧ Q (.bl (decide (x = .str z))) H
theorem dct_at {pins : List (Addr × Obj)} {σ : L2.St} {H : Hp} {s : Shared} (I : Inv X pins σ H s) {a : Addr} {kvs : List (Key × V)} (e : H a = some (.dK kvs)) : ∃ (o : Obj) (es : Array DictEntry) (ep : Nat), s.heap.get? a = some o ∧ o.cls = .type "dict" ∧ o.data = .dict es ep := by
  obtain ⟨_, _, vs, _, o, es, ep, ho, hx, hd, _⟩ := I.hok a _ e
  exact ⟨o, es, ep, ho, hx.1, hd⟩
theorem op_eqTS (hu : X.A.units + 64 < cLine) : OpR X (compareOp .Eq) rEqTS := by
  intro pins s σ H x y v u Q I rx ry h
  obtain ⟨z, rfl, hk, q⟩ := h
  have hu' : X.A.units < cLine := by omega
  obtain ⟨t', rfl⟩ := ry
  cases hk with
  | non => cases rx; exact SeqAt.RcAt.none_str z t' X.prog X.w _ _ ⟨.bl false, H, I, rfl, q⟩
  | bl b => cases rx; exact SeqAt.RcAt.bool_str b z t' X.prog X.w _ _ ⟨.bl false, H, I, rfl, q⟩
  | int i => obtain ⟨t, rfl⟩ := rx; exact SeqAt.RcAt.int_str i t z t' X.prog X.w _ _ ⟨.bl false, H, I, rfl, q⟩
  | str i =>
    exact op_eq pins s σ H _ (.str z) _ _ Q I rx ⟨t', rfl⟩ ⟨rfl, q⟩
  | lst e =>
    cases rx
    obtain ⟨its, r, pl, hz⟩ := I.list (SqL.of (K := X.K) e)
    exact SeqAt.RcAt.list_str z t' pl.isList hu' X.prog X.w _ _ ⟨.bl false, H, I, rfl, q⟩
  | tup e =>
    cases rx
    obtain ⟨its, r, pl, hz⟩ := I.tuple (SqT.of (K := X.K) e)
    exact SeqAt.RcAt.tuple_str z t' pl hu' X.prog X.w _ _ ⟨.bl false, H, I, rfl, q⟩
  | dct e =>
    cases rx
    obtain ⟨o, es, ep, ho, hc, hd⟩ := dct_at I e
    exact SeqAt.RcAt.dict_str z t' ho hc hd hu' X.prog X.w _ _ ⟨.bl false, H, I, rfl, q⟩
/-- thing in, or not in, a list or tuple of texts -/
def rInTS (K : PySem.W.Frag) (neg : Bool) : R2 := fun x y H Q => ∃ (p : Addr) (ws : List Str), y = .ref p ∧ (SqL K H p (ws.map V.str) ∨ SqT K H p (ws.map V.str)) ∧ Knd H x ∧ Q (.bl (if neg then !decide (x ∈ ws.map V.str) else decide (x ∈ ws.map V.str))) H
def eqTS (x : V) : Value → Bool
  | .str z _ => decide (x = .str z)
  | _ => false
theorem eqTS_at {pins : List (Addr × Obj)} {σ : L2.St} {H : Hp} {s : Shared} {A : Around} (I : Inv X pins σ H s) (hu : A.units < cLine) {x : V} {v : Value} (rx : RelV x v) (hk : Knd H x) {ws : List Str} {its : List Value} (r : Vals (ws.map V.str) its) : ∀ y ∈ its, SeqAt.EqAt A s y v (eqTS x y) := by
  intro y hy
  have hs : ∃ z t, y = .str z t := by
    clear hk rx
    induction its generalizing ws with
    | nil => cases hy
    | cons a r' ih =>
      cases ws with
      | nil => cases r
      | cons z zs =>
        cases r with
        | cons h1 h2 =>
          rcases List.mem_cons.mp hy with rfl | hy
          · obtain ⟨t, rfl⟩ := h1
            exact ⟨z, t, rfl⟩
          · exact ih h2 hy
  obtain ⟨z, t, rfl⟩ := hs
  cases hk with
  | non => cases rx; exact SeqAt.EqAt.str_none z t
  | bl b => cases rx; exact SeqAt.EqAt.str_bool z t b
  | int i => obtain ⟨t', rfl⟩ := rx; exact SeqAt.EqAt.str_int z t i t'
  | str i =>
    obtain ⟨t', rfl⟩ := rx
    have := SeqAt.EqAt.str_str (A := A) (s := s) z t i t'
    rw [show eqTS (.str i) (.str z t) = (z == i) from ?_]
    · exact this
    · show decide (V.str i = V.str z) = (z == i)
      by_cases e : i = z
      · subst e
        simp
      · rw [decide_eq_false (fun q => e (by injection q))]
        exact (beq_eq_false_iff_ne.mpr fun q => e q.symm).symm
  | lst e =>
    cases rx
    obtain ⟨its, r, pl, hz⟩ := I.list (SqL.of (K := X.K) e)
    exact SeqAt.EqAt.str_list z t pl.isList hu
  | tup e =>
    cases rx
    obtain ⟨its, r, pl, hz⟩ := I.tuple (SqT.of (K := X.K) e)
    exact SeqAt.EqAt.str_tuple z t pl hu
  | dct e =>
    cases rx
    obtain ⟨o, es, ep, ho, hc, hd⟩ := dct_at I e
    exact SeqAt.EqAt.str_dict z t ho hc hd hu
theorem any_eqTS {x : V} : ∀ {ws : List Str} {its : List Value}, Vals (ws.map V.str) its → its.any (eqTS x) = decide (x ∈ ws.map V.str)
  | [], _, r => by
    cases r
    simp
  | z :: zs, _, r => by
    cases r with
    | cons h1 h2 =>
      obtain ⟨t, rfl⟩ := h1
      rw [List.any_cons, any_eqTS h2, List.map_cons]
      show (decide (x = .str z) || _) = _
      rw [← Bool.decide_or]
      simp only [List.mem_cons]
theorem op_inTS (hu : X.A.units + 64 < cLine) : OpR X (compareOp .In) (rInTS X.K false) := by
  intro pins s σ H x y v u Q I rx ry h
  obtain ⟨p, ws, rfl, hq, hk, q⟩ := h
  cases ry
  have hu' : X.A.in1.units < cLine := by show X.A.units + 1 < cLine; omega
  rcases hq with hq | hq
  · obtain ⟨its, r, pl, hz⟩ := I.list hq
    refine SeqAt.in_listAt (eqTS x) pl.isList (fun w hw => eqTS_at I hu' rx hk r w (by simpa using hw)) ⟨.bl _, H, I, rfl, ?_⟩
    rw [show its.toArray.any (eqTS x) = its.any (eqTS x) by simp, any_eqTS r]
    exact q
  · obtain ⟨its, r, pl, hz⟩ := I.tuple hq
    refine SeqAt.in_tupleAt (eqTS x) pl (fun w hw => eqTS_at I hu' rx hk r w (by simpa using hw)) ⟨.bl _, H, I, rfl, ?_⟩
    rw [show its.toArray.any (eqTS x) = its.any (eqTS x) by simp, any_eqTS r]
    exact q
theorem op_notInTS (hu : X.A.units + 64 < cLine) : OpR X (compareOp .NotIn) (rInTS X.K true) := by
  intro pins s σ H x y v u Q I rx ry h
  obtain ⟨p, ws, rfl, hq, hk, q⟩ := h
  cases ry
  have hu' : X.A.in1.units < cLine := by show X.A.units + 1 < cLine; omega
  rcases hq with hq | hq
  · obtain ⟨its, r, pl, hz⟩ := I.list hq
    refine SeqAt.notIn_listAt (eqTS x) pl.isList (fun w hw => eqTS_at I hu' rx hk r w (by simpa using hw)) ⟨.bl _, H, I, rfl, ?_⟩
    rw [show its.toArray.any (eqTS x) = its.any (eqTS x) by simp, any_eqTS r]
    exact q
  · obtain ⟨its, r, pl, hz⟩ := I.tuple hq
    refine SeqAt.notIn_tupleAt (eqTS x) pl (fun w hw => eqTS_at I hu' rx hk r w (by simpa using hw)) ⟨.bl _, H, I, rfl, ?_⟩
    rw [show its.toArray.any (eqTS x) = its.any (eqTS x) by simp, any_eqTS r]
    exact q
/-- tuple != () -/
def rNeTE (K : PySem.W.Frag) : R2 := fun x y H Q => ∃ a b xs, x = .ref a ∧ y = .ref b ∧ SqT K H a xs ∧ SqT K H b [] ∧ Q (.bl (!xs.isEmpty)) H
theorem op_neTE (hu : X.A.units + 64 < cLine) : OpR X (compareOp .NotEq) (rNeTE X.K) := by
  intro pins s σ H x y v u Q I rx ry h
  obtain ⟨a, b, xs, rfl, rfl, ha, hb, q⟩ := h
  cases rx
  cases ry
  obtain ⟨its, r, pl, hz⟩ := I.tuple ha
  obtain ⟨its2, r2, pl2, hz2⟩ := I.tuple hb
  cases r2
  have hl := r.length
  refine SeqAt.RcNeAt.tuples (e := fun _ => true) pl pl2 (by omega) (fun j h1 h2 => absurd h2 (by simp)) X.prog X.w _ _ ⟨.bl _, H, I, rfl, ?_⟩
  have e : (!((List.range (min its.toArray.size ([] : List Value).toArray.size)).all (fun _ => true) && its.toArray.size == ([] : List Value).toArray.size)) = !xs.isEmpty := by
    cases xs with
    | nil =>
      have : its = [] := List.eq_nil_of_length_eq_zero (by rw [← hl]; rfl)
      subst this
      rfl
    | cons x xs =>
      cases its with
      | nil => simp at hl
      | cons i is => simp
  rw [e]
  exact q
/-- thing + number, thing - number, thing > number, of numbers and truths -/
def b2n (b : Bool) : Int := if b = true then 1 else 0
def numOf : V → Option Int
  | .int i => some i
  | .bl b => some (b2n b)
  | _ => none
theorem op_addTI : OpR X (binaryOp .Add) (fun x y H Q => ∃ i j, numOf x = some i ∧ y = .int j ∧ Q (.int (i + j)) H) := by
  intro pins s σ H x y v u Q I rx ry h
  obtain ⟨i, j, hx, rfl, q⟩ := h
  obtain ⟨t', rfl⟩ := ry
  cases x with
  | int k =>
    obtain ⟨t, rfl⟩ := rx
    injection hx with hx
    subst hx
    exact add_int ⟨.int _, H, I.tok _, ⟨_, rfl⟩, q⟩
  | bl k =>
    cases rx
    injection hx with hx
    subst hx
    exact PySem.IntBool.add_bool_int ⟨.int _, H, I.tok _, ⟨_, rfl⟩, q⟩
  | _ => cases hx
theorem op_subTI : OpR X (binaryOp .Sub) (fun x y H Q => ∃ i j, numOf x = some i ∧ y = .int j ∧ Q (.int (i - j)) H) := by
  intro pins s σ H x y v u Q I rx ry h
  obtain ⟨i, j, hx, rfl, q⟩ := h
  obtain ⟨t', rfl⟩ := ry
  cases x with
  | int k =>
    obtain ⟨t, rfl⟩ := rx
    injection hx with hx
    subst hx
    exact sub_int ⟨.int _, H, I.tok _, ⟨_, rfl⟩, q⟩
  | bl k =>
    cases rx
    injection hx with hx
    subst hx
    exact PySem.IntBool.sub_bool_int ⟨.int _, H, I.tok _, ⟨_, rfl⟩, q⟩
  | _ => cases hx
theorem op_gtTI : OpR X (compareOp .Gt) (fun x y H Q => ∃ i j, numOf x = some i ∧ y = .int j ∧ Q (.bl (decide (i > j))) H) := by
  intro pins s σ H x y v u Q I rx ry h
  obtain ⟨i, j, hx, rfl, q⟩ := h
  cases x with
  | int k =>
    injection hx with hx
    subst hx
    exact op_gt pins s σ H _ _ _ _ Q I rx ry ⟨_, _, rfl, rfl, q⟩
  | bl k =>
    obtain ⟨t', rfl⟩ := ry
    cases rx
    injection hx with hx
    subst hx
    exact SeqAt.gt_bool_int ⟨.bl _, H, I, rfl, q⟩
  | _ => cases hx
theorem str_of_bool {prog : Program} {w : World} {A : Around} {E : Value → Shared → Prop} {s : Shared} {b : Bool} {Q : Value → Shared → Prop} (h : Q (.str (if b then "True" else "False") s.toks) { s with toks := s.toks + 1 }) : wpAny (model prog w) A (call (.type "str") [.bool b]) Q E s :=
  callType_new F.called_str (by decide) (F.typeCall_str_1 _) (F.newCall_str_1 _) (fun obj => F.args_object_init_2 obj _) F.entry_str_new
    (meets_str_new (S := fun _ R s => R (.ok (.ret (.str (if b then "True" else "False") s.toks))) { s with toks := s.toks + 1 }) fun _ _ _ _ s hq =>
      wpAny_strOf_gives rfl (PySem.typeIs_bool s b) F.slot_bool_str F.slot_bool_repr F.entry_bool_repr (F.args_bool_repr_1 _) (gives_bool_repr b) hq (hsz := by cases b <;> decide)) ⟨typeIs_str _ _ _, h⟩
def strTI : V → Int → Str
  | .bl b, _ => if b then "True" else "False"
  | _, i => toString i
/-- str(thing) of a number or a truth: some text -/
theorem call_strTI : CallR X (.type "str") (fun xs H Q => ∃ x i, xs = [x] ∧ numOf x = some i ∧ i.natAbs.log2 < 1920 ∧ Q (.str (strTI x i)) H) := by
  intro pins s σ H xs us Q I r h
  obtain ⟨x, i, rfl, hx, hz, q⟩ := h
  obtain ⟨u, rfl, rx⟩ := vals1 r
  cases x with
  | int k =>
    obtain ⟨t, rfl⟩ := rx
    injection hx with hx
    subst hx
    exact PySem.P.str_of_int hz ⟨.str _, H, I.tok _, ⟨_, rfl⟩, q⟩
  | bl k =>
    cases rx
    exact str_of_bool ⟨.str _, H, I.tok _, ⟨_, rfl⟩, q⟩
  | _ => cases hx
end
end Deed

namespace Deed
open PySem PySem.Spec PyProof.Rows L2
/-! ### t[::-1] of a tuple -/
theorem fm_congr {α β : Type} {f g : α → Option β} : ∀ {l : List α}, (∀ x ∈ l, f x = g x) → l.filterMap f = l.filterMap g
  | [], _ => rfl
  | a :: l, h => by rw [List.filterMap_cons, List.filterMap_cons, h a List.mem_cons_self, fm_congr fun x hx => h x (List.mem_cons_of_mem _ hx)]
section
variable {prog : Program} {w : World} {A : Around} {E : Value → Shared → Prop} {s : Shared}
theorem revPick (xs : Array Value) : ((List.range xs.size).filterMap fun (m : Nat) => xs[(((xs.size : Int) - 1) + (m : Int) * (-1)).toNat]?).toArray = xs.toList.reverse.toArray := by
  rw [← PySem.W.krv_pick]
  unfold slicePick
  rw [PySem.W.krv_bounds]
  show _ = ((sliceRange ((xs.size : Int) - 1) (-1) (-1)).filterMap (xs[·]?)).toArray
  rw [PySem.W.krv_sliceRange, List.filterMap_map]
  congr 1
  refine fm_congr fun m hm => ?_
  have := List.mem_range.mp hm
  show xs[(((xs.size : Int) - 1) + (m : Int) * (-1)).toNat]? = xs[xs.size - 1 - m]?
  congr 1
  omega
theorem sliceApplied_rev {sl : Addr} {vs : Value} {n : Nat} {Q : Int × Int × Nat → Shared → Prop} (hs : s.heap.IsSliceOf sl .none .none vs) (ps : IsPart vs (some (-1)))
    (h : Q ((n : Int) - 1, -1, n) s) : wpAny (model prog w) A (Builtin.Slice.sliceApplied (.ref sl) (pure (n : Int))) Q E s := by
  obtain ⟨os, hos, hcs, hds⟩ := id hs
  unfold Builtin.Slice.sliceApplied Builtin.Slice.sliceFields
  refine wpAny_bind (wpAny_bind (wpAny_field hos hds (x := .none) rfl (wpAny_bind (wpAny_field hos hds (x := .none) rfl (wpAny_bind (wpAny_field hos hds (x := vs) rfl (wpAny_pure ?_)))))))
  refine wpAny_bind (HT.slicePart_ ps ?_)
  show wpAny _ _ (if ((-1 : Int) == 0) = true then _ else _) _ _ s
  rw [if_neg (by decide)]
  refine wpAny_bind (HT.slicePart_ .none (wpAny_bind (HT.slicePart_ .none (wpAny_bind (wpAny_pure ?_)))))
  show wpAny _ _ (match Builtin.Slice.sliceAdjust none none (-1) (n : Int) with | (lo, hi) => pure (lo, (-1 : Int), Builtin.Slice.slicePlaces lo hi (-1))) _ _ s
  have e : Builtin.Slice.sliceAdjust none none (-1) (n : Int) = ((n : Int) - 1, -1) := by
    unfold Builtin.Slice.sliceAdjust
    simp
  rw [e]
  show wpAny _ _ (pure ((n : Int) - 1, (-1 : Int), Builtin.Slice.slicePlaces ((n : Int) - 1) (-1) (-1))) _ _ s
  have e2 : Builtin.Slice.slicePlaces ((n : Int) - 1) (-1) (-1) = n := by
    unfold Builtin.Slice.slicePlaces
    simp
    omega
  rw [e2]
  exact wpAny_pure h
theorem getItem_tuple_rev {t sl : Addr} {items : Array Value} {vs : Value} {Q : Value → Shared → Prop} (ht : IsTup s.heap t items) (hs : s.heap.IsSliceOf sl .none .none vs) (ps : IsPart vs (some (-1)))
    (h : Q (.ref s.heap.objs.size) { s with heap := s.heap.push { cls := .type "tuple", data := .seq items.toList.reverse.toArray } })
    (hsz : items.size ≤ sizeLine) : wpAny (model prog w) A (getItem (.ref t) (.ref sl)) Q E s := by
  have htake : sizeOk (.seq items.toList.reverse.toArray) := by
    show items.toList.reverse.toArray.size ≤ sizeLine
    rw [List.size_toArray, List.length_reverse, Array.length_toList]
    omega
  obtain ⟨os, hos, hcs, hds⟩ := id hs
  have hTs : s.TypeIs (.ref sl) "slice" := ⟨os, hos, hcs⟩
  unfold getItem
  try with_reducible refine wpAny_holding ?_
  first | refine wpAny_bind (wpAny_pure ?_) | skip
  refine wpAny_bind (wpAny_sequenceKey ht.typeIs (by decide) ?_)
  refine wpAny_bind (wpAny_callSpecial?_slot (name := Str.ofString "__getitem__") ht.typeIs PyProof.Rows.slot_tuple_getitem
    (wpAny_call_entry PyProof.Rows.slot_tuple_getitem ht.typeIs entry_tuple_getitem ?_ (args_tuple_getitem _ _)))
  show wpAny _ _ (Builtin.Tuple.tupleItemsOf (.ref t) >>= _) _ _ s
  refine wpAny_bind (tupleItemsOf_ ht ?_)
  refine wpAny_bind (wpAny_typeOf hTs ?_)
  rw [if_pos (by decide)]
  refine wpAny_bind (sliceApplied_rev hs ps ?_)
  have hno : ¬ ((((items.size : Int) - 1) == 0 && (-1 : Int) == 1 && items.size == items.size) = true) := by
    intro q
    rw [Bool.and_eq_true, Bool.and_eq_true] at q
    exact absurd q.1.2 (by decide)
  show wpAny _ _ (if (((items.size : Int) - 1) == 0 && (-1 : Int) == 1 && items.size == items.size) = true then _ else _) _ _ s
  rw [if_neg hno, revPick]
  first
    | exact wpAny_bind (m := Builtin.Tuple.tupleExact _) (wpAny_newObj_type (wpAny_pure ⟨_, rfl, wpAny_pure h⟩) htake)
    | exact wpAny_bind (m := Builtin.Tuple.tupleExact _) (wpAny_newObj_type (wpAny_bind (wpAny_pure (wpAny_pure ⟨_, rfl, wpAny_pure h⟩))) htake)
    | exact wpAny_bind (wpAny_bind (m := Builtin.Tuple.tupleExact _) (wpAny_newObj_type (wpAny_pure (wpAny_pure ⟨_, rfl, wpAny_pure h⟩)) htake))
    | exact wpAny_bind (wpAny_bind (m := Builtin.Tuple.tupleExact _) (wpAny_newObj_type (wpAny_pure ⟨_, rfl, wpAny_pure h⟩) htake))
end
section
variable {X : Cx}
def tRevT (K : PySem.W.Frag) (te : TE) : TE := fun σ H Q => te σ H fun x H1 => ∃ a xs, x = .ref a ∧ SqT K H1 a xs ∧ ∀ p, H1 p = none → Q (.ref p) (upd H1 p (.tup xs.reverse))
theorem pe_revT {e : Expr} {te : TE} {k : Nat} {p1 p2 p3 pos : Pos} (he : PE X e te) : PE X (.Subscript e (.Slice none none (some (.UnaryOp .USub (.Constant (.int 1) k p1) p2)) p3) pos) (tRevT X.K te) := by
  refine ⟨fun pins s σ H Q I h => ?_⟩
  refine Subscript_ (thn (he.run pins s σ H _ I h) fun v s1 ⟨x, H1, I1, r1, q1⟩ => ?_)
  obtain ⟨a, xs, ex, hx, q⟩ := q1
  subst ex
  cases r1
  have hst : PO X (some (.UnaryOp .USub (.Constant (.int 1) k p1) p2)) (tPart (tUn (rU fun i => .int (-i)) (tC (.int 1)))) := po_some (pe_un un_neg pe_int)
  refine wpAny_Slice (thn (po_none.run pins s1 σ H1 (fun o H2 => o = none ∧ H2 = H1) I1 ⟨rfl, rfl⟩) fun vl s2 ⟨l, H2, I2, pl, el, e2⟩ => ?_)
  subst el e2
  refine thn (po_none.run pins s2 σ H2 (fun o H3 => o = none ∧ H3 = H2) I2 ⟨rfl, rfl⟩) fun vu s3 ⟨u, H3, I3, pu, eu, e3⟩ => ?_
  subst eu e3
  refine thn (hst.run pins s3 σ H3 (fun o H4 => o = some (-1) ∧ H4 = H3) I3 ⟨1, rfl, -1, rfl, rfl, rfl⟩) fun vs s4 ⟨o, H4, I4, ps, eo, e4⟩ => ?_
  subst eo e4
  have I5 : Inv X pins σ H4 { s4 with heap := s4.heap.push { cls := .type "slice", data := .fields #[vl, vu, vs] } } := I4.kept (t' := s4.toks) fun b ob q => Heap.get?_push_of_some _ q
  obtain ⟨its, r, ht, hz⟩ := I5.tuple hx
  have hlen := r.length
  cases pl
  cases pu
  show wpAny (model X.prog X.w) X.A (subscriptTail e (.Slice none none (some (.UnaryOp .USub (.Constant (.int 1) k p1) p2)) p3) (.ref a) (.ref s4.heap.objs.size)) (EP X pins σ Q) X.xe { s4 with heap := s4.heap.push { cls := .type "slice", data := .fields #[.none, .none, vs] } }
  refine tail_any (ops := [.ref a, .ref s4.heap.objs.size]) ht.typeIs (PyProof.Rows.slot_tuple_getitem.lookup) ?_ (by with_unfolding_all rfl)
  refine getItem_tuple_rev ht (Heap.IsSliceOf.new _ .none .none vs) ps ?_ (by rw [List.size_toArray]; omega)
  refine ⟨.ref _, _, I5.laid (t' := s4.toks) (o := .tup xs.reverse) (fun b ob q => Heap.get?_push_of_some _ q) (Nat.le_refl _) ?_, rfl, q _ (I5.hok.fresh (Nat.le_refl _))⟩
  exact ⟨by rw [List.length_reverse]; exact hz, its.reverse, r.reverse, IsTup.new _ _⟩
end
end Deed

namespace Deed
open PySem PySem.Spec PyProof.Rows L2
def topS (i : Nat) : Stmt := PySem.Challenge.pw_deedsheaf_k17_whys_looked_at.main.body.getD i (.Pass ⟨0, 0, 0, 0⟩)
/-! ### heaps: all but the pen at p is as it was -/
def Kp (p : Addr) (H H' : Hp) : Prop := ∀ b o, b ≠ p → H b = some o → H' b = some o
theorem Kp.refl (p : Addr) (H : Hp) : Kp p H H := fun _ _ _ h => h
theorem Kp.trans {p : Addr} {H H1 H2 : Hp} (a : Kp p H H1) (b : Kp p H1 H2) : Kp p H H2 := fun c o n h => b c o n (a c o n h)
theorem Kp.new {p q : Addr} {H : Hp} (n : H q = none) (o : HO) : Kp p H (upd H q o) := fun b u _ e => by
  rw [upd_ne (ne_of_none e n)]
  exact e
theorem Kp.put {p : Addr} {H : Hp} (o : HO) : Kp p H (upd H p o) := fun b u n e => by
  rw [upd_ne n]
  exact e
theorem Kp.same {p : Addr} {H H' : Hp} (h : Same H H') : Kp p H H' := fun b o _ e => h b o e
/-- the pen: four whole numbers, the last one a rest -/
def PenAt (H : Hp) (p : Addr) : Prop := ∃ a f c e : Int, H p = some (.lst [.int a, .int f, .int c, .int e]) ∧ 0 ≤ e ∧ e < 1000000007
theorem PenAt.new {p q : Addr} {H : Hp} (h : PenAt H p) (n : H q = none) (o : HO) : PenAt (upd H q o) p := by
  obtain ⟨a, f, c, e, h1, h2⟩ := h
  refine ⟨a, f, c, e, ?_, h2⟩
  rw [upd_ne (ne_of_none h1 n)]
  exact h1
theorem PenAt.ne {p q : Addr} {H : Hp} {o : HO} (h : PenAt H p) (e : H q = some o) (no : ∀ xs, o ≠ .lst xs) : q ≠ p := fun z => by
  obtain ⟨a, f, c, e', h1, _⟩ := h
  rw [z, h1] at e
  exact no _ (Option.some.inj e).symm
theorem PenAt.free {p q : Addr} {H : Hp} (h : PenAt H p) (n : H q = none) : q ≠ p := fun z => by
  obtain ⟨a, f, c, e', h1, _⟩ := h
  rw [z, h1] at n
  cases n
section
variable {P : Program} {w : World} {K : PySem.W.Frag} {mg : Str → Option Value} {base : Heap}
/-! ### the script's cell -/
abbrev sCell : Stmt := topS 45
theorem scCell : FnScope ["_law_script", "_law_k"] ["_law_script", "_law_k"] (defScope sCell) := ⟨rfl, rfl, rfl, by decide +kernel, rfl, by decide +kernel, by decide +kernel⟩
def spCell (K : PySem.W.Frag) : Sp := fun vs H Q _ => ∃ (a : Addr) (ns : List Int) (k : Int), vs = [.ref a, .int k] ∧ SqL K H a (ns.map V.int) ∧ 0 ≤ k ∧ ∀ v : Int, Q (.int v) H
theorem ok_cell {f : Addr} {fd : FuncData} {k : Nat} (F : Fun K "_law_cell_at" "_law_cell_at" sCell f fd) (ml : mg "len" = none) : FnOk P w K mg base CX0 (k + 1) f fd ["_law_script", "_law_k"] (spCell K) := by
  refine F.ok scCell (fun vs H Q E h => ?_) (fun cdv A outer s H vs Q E hr h => ?_)
  · obtain ⟨a, ns, k, rfl, _⟩ := h
    rfl
  · obtain ⟨a, ns, k, rfl, hS, h0, q⟩ := h
    refine ⟨_, pss_cons (ps_if (pt_cmpR op_lt (pv 1) (pe_callB call_len_seq (by rfl) ml PySem.boot_len (pa_cons (pv 0) pa_nil)) (nomark _)) (pss_one (ps_ret (pe_ix ix_list (pv 0) (pv 1) (fun _ _ => rfl)))) pss_nil)
      (pss_one (ps_ret pe_int)), ?_⟩
    have hl : (ns.map V.int).length = ns.length := List.length_map _
    refine ⟨_, rfl, _, rfl, a, _, rfl, .inl hS, _, _, rfl, rfl, _, rfl, ?_⟩
    refine ite2 (fun c => ?_) (fun c => ?_)
    · have c' : k < (((ns.map V.int).length : Nat) : Int) := of_decide_eq_true c
      rw [hl] at c'
      have hk : k.toNat < ns.length := by omega
      have ek : k = ((k.toNat : Nat) : Int) := by omega
      refine ⟨_, rfl, _, rfl, a, _, _, .int ns[k.toNat], rfl, rfl, hS, ?_, q _⟩
      exact at_of ek (by rw [List.getElem?_map, List.getElem?_eq_getElem hk] <;> rfl)
    · exact q 0
/-! ### the pen -/
abbrev sPen : Stmt := topS 46
theorem scPen : FnScope ["_law_cell"] ["_law_cell"] (defScope sPen) := ⟨rfl, rfl, rfl, by decide +kernel, rfl, by decide +kernel, by decide +kernel⟩
def spPen : Sp := fun vs H Q _ => ∃ (c : Int), vs = [.int c] ∧ ∀ p H', Same H H' → H p = none → PenAt H' p → Q (.ref p) H'
theorem ok_pen {f : Addr} {fd : FuncData} {k : Nat} (F : Fun K "_law_pen" "_law_pen" sPen f fd) (mi : mg "int" = none) : FnOk P w K mg base CX0 (k + 1) f fd ["_law_cell"] spPen := by
  refine F.ok scPen (fun vs H Q E h => ?_) (fun cdv A outer s H vs Q E hr h => ?_)
  · obtain ⟨c, rfl, _⟩ := h
    rfl
  · obtain ⟨c, rfl, q⟩ := h
    refine ⟨_, pss_one (ps_ret (pe_lst (pa_cons (pv 0) (pa_cons (pe_callTy call_int1 (by rfl) mi (by decide +kernel) (pa_cons (pe_cmpR op_ge (pv 0) (pe_op op_pow pe_int pe_int) (nomark _)) pa_nil)) (pa_cons pe_int (pa_cons (pe_op op_mod (pv 0) pe_int) pa_nil)))))), ?_⟩
    refine ⟨_, rfl, _, rfl, _, _, rfl, rfl, ⟨by decide, by decide, by decide⟩, _, _, rfl, rfl, .inr ⟨_, rfl, ?_⟩⟩
    refine ⟨_, rfl, _, _, rfl, rfl, (by show (0 : Int) < 1000000007; decide), (by show 4 ≤ sizeLine; decide), fun p hp => ?_⟩
    refine q p _ (fun b o e => ?_) hp ⟨_, _, _, _, upd_same, Int.emod_nonneg _ (by decide), Int.emod_lt_of_pos _ (by decide)⟩
    rw [upd_ne (ne_of_none e hp)]
    exact e
/-! ### a draw -/
abbrev sDraw : Stmt := topS 47
theorem scDraw : FnScope ["_law_pen_here", "_law_bound", "_law_found", "_law_stir"] ["_law_pen_here", "_law_bound"] (defScope sDraw) := ⟨rfl, rfl, rfl, by decide +kernel, rfl, by decide +kernel, by decide +kernel⟩
def spDraw : Sp := fun vs H Q _ => ∃ (p : Addr) (b : Int), vs = [.ref p, .int b] ∧ PenAt H p ∧ 0 < b ∧ b < 1073741824 ∧ ∀ v H', Kp p H H' → PenAt H' p → 0 ≤ v → v < b → Q (.int v) H'
theorem ok_draw {f : Addr} {fd : FuncData} {k : Nat} (F : Fun K "_law_draw" "_law_draw" sDraw f fd) : FnOk P w K mg base CX0 (k + 1) f fd ["_law_pen_here", "_law_bound"] spDraw := by
  refine F.ok scDraw (fun vs H Q E h => ?_) (fun cdv A outer s H vs Q E hr h => ?_)
  · obtain ⟨p, b, rfl, _⟩ := h
    rfl
  · obtain ⟨p, b, rfl, ⟨x, y, c, e, hp, he0, he1⟩, hb0, hb1, q⟩ := h
    refine ⟨_, pss_cons (ps_if (PW.pt (pw_and (pt_cmpR op_eq (pe_ix ix_list (pv 0) pe_int (fun _ _ => rfl)) pe_int (nomark _)) (pw_and1 (pt_cmpR op_gt (pe_ix ix_list (pv 0) pe_int (fun _ _ => rfl)) pe_int (nomark _)))))
        (pss_cons (ps_set (i := 2) scDraw.nd rfl (.inl rfl) (pe_op op_mod (pe_ix ix_list (pv 0) pe_int (fun _ _ => rfl)) (pv 1)))
        (pss_cons (ps_asg (pe_op op_fdiv (pe_ix ix_list (pv 0) pe_int (fun _ _ => rfl)) (pv 1)) (pg_sub (pv 0) pe_int set_list))
        (pss_one (ps_ret (pv 2))))) pss_nil)
      (pss_cons (ps_asg (pe_op op_add (pe_ix ix_list (pv 0) pe_int (fun _ _ => rfl)) pe_int) (pg_sub (pv 0) pe_int set_list))
      (pss_cons (ps_set (i := 3) scDraw.nd rfl (.inl rfl) (pe_op op_mod (pe_op op_mul (pe_op op_add (pe_ix ix_list (pv 0) pe_int (fun _ _ => rfl)) pe_int) (pe_op op_add pe_int (pe_op op_mul pe_int (pe_ix ix_list (pv 0) pe_int (fun _ _ => rfl))))) pe_int))
      (pss_cons (ps_set (i := 3) scDraw.nd rfl (.inl rfl) (pe_op op_mod (pe_op op_add (pe_op op_add (pe_op op_mul (pv 3) (pv 3)) (pe_op op_mul pe_int (pe_ix ix_list (pv 0) pe_int (fun _ _ => rfl)))) pe_int) pe_int))
      (pss_one (ps_ret (pe_op op_mod (pe_op op_fdiv (pe_op op_mod (pe_op op_mul (pv 3) pe_int) pe_int) pe_int) (pv 1))))))), ?_⟩
    have i0 : ∀ u : V, ∀ r : List V, atI (u :: r) 0 = some u := fun u r => atI_nat (j := 0) rfl
    have i1 : ∀ u v : V, ∀ r : List V, atI (u :: v :: r) 1 = some v := fun u v r => atI_nat (j := 1) rfl
    have i2 : ∀ u v w : V, ∀ r : List V, atI (u :: v :: w :: r) 2 = some w := fun u v w r => atI_nat (j := 2) rfl
    have i3 : ∀ u v w z : V, ∀ r : List V, atI (u :: v :: w :: z :: r) 3 = some z := fun u v w z r => atI_nat (j := 3) rfl
    have hS : SqL K H p [.int x, .int y, .int c, .int e] := SqL.of hp
    refine ⟨_, rfl, p, _, _, _, rfl, rfl, hS, i1 _ _ _, rfl, _, rfl, ?_⟩
    refine ite2 (fun c1 => ?_) (fun c1 => ?slow1)
    refine ⟨_, rfl, p, _, _, _, rfl, rfl, hS, i0 _ _, _, _, rfl, rfl, _, rfl, ?_⟩
    refine ite2 (fun c2 => ?_) (fun c2 => ?slow2)
    · refine ⟨_, rfl, p, _, _, _, rfl, rfl, hS, i0 _ _, _, rfl, _, _, rfl, rfl, hb0, ?_⟩
      refine ⟨_, rfl, p, _, _, _, rfl, rfl, hS, i0 _ _, _, rfl, _, _, rfl, rfl, ⟨hb0, hb1⟩, _, rfl, p, _, 0, 0, rfl, rfl, hp, rfl, ?_⟩
      exact ⟨_, rfl, q _ _ (Kp.put _) ⟨_, _, _, _, upd_same, he0, he1⟩ (Int.emod_nonneg _ (by omega)) (Int.emod_lt_of_pos _ hb0)⟩
    all_goals
      refine ⟨_, rfl, p, _, _, _, rfl, rfl, hS, i2 _ _ _ _, _, _, rfl, rfl, _, rfl, p, _, 2, 2, rfl, rfl, hp, rfl, ?_⟩
      have hp1 : (upd H p (.lst [.int x, .int y, .int (c + 1), .int e])) p = some (.lst [.int x, .int y, .int (c + 1), .int e]) := upd_same
      have hS1 : SqL K (upd H p (.lst [.int x, .int y, .int (c + 1), .int e])) p [.int x, .int y, .int (c + 1), .int e] := SqL.of hp1
      refine ⟨_, rfl, p, _, _, _, rfl, rfl, hS1, i3 _ _ _ _ _, _, _, rfl, rfl, _, rfl, p, _, _, _, rfl, rfl, hS1, i2 _ _ _ _, _, _, rfl, rfl, .inl ⟨by decide, by decide⟩, _, _, rfl, rfl, _, _, rfl, rfl, .inl ⟨by omega, by omega⟩, _, _, rfl, rfl, (by show (0 : Int) < 2147483647; decide), ?_⟩
      have r1 := Int.emod_nonneg ((e + 17) * (69621 + 2 * (c + 1))) (b := 2147483647) (by decide)
      have r2 := Int.emod_lt_of_pos ((e + 17) * (69621 + 2 * (c + 1))) (b := 2147483647) (by decide)
      generalize (e + 17) * (69621 + 2 * (c + 1)) % 2147483647 = st at r1 r2
      refine ⟨_, rfl, _, rfl, _, _, rfl, rfl, .inl ⟨by omega, by omega⟩, _, rfl, p, _, _, _, rfl, rfl, hS1, i2 _ _ _ _, _, _, rfl, rfl, .inl ⟨by decide, by decide⟩, _, _, rfl, rfl, _, _, rfl, rfl, _, _, rfl, rfl, (by show (0 : Int) < 2147483629; decide), ?_⟩
      refine ⟨_, rfl, _, _, rfl, rfl, .inr ⟨by decide, by decide⟩, _, _, rfl, rfl, (by show (0 : Int) < 2147483647; decide), _, _, rfl, rfl, ⟨by decide, by decide⟩, _, rfl, _, _, rfl, rfl, hb0, ?_⟩
      exact q _ _ (Kp.put _) ⟨_, _, _, _, upd_same, he0, he1⟩ (Int.emod_nonneg _ (by omega)) (Int.emod_lt_of_pos _ hb0)
end
end Deed

namespace Deed
open PySem PySem.Spec PyProof.Rows L2 LamX
def szB (K : PySem.W.Frag) (x : Str) (i : Int) : Bool := match PySem.W.nsIn K (He.ga K "WHY_SIZES") x with
  | some (some (.int j _)) => decide (j = i)
  | _ => false
def szAll (K : PySem.W.Frag) : Bool := szB K "unknown" 2 && (szB K "ahead" 2 && (szB K "void" 3 && (szB K "fallen" 3 && (szB K "paid" 5 && szB K "stands" 4))))
end Deed

namespace Deed
open PySem PySem.Spec PyProof.Rows L2 LamX
/-! ### the end: the facts by names -/
def mkD (x : Str) (st : Stmt) : He.DefD := ⟨(x, none), x, x, defArgs st, defBody st, defScope st, [], []⟩
def mkDd (x : Str) (st : Stmt) (dfl : List He.Dv) : He.DefD := ⟨(x, none), x, x, defArgs st, defBody st, defScope st, dfl, []⟩
def fnAll : List He.DefD := [mkD "_law_cell_at" (topS 45), mkD "_law_pen" (topS 46), mkD "_law_draw" (topS 47), mkD "_law_day" (topS 48), mkD "_law_folk" (topS 49), mkD "_law_few" (topS 50), mkD "_law_deed" (topS 51), mkD "_law_entry" (topS 52), mkD "_law_mixed" (topS 53), mkD "_law_book" (topS 54), mkD "entries_rising" (topS 11), mkD "deed_entries" (topS 12), mkD "act_entries" (topS 13), mkD "deeds_of" (topS 14), mkD "is_whole" (topS 8), mkD "is_within" (topS 9), mkD "is_day" (topS 10), mkD "check_day" (topS 20), mkD "check_deed" (topS 21), mkD "open_acts" (topS 24), mkD "acts_on" (topS 25), mkD "acts_in_force" (topS 26), mkD "word_of_deed" (topS 27), mkDd "all_standing" (topS 28) [.int 9999], mkD "_law_open" (topS 55), mkD "_law_of" (topS 56), mkD "_law_force" (topS 57), mkD "_law_any" (topS 58), mkD "_law_words" (topS 59), mkD "_law_entries" (topS 60), mkD "_law_days" (topS 61), mkDd "why_of" (topS 35) [.int 9999], mkD "paper_over" (topS 31), mkD "papers_of" (topS 32), mkD "first_yes" (topS 33), mkD "why_over" (topS 34), mkD "has_head" (topS 36), mkD "is_yes" (topS 37), mkD "is_no" (topS 38), mkD "is_some_yes" (topS 39), mkD "are_nos" (topS 40), mkD "are_whys" (topS 41), mkD "is_why" (topS 42), mkD "why_holds" (topS 43), mkD "_law_open_of" (topS 62), mkD "_law_head" (topS 63), mkD "_law_each" (topS 64), mkD "_law_is_yes" (topS 65), mkD "_law_is_no" (topS 66), mkD "_law_by" (topS 67), mkD "_law_is_why" (topS 68), mkD "_law_thing" (topS 69), mkD "_law_spoilt" (topS 70), mkD "law" (topS 71)]
def faAll : List He.Fa := [.glo "_law_cell_at", .glo "_law_pen", .glo "_law_draw", .glo "_law_day", .glo "_law_folk", .glo "_law_few", .glo "_law_deed", .glo "_law_entry", .glo "_law_mixed", .glo "_law_book", .glo "entries_rising", .glo "deed_entries", .glo "act_entries", .glo "deeds_of", .glo "is_whole", .glo "is_within", .glo "is_day", .glo "check_day", .glo "check_deed", .glo "open_acts", .glo "acts_on", .glo "acts_in_force", .glo "word_of_deed", .glo "all_standing", .glo "_law_open", .glo "_law_of", .glo "_law_force", .glo "_law_any", .glo "_law_words", .glo "_law_entries", .glo "_law_days", .glo "why_of", .glo "paper_over", .glo "papers_of", .glo "first_yes", .glo "why_over", .glo "has_head", .glo "is_yes", .glo "is_no", .glo "is_some_yes", .glo "are_nos", .glo "are_whys", .glo "is_why", .glo "why_holds", .glo "_law_open_of", .glo "_law_head", .glo "_law_each", .glo "_law_is_yes", .glo "_law_is_no", .glo "_law_by", .glo "_law_is_why", .glo "_law_thing", .glo "_law_spoilt", .glo "law", .free "range", .free "min", .free "max", .free "tuple", .free "list", .free "len", .free "sorted", .free "int", .free "isinstance", .free "bool", .free "str", .free "any", .free "all", .free "zip", .free "dict", .free "enumerate", .int "NUMBER" 0, .int "WORD" 4, .int "DAY" 1, .int "WRITTEN" 2, .int "OF" 5, .int "RESTS" 7, .int "LAST_DAY" 9999, .glo "CARRYING", .glo "WHY_SIZES"]
def tfAll : List He.Defn := [("entries_rising", none), ("_law_is_yes", none), ("_law_is_why", none)]
abbrev tsAll : List He.Tab := [(fun K => He.ga K "WHY_SIZES", ["unknown", "ahead", "void", "fallen", "paid", "stands"])]
def exAll (K : PySem.W.Frag) : Bool := He.tupB K "CARRYING" [.str "stands", .str "paid"] && (szAll K && (decide ((He.cT K ("entries_rising", none)).2 ≠ (He.cT K ("_law_is_yes", none)).2) && (decide ((He.cT K ("entries_rising", none)).2 ≠ (He.cT K ("_law_is_why", none)).2) && decide ((He.cT K ("_law_is_yes", none)).2 ≠ (He.cT K ("_law_is_why", none)).2))))
abbrev rowR : PySem.W.OpenRow := PySem.W.OpenLaw.row PySem.Challenge.rw_deedsheaf_k17_whys_looked_at
abbrev hk : PySem.W.Hook := He.hookX 4 faAll fnAll tsAll tfAll exAll
def ob (s : PySem.W.SharedT) : He.AlX := He.obsX 4 faAll fnAll tsAll tfAll exAll (HandSHeadRun.getT s)
theorem ob_eq (s : PySem.W.SharedT) : ob s = hk.obs s.abs := He.obsX_eq (HandSHeadRun.getT_eq s)
def looseAll : List Str := (["NUMBER", "DAY", "WRITTEN", "WORD", "OF", "RESTS", "LAST_DAY", "is_whole", "is_within", "is_day", "entries_rising", "deed_entries"] : List Str) ++ (["act_entries", "deeds_of", "SheafError", "NoDay", "NoDeed", "check_day", "check_deed", "CARRYING", "open_acts", "acts_on", "acts_in_force", "word_of_deed"] : List Str) ++ (["all_standing", "WHY_SIZES", "paper_over", "papers_of", "first_yes", "why_over", "why_of", "has_head", "is_yes", "is_no", "is_some_yes", "are_nos"] : List Str) ++ (["are_whys", "is_why", "why_holds", "_law_cell_at", "_law_pen", "_law_draw", "_law_day", "_law_folk", "_law_few", "_law_deed", "_law_entry", "_law_mixed"] : List Str) ++ (["_law_book", "_law_open", "_law_of", "_law_force", "_law_any", "_law_words", "_law_entries", "_law_days", "_law_open_of", "_law_head", "_law_each", "_law_is_yes"] : List Str) ++ (["_law_is_no", "_law_by", "_law_is_why", "_law_thing", "_law_spoilt"] : List Str)
theorem run (w : World) : HandSHeadRun.RunEq rowR (PySem.W.view rowR.prog [71]) hk ob 9000 looseAll w := by
  refine PySem.W.byRow2 "special-get-raises" (P := fun w => HandSHeadRun.RunEq rowR (PySem.W.view rowR.prog [71]) hk ob 9000 looseAll w) (fun w os => ?_) (fun w os => ?_) w
  · kernel_rfl
  · kernel_rfl
end Deed

namespace Deed
open PySem PySem.Spec PyProof.Rows L2
/-- a def of the top: where it stands, how its arguments come, its name -/
structure Df (K : PySem.W.Frag) (mg : Str → Option Value) (x : Str) (st : Stmt) (ps : List Str) (f : Addr) (fd : FuncData) : Prop where
  F : Fun K x x st f fd
  b : Binds K fd ps []
  g : mg x = some (.ref f)
theorem am0 {φ : V → Prop} : ∀ y ∈ ([] : List V), φ y := fun _ h => nomatch h
theorem am1 {φ : V → Prop} {x : V} {xs : List V} (h : φ x) (r : ∀ y ∈ xs, φ y) : ∀ y ∈ x :: xs, φ y := fun y hy => (List.mem_cons.mp hy).elim (fun e => e ▸ h) (r y)
/-- an item of a written list at an open place -/
theorem pick {xs : List V} {i : Int} (φ : V → Prop) (h0 : 0 ≤ i) (h1 : i < (xs.length : Int)) (hx : ∀ x ∈ xs, φ x) : ∃ v, atI xs i = some v ∧ φ v := by
  have hk : i.toNat < xs.length := by omega
  exact ⟨xs[i.toNat], at_of (j := i.toNat) (by omega) (List.getElem?_eq_getElem hk), hx _ (List.getElem_mem hk)⟩
/-- an int within bounds -/
def Within (lo hi : Int) (x : V) : Prop := ∃ n : Int, x = .int n ∧ lo ≤ n ∧ n ≤ hi
section
variable {P : Program} {w : World} {K : PySem.W.Frag} {mg : Str → Option Value} {base : Heap} {fDr : Addr} {dDr : FuncData}
abbrev DrawD (K : PySem.W.Frag) (mg : Str → Option Value) := Df K mg "_law_draw" sDraw ["_law_pen_here", "_law_bound"]
/-! ### a day -/
abbrev sDay : Stmt := topS 48
theorem scDay : FnScope ["_law_pen_here", "_law_far"] ["_law_pen_here"] (defScope sDay) := ⟨rfl, rfl, rfl, by decide +kernel, rfl, by decide +kernel, by decide +kernel⟩
def spDay : Sp := fun vs H Q _ => ∃ (p : Addr), vs = [.ref p] ∧ PenAt H p ∧ ∀ v H', Kp p H H' → PenAt H' p → 0 ≤ v → v ≤ 9999 → Q (.int v) H'
theorem ok_day {f : Addr} {fd : FuncData} {k : Nat} (F : Fun K "_law_day" "_law_day" sDay f fd) (D : DrawD K mg fDr dDr) : FnOk P w K mg base CX0 (k + 2) f fd ["_law_pen_here"] spDay := by
  have G : FnOk P w K mg base CX0 (k + 1) fDr dDr ["_law_pen_here", "_law_bound"] spDraw := ok_draw D.F
  refine F.ok scDay (fun vs H Q E h => ?_) (fun cdv A outer s H vs Q E hr h => ?_)
  · obtain ⟨p, rfl, _⟩ := h
    rfl
  · obtain ⟨p, rfl, hP, q⟩ := h
    refine ⟨_, pss_cons (ps_set (i := 1) scDay.nd rfl (.inl rfl) (pe_ix ix_list (pe_lst (pa_cons pe_int (pa_cons (pe_call G hr (by rfl) D.g D.F.kp D.b .nil pass0 (pa_cons (pv 0) (pa_cons pe_int pa_nil))) pa_nil))) (pe_call G hr (by rfl) D.g D.F.kp D.b .nil pass0 (pa_cons (pv 0) (pa_cons pe_int pa_nil))) (fun _ _ => rfl)))
      (pss_one (ps_ret (pe_ix ix_list (pe_lst (pa_cons (pe_call G hr (by rfl) D.g D.F.kp D.b .nil pass0 (pa_cons (pv 0) (pa_cons pe_int pa_nil))) (pa_cons (pe_call G hr (by rfl) D.g D.F.kp D.b .nil pass0 (pa_cons (pv 0) (pa_cons pe_int pa_nil))) (pa_cons (pe_call G hr (by rfl) D.g D.F.kp D.b .nil pass0 (pa_cons (pv 0) (pa_cons pe_int pa_nil))) (pa_cons (pv 1) pa_nil))))) (pe_call G hr (by rfl) D.g D.F.kp D.b .nil pass0 (pa_cons (pv 0) (pa_cons pe_int pa_nil))) (fun _ _ => rfl)))), ?_⟩
    refine ⟨_, rfl, p, 10000, rfl, hP, by decide, by decide, fun v1 H1 k1 P1 a1 b1 => ?_⟩
    refine ⟨(by show 2 ≤ sizeLine; decide), fun l hl => ?_⟩
    refine ⟨_, rfl, p, 2, rfl, P1.new hl _, by decide, by decide, fun v2 H2 k2 P2 a2 b2 => ?_⟩
    obtain ⟨v3, g3, n3, rfl, a3, b3⟩ := pick (xs := [.int 9999, .int v1]) (Within 0 9999) a2 b2 (am1 ⟨9999, rfl, by decide, by decide⟩ (am1 ⟨v1, rfl, a1, by omega⟩ am0))
    refine ⟨l, _, v2, _, rfl, rfl, SqL.of (k2 _ _ (P1.free hl) upd_same), g3, ?_⟩
    have kA : Kp p H H2 := (k1.trans (Kp.new hl _)).trans k2
    refine ⟨_, rfl, p, 6, rfl, P2, by decide, by decide, fun v4 H4 k4 P4 a4 b4 => ?_⟩
    refine ⟨_, rfl, p, 6, rfl, P4, by decide, by decide, fun v5 H5 k5 P5 a5 b5 => ?_⟩
    refine ⟨_, rfl, p, 40, rfl, P5, by decide, by decide, fun v6 H6 k6 P6 a6 b6 => ?_⟩
    refine ⟨_, rfl, (by show 4 ≤ sizeLine; decide), fun m hm => ?_⟩
    refine ⟨_, rfl, p, 4, rfl, P6.new hm _, by decide, by decide, fun v7 H7 k7 P7 a7 b7 => ?_⟩
    obtain ⟨v8, g8, n8, rfl, a8, b8⟩ := pick (xs := [.int v4, .int v5, .int v6, .int n3]) (Within 0 9999) a7 b7 (am1 ⟨_, rfl, by omega, by omega⟩ (am1 ⟨_, rfl, by omega, by omega⟩ (am1 ⟨_, rfl, by omega, by omega⟩ (am1 ⟨_, rfl, by omega, by omega⟩ am0))))
    refine ⟨m, _, v7, _, rfl, rfl, SqL.of (k7 _ _ (P6.free hm) upd_same), g8, ?_⟩
    exact q n8 _ (kA.trans (k4.trans (k5.trans (k6.trans ((Kp.new hm _).trans k7))))) P7 a8 b8
/-! ### folk -/
abbrev sFolk : Stmt := topS 49
theorem scFolk : FnScope ["_law_pen_here", "_law_least", "_law_found", "_law_k", "_law_born", "_law_died"] ["_law_pen_here", "_law_least"] (defScope sFolk) := ⟨rfl, rfl, rfl, by decide +kernel, rfl, by decide +kernel, by decide +kernel⟩
/-- a person at x -/
def PersonAt (H : Hp) (x : V) : Prop := ∃ (a : Addr) (b : Int) (d : V), x = .ref a ∧ H a = some (.tup [.int b, d]) ∧ -9999 ≤ b ∧ b ≤ 9998 ∧ (d = .non ∨ ∃ i : Int, d = .int i ∧ b < i ∧ i ≤ 9999)
theorem PersonAt.kp {p : Addr} {H H' : Hp} {x : V} (h : PersonAt H x) (k : Kp p H H') (P : PenAt H p) : PersonAt H' x := by
  obtain ⟨a, b, d, e, h1, r⟩ := h
  exact ⟨a, b, d, e, k _ _ (P.ne h1 fun _ z => by cases z) h1, r⟩
def FolkAt (H : Hp) (t : Addr) (n : Nat) : Prop := ∃ xs : List V, H t = some (.tup xs) ∧ xs.length = n ∧ ∀ x ∈ xs, PersonAt H x
theorem FolkAt.kp {p : Addr} {H H' : Hp} {t : Addr} {n : Nat} (h : FolkAt H t n) (k : Kp p H H') (P : PenAt H p) : FolkAt H' t n := by
  obtain ⟨xs, h1, h2, h3⟩ := h
  exact ⟨xs, k _ _ (P.ne h1 fun _ z => by cases z) h1, h2, fun x hx => (h3 x hx).kp k P⟩
def spFolk : Sp := fun vs H Q _ => ∃ (p : Addr) (least : Int), vs = [.ref p, .int least] ∧ PenAt H p ∧ 1 ≤ least ∧ least ≤ 6 ∧ ∀ t (n : Nat) H', Kp p H H' → PenAt H' p → FolkAt H' t n → least ≤ n → n ≤ 6 → Q (.ref t) H'
theorem ok_folk {f : Addr} {fd : FuncData} {k : Nat} (F : Fun K "_law_folk" "_law_folk" sFolk f fd) (D : DrawD K mg fDr dDr) (mr : mg "range" = none) (mm : mg "min" = none) (mt : mg "tuple" = none) : FnOk P w K mg base CX0 (k + 2) f fd ["_law_pen_here", "_law_least"] spFolk := by
  have G : FnOk P w K mg base CX0 (k + 1) fDr dDr ["_law_pen_here", "_law_bound"] spDraw := ok_draw D.F
  refine F.ok scFolk (fun vs H Q E h => ?_) (fun cdv A outer s H vs Q E hr h => ?_)
  · obtain ⟨p, l, rfl, _⟩ := h
    rfl
  · obtain ⟨p, least, rfl, hP, hl1, hl6, q⟩ := h
    refine ⟨_, pss_cons (ps_set (i := 2) scFolk.nd rfl (.inl rfl) (pe_lst pa_nil))
      (pss_cons (ps_for PassesOwn.never rfl (pi_range1 rfl mr (pa_cons (pe_op op_add (pv 1) (pe_call G hr (by rfl) D.g D.F.kp D.b .nil pass0 (pa_cons (pv 0) (pa_cons (pe_op op_sub pe_int (pv 1)) pa_nil)))) pa_nil)) (pg_name (i := 3) scFolk.nd rfl (.inl rfl))
        (pss_cons (ps_set (i := 4) scFolk.nd rfl (.inl rfl) (pe_ix ix_list (pe_lst (pa_cons (pe_op op_sub (pe_call G hr (by rfl) D.g D.F.kp D.b .nil pass0 (pa_cons (pv 0) (pa_cons pe_int pa_nil))) pe_int) (pa_cons (pe_op op_sub (pe_call G hr (by rfl) D.g D.F.kp D.b .nil pass0 (pa_cons (pv 0) (pa_cons pe_int pa_nil))) pe_int) (pa_cons (pe_un un_neg pe_int) pa_nil)))) (pe_call G hr (by rfl) D.g D.F.kp D.b .nil pass0 (pa_cons (pv 0) (pa_cons pe_int pa_nil))) (fun _ _ => rfl)))
        (pss_cons (ps_set (i := 5) scFolk.nd rfl (.inl rfl) (pe_callB (call_min2 rfl) (by rfl) mm (by decide +kernel) (pa_cons pe_int (pa_cons (pe_op op_add (pe_op op_add (pv 4) pe_int) (pe_ix ix_list (pe_lst (pa_cons (pe_call G hr (by rfl) D.g D.F.kp D.b .nil pass0 (pa_cons (pv 0) (pa_cons pe_int pa_nil))) (pa_cons (pe_call G hr (by rfl) D.g D.F.kp D.b .nil pass0 (pa_cons (pv 0) (pa_cons pe_int pa_nil))) pa_nil))) (pe_call G hr (by rfl) D.g D.F.kp D.b .nil pass0 (pa_cons (pv 0) (pa_cons pe_int pa_nil))) (fun _ _ => rfl))) pa_nil))))
        (pss_one (ps_expr (pe_bm PySem.F.plainAttrs_list PySem.F.slot_list_append PySem.F.type_list_append mt_append (pv 2) (pa_cons (pe_tup (pa_cons (pv 4) (pa_cons (pe_ix ix_list (pe_lst (pa_cons pe_non (pa_cons (pv 5) pa_nil))) (pe_call G hr (by rfl) D.g D.F.kp D.b .nil pass0 (pa_cons (pv 0) (pa_cons pe_int pa_nil))) (fun _ _ => rfl)) pa_nil))) pa_nil)))))))
      (pss_one (ps_ret (pe_callTy call_tuple_of (by rfl) mt (by decide +kernel) (pa_cons (pv 2) pa_nil))))), ?_⟩
    refine ⟨Nat.zero_le _, fun l hl => ?_⟩
    have Pl : PenAt (upd H l (.lst [])) p := hP.new hl _
    have nl : l ≠ p := hP.free hl
    refine ⟨_, rfl, _, rfl, _, rfl, _, _, rfl, rfl, p, 7 - least, rfl, Pl, by omega, by omega, fun v1 H1 k1 P1 a1 b1 => ?_⟩
    refine ⟨_, _, rfl, rfl, _, rfl, by omega, by omega, ?_⟩
    refine for_range (lo := 0) (n := (least + v1).toNat) (fun i σ H' => ∃ y3 y4 y5 xs, σ = [some (.ref p), some (.int least), some (.ref l), y3, y4, y5] ∧ Kp p H H' ∧ PenAt H' p ∧ H' l = some (.lst xs) ∧ xs.length = i ∧ ∀ x ∈ xs, PersonAt H' x)
      ⟨none, none, none, [], rfl, (Kp.new hl _).trans k1, P1, k1 _ _ nl upd_same, rfl, am0⟩ ?_ ?_
    · rintro i σ H' hi ⟨y3, y4, y5, xs, rfl, k', P', el, ln, ps⟩
      -- born
      refine ⟨_, rfl, p, 9, rfl, P', by decide, by decide, fun v2 H2 k2 P2 a2 b2 => ⟨_, _, rfl, rfl, ?_⟩⟩
      refine ⟨_, rfl, p, 19998, rfl, P2, by decide, by decide, fun v3 H3 k3 P3 a3 b3 => ⟨_, _, rfl, rfl, ?_⟩⟩
      refine ⟨_, rfl, (by show 3 ≤ sizeLine; decide), fun m hm => ?_⟩
      refine ⟨_, rfl, p, 3, rfl, P3.new hm _, by decide, by decide, fun v4 H4 k4 P4 a4 b4 => ?_⟩
      obtain ⟨_, g5, n5, rfl, a5, b5⟩ := pick (xs := [.int (v2 - 4), .int (v3 - 9999), .int (-9999)]) (Within (-9999) 9998) a4 b4 (am1 ⟨_, rfl, by omega, by omega⟩ (am1 ⟨_, rfl, by omega, by omega⟩ (am1 ⟨_, rfl, by omega, by omega⟩ am0)))
      refine ⟨m, _, v4, _, rfl, rfl, SqL.of (k4 _ _ (P3.free hm) upd_same), g5, ?_⟩
      have kA : Kp p H' H4 := k2.trans (k3.trans ((Kp.new hm _).trans k4))
      -- died
      refine ⟨_, rfl, _, _, rfl, rfl, ?_⟩
      refine ⟨_, rfl, p, 12, rfl, P4, by decide, by decide, fun v6 H6 k6 P6 a6 b6 => ?_⟩
      refine ⟨_, rfl, p, 9999, rfl, P6, by decide, by decide, fun v7 H7 k7 P7 a7 b7 => ?_⟩
      refine ⟨(by show 2 ≤ sizeLine; decide), fun m2 hm2 => ?_⟩
      refine ⟨_, rfl, p, 2, rfl, P7.new hm2 _, by decide, by decide, fun v8 H8 k8 P8 a8 b8 => ?_⟩
      obtain ⟨_, g9, n9, rfl, a9, b9⟩ := pick (xs := [.int v6, .int v7]) (Within 0 9998) a8 b8 (am1 ⟨_, rfl, by omega, by omega⟩ (am1 ⟨_, rfl, by omega, by omega⟩ am0))
      refine ⟨m2, _, v8, _, rfl, rfl, SqL.of (k8 _ _ (P7.free hm2) upd_same), g9, _, _, rfl, rfl, _, _, rfl, ?_⟩
      have kB : Kp p H4 H8 := k6.trans (k7.trans ((Kp.new hm2 _).trans k8))
      have hd : n5 < (if n5 + 1 + n9 < 9999 then n5 + 1 + n9 else 9999) ∧ (if n5 + 1 + n9 < 9999 then n5 + 1 + n9 else 9999) ≤ 9999 := by
        split <;> omega
      generalize (if n5 + 1 + n9 < 9999 then n5 + 1 + n9 else 9999) = dd at hd
      have kC := kA.trans kB
      have el8 := kC _ _ nl el
      -- found.append((born, ..))
      refine ⟨_, rfl, .inl ⟨rfl, _, SqL.of el8⟩, _, rfl, _, rfl, (by show 2 ≤ sizeLine; decide), fun m3 hm3 => ?_⟩
      refine ⟨_, rfl, p, 2, rfl, P8.new hm3 _, by decide, by decide, fun v10 H10 k10 P10 a10 b10 => ?_⟩
      obtain ⟨vd, g11, hvd⟩ := pick (xs := [.non, .int dd]) (fun d => d = .non ∨ ∃ i : Int, d = .int i ∧ n5 < i ∧ i ≤ 9999) a10 b10 (am1 (.inl rfl) (am1 (.inr ⟨_, rfl, hd⟩) am0))
      refine ⟨m3, _, v10, _, rfl, rfl, SqL.of (k10 _ _ (P8.free hm3) upd_same), g11, (by show 2 ≤ sizeLine; decide), fun t ht => ?_⟩
      have kD := (kC.trans ((Kp.new hm3 _).trans k10)).trans (Kp.new (p := p) ht (.tup [.int n5, vd]))
      have elD := kD _ _ nl el
      have PD : PenAt (upd H10 t (.tup [.int n5, vd])) p := P10.new ht _
      refine ⟨l, _, _, rfl, rfl, elD, small1000 (by omega), ?_⟩
      have kE : ∀ b o, b ≠ p → b ≠ l → H' b = some o → (upd (upd H10 t (.tup [.int n5, vd])) l (.lst (xs ++ [.ref t]))) b = some o := fun b o n1 n2 e => by
        rw [upd_ne n2]
        exact kD _ _ n1 e
      have ntl : t ≠ l := fun z => by
        have := (kC.trans ((Kp.new hm3 _).trans k10)) _ _ nl el
        rw [z, this] at ht
        cases ht
      refine ⟨_, _, _, xs ++ [.ref t], rfl, fun b o n1 e => ?_, ?_, upd_same, ?_, fun x hx => ?_⟩
      · by_cases hb : b = l
        · rw [hb, hl] at e
          cases e
        · exact kE b o n1 hb (k' _ _ n1 e)
      · obtain ⟨x1, x2, x3, x4, e1, e2⟩ := PD
        exact ⟨x1, x2, x3, x4, by rw [upd_ne nl.symm]; exact e1, e2⟩
      · rw [List.length_append, ln]
        rfl
      · rcases List.mem_append.mp hx with hx | hx
        · obtain ⟨a, b, d, e, h1, r⟩ := ps x hx
          exact ⟨a, b, d, e, kE _ _ (P'.ne h1 fun _ z => by cases z) (fun z => by rw [z, el] at h1; cases h1) h1, r⟩
        · rw [List.mem_singleton.mp hx]
          exact ⟨t, n5, vd, rfl, by rw [upd_ne ntl, upd_same], by omega, by omega, hvd⟩
    · rintro σ H' ⟨y3, y4, y5, xs, rfl, k', P', el, ln, ps⟩
      refine ⟨_, rfl, l, xs, rfl, .inl ⟨SqL.of el, fun t ht => ?_⟩⟩
      have kF : Kp p H' (upd H' t (.tup xs)) := Kp.new ht _
      exact q t (least + v1).toNat _ (k'.trans kF) (P'.new ht _) ⟨xs, upd_same, ln, fun x hx => (ps x hx).kp kF P'⟩ (by omega) (by omega)
end
end Deed

namespace Deed
open PySem PySem.Spec PyProof.Rows L2
theorem seqIx {i : Int} {n : Nat} (h0 : 0 ≤ i) (h1 : i < n) : seqIndex? i n = some i.toNat := seqIndex_of h0 h1
theorem rising_of {l : List Int} (hn : l.Nodup) (hp : l.Pairwise (· ≤ ·)) : l.Pairwise (· < ·) := by
  induction l with
  | nil => exact .nil
  | cons x r ih =>
    have h1 := List.nodup_cons.mp hn
    have h2 := List.pairwise_cons.mp hp
    refine List.pairwise_cons.mpr ⟨fun y hy => ?_, ih h1.2 h2.2⟩
    have h3 := h2.1 y hy
    have h4 : x ≠ y := fun e => h1.1 (e ▸ hy)
    omega
theorem perm_erase {α : Type} {l : List α} {k : Nat} {y : α} (h : l[k]? = some y) : (y :: l.eraseIdx k).Perm l := by
  induction l generalizing k with
  | nil => simp at h
  | cons a r ih =>
    cases k with
    | zero =>
      have e : a = y := by simpa using h
      subst e
      exact List.Perm.refl _
    | succ k =>
      have h' : r[k]? = some y := by simpa using h
      show (y :: a :: r.eraseIdx k).Perm (a :: r)
      exact (List.Perm.swap a y _).trans ((ih h').cons a)
theorem erase_map {α β : Type} (f : α → β) : ∀ (l : List α) (k : Nat), (l.map f).eraseIdx k = (l.eraseIdx k).map f
  | [], _ => rfl
  | _ :: _, 0 => rfl
  | a :: r, k + 1 => congrArg (List.cons (f a)) (erase_map f r k)
section
variable {P : Program} {w : World} {K : PySem.W.Frag} {mg : Str → Option Value} {base : Heap} {fDr : Addr} {dDr : FuncData}
/-! ### a few of some -/
abbrev sFew : Stmt := topS 50
theorem scFew : FnScope ["_law_pen_here", "_law_some", "_law_most", "_law_left", "_law_found", "_law_k"] ["_law_pen_here", "_law_some", "_law_most"] (defScope sFew) := ⟨rfl, rfl, rfl, by decide +kernel, rfl, by decide +kernel, by decide +kernel⟩
def spFew (K : PySem.W.Frag) : Sp := fun vs H Q _ => ∃ (p a : Addr) (most : Int) (ns : List Int), vs = [.ref p, .ref a, .int most] ∧ PenAt H p ∧ SqL K H a (ns.map V.int) ∧ 0 ≤ most ∧ most ≤ 1000 ∧ ns.length ≤ 1000 ∧
  ∀ t (rs ls : List Int) H', Kp p H H' → PenAt H' p → H' t = some (.tup (rs.map V.int)) → (rs ++ ls).Perm ns → rs.Pairwise (· ≤ ·) → rs.length ≤ most → Q (.ref t) H'
theorem ok_few {f : Addr} {fd : FuncData} {k : Nat} (F : Fun K "_law_few" "_law_few" sFew f fd) (D : DrawD K mg fDr dDr) (mr : mg "range" = none) (mm : mg "min" = none) (mt : mg "tuple" = none) (ml : mg "list" = none) (mn : mg "len" = none) (ms : mg "sorted" = none) :
    FnOk P w K mg base CX0 (k + 2) f fd ["_law_pen_here", "_law_some", "_law_most"] (spFew K) := by
  have G : FnOk P w K mg base CX0 (k + 1) fDr dDr ["_law_pen_here", "_law_bound"] spDraw := ok_draw D.F
  refine F.ok scFew (fun vs H Q E h => ?_) (fun cdv A outer s H vs Q E hr h => ?_)
  · obtain ⟨p, a, most, ns, rfl, _⟩ := h
    rfl
  · obtain ⟨p, a, most, ns, rfl, hP, hS, hm0, hm1, hn1, q⟩ := h
    refine ⟨_, pss_cons (ps_par (i := 3) (j := 4) (by rfl) scFew.nd rfl rfl (by decide) rfl rfl (pa_cons (pe_callTy call_list_of (by rfl) ml (by decide +kernel) (pa_cons (pv 1) pa_nil)) (pa_cons (pe_lst pa_nil) pa_nil)) (by rfl))
      (pss_cons (ps_for PassesOwn.never rfl (pi_range1 rfl mr (pa_cons (pe_callB (call_min2 rfl) (by rfl) mm (by decide +kernel) (pa_cons (pe_callB call_len_seq (by rfl) mn PySem.boot_len (pa_cons (pv 3) pa_nil)) (pa_cons (pe_call G hr (by rfl) D.g D.F.kp D.b .nil pass0 (pa_cons (pv 0) (pa_cons (pe_op op_add (pv 2) pe_int) pa_nil))) pa_nil))) pa_nil)) (pg_name (i := 5) scFew.nd rfl (.inl rfl))
        (pss_one (ps_expr (pe_bm PySem.F.plainAttrs_list PySem.F.slot_list_append PySem.F.type_list_append mt_append (pv 4) (pa_cons (pe_bm PySem.F.plainAttrs_list PySem.F.slot_list_pop PySem.F.type_list_pop mt_popAt (pv 3) (pa_cons (pe_call G hr (by rfl) D.g D.F.kp D.b .nil pass0 (pa_cons (pv 0) (pa_cons (pe_callB call_len_seq (by rfl) mn PySem.boot_len (pa_cons (pv 3) pa_nil)) pa_nil))) pa_nil)) pa_nil)))))
      (pss_one (ps_ret (pe_callTy call_tuple_of (by rfl) mt (by decide +kernel) (pa_cons (pe_callB cr_sortedI (by rfl) ms (by decide +kernel) (pa_cons (pv 4) pa_nil)) pa_nil))))), ?_⟩
    refine ⟨_, rfl, a, _, rfl, .inl hS, fun l hl => ?_⟩
    have Pl : PenAt (upd H l (.lst (ns.map V.int))) p := hP.new hl _
    have nl : l ≠ p := hP.free hl
    refine ⟨Nat.zero_le _, fun g hg => ⟨_, _, rfl, ?_⟩⟩
    have ng : g ≠ p := Pl.free hg
    have nlg : l ≠ g := fun z => by
      rw [← z, upd_same] at hg
      cases hg
    have Pg := Pl.new hg (.lst [])
    have el : (upd (upd H l (.lst (ns.map V.int))) g (.lst [])) l = some (.lst (ns.map V.int)) := by rw [upd_ne nlg, upd_same]
    refine ⟨_, rfl, l, _, rfl, .inl (SqL.of el), _, rfl, _, rfl, _, _, rfl, rfl, p, most + 1, rfl, Pg, by omega, by omega, fun v1 H1 k1 P1 a1 b1 => ?_⟩
    have hlen : (ns.map V.int).length = ns.length := List.length_map _
    refine ⟨_, _, rfl, ?_⟩
    rw [hlen]
    have hj : 0 ≤ (if v1 < (ns.length : Int) then v1 else (ns.length : Int)) ∧ (if v1 < (ns.length : Int) then v1 else (ns.length : Int)) ≤ ns.length ∧ (if v1 < (ns.length : Int) then v1 else (ns.length : Int)) ≤ most := by
      split <;> omega
    generalize (if v1 < (ns.length : Int) then v1 else (ns.length : Int)) = j at hj
    refine ⟨_, rfl, by omega, by omega, ?_⟩
    have k0 : Kp p H H1 := ((Kp.new hl _).trans (Kp.new hg _)).trans k1
    refine for_range (lo := 0) (n := j.toNat) (fun i σ H' => ∃ y5, ∃ rs ls : List Int, σ = [some (.ref p), some (.ref a), some (.int most), some (.ref l), some (.ref g), y5] ∧ Kp p H H' ∧ PenAt H' p ∧ H' l = some (.lst (ls.map V.int)) ∧ H' g = some (.lst (rs.map V.int)) ∧ rs.length = i ∧ (rs ++ ls).Perm ns)
      ⟨none, [], ns, rfl, k0, P1, k1 _ _ nl el, k1 _ _ ng upd_same, rfl, List.Perm.refl _⟩ ?_ ?_
    · rintro i σ H' hi ⟨y5, rs, ls, rfl, k', P', e1, e2, hrl, hpm⟩
      have hll : ls.length = ns.length - i := by
        have := hpm.length_eq
        rw [List.length_append] at this
        omega
      have hml : (ls.map V.int).length = ls.length := List.length_map _
      refine ⟨_, rfl, .inl ⟨rfl, _, SqL.of e2⟩, _, rfl, .inl ⟨rfl, _, SqL.of e1⟩, _, rfl, _, rfl, l, _, rfl, .inl (SqL.of e1), p, _, rfl, P', by omega, by omega, fun v2 H2 k2 P2 a2 b2 => ?_⟩
      rw [hml] at b2
      have e1' := k2 _ _ nl e1
      have e2' := k2 _ _ ng e2
      have hk : v2.toNat < ls.length := by omega
      refine ⟨l, _, v2, v2.toNat, .int ls[v2.toNat], rfl, rfl, e1', by omega, by omega, seqIx a2 (by rw [hml]; omega), by rw [List.getElem?_map, List.getElem?_eq_getElem hk] <;> rfl, ?_⟩
      have e2'' : (upd H2 l (.lst ((ls.map V.int).eraseIdx v2.toNat))) g = some (.lst (rs.map V.int)) := by rw [upd_ne nlg.symm]; exact e2'
      refine ⟨g, _, _, rfl, rfl, e2'', small1000 (by rw [List.length_map]; omega), ?_⟩
      refine ⟨_, rs ++ [ls[v2.toNat]], ls.eraseIdx v2.toNat, rfl, fun b o n1 e => ?_, ?_, ?_, ?_, ?_, ?_⟩
      · rw [upd_ne (ne_of_none e (show H g = none by rw [upd_ne nlg.symm] at hg; exact hg)), upd_ne (ne_of_none e hl)]
        exact (k'.trans k2) _ _ n1 e
      · obtain ⟨x1, x2, x3, x4, z1, z2⟩ := P2
        exact ⟨x1, x2, x3, x4, by rw [upd_ne ng.symm, upd_ne nl.symm]; exact z1, z2⟩
      · rw [upd_ne nlg, upd_same, erase_map]
      · rw [upd_same, List.map_append]
        rfl
      · rw [List.length_append, hrl]
        rfl
      · have h1 : (ls[v2.toNat] :: ls.eraseIdx v2.toNat).Perm ls := perm_erase (List.getElem?_eq_getElem hk)
        refine List.Perm.trans ?_ hpm
        rw [List.append_assoc]
        exact (List.Perm.append_left rs h1)
    · rintro σ H' ⟨y5, rs, ls, rfl, k', P', e1, e2, hrl, hpm⟩
      refine ⟨_, rfl, g, rs, rfl, SqL.of e2, fun rs' m pm up hm => ?_⟩
      have hm' : (upd H' m (.lst (rs'.map V.int))) m = some (.lst (rs'.map V.int)) := upd_same
      refine ⟨m, _, rfl, .inl ⟨SqL.of hm', fun t ht => ?_⟩⟩
      refine q t rs' ls _ (k'.trans ((Kp.new hm _).trans (Kp.new ht _))) ((P'.new hm _).new ht _) upd_same ((List.Perm.append_right ls pm).trans hpm) up ?_
      rw [pm.length_eq, hrl]
      omega
end
end Deed

namespace Deed
open PySem PySem.Spec PyProof.Rows L2
/-! ### lists of ints compared -/
theorem dp_ints {K : PySem.W.Frag} {H : Hp} : ∀ ns : List Int, DpAll K H (ns.map V.int) (ns.map PyData.int)
  | [] => .nil
  | n :: r => .cons (.int n) (dp_ints r)
theorem lay_ints : ∀ ns : List Int, PyData.canLayAll0 (ns.map PyData.int) = true
  | [] => by simp [PyData.canLayAll0]
  | n :: r => by simp [PyData.canLayAll0, PyData.canLay0, lay_ints r]
theorem depth_ints : ∀ ns : List Int, PyData.depthAll (ns.map PyData.int) ≤ 1
  | [] => by simp [PyData.depthAll]
  | n :: r => by
    have h := depth_ints r
    simp only [List.map_cons, PyData.depthAll, PyData.depth]
    omega
theorem shaped_ints (ns : List Int) : SeqAt.shaped (.list (ns.map PyData.int)) = true := by
  have h1 := depth_ints ns
  have h2 : PyData.depth (.list (ns.map PyData.int)) ≤ 64 := by
    simp only [PyData.depth]
    omega
  show (PyData.canLay0 (.list (ns.map PyData.int)) && decide (PyData.depth (.list (ns.map PyData.int)) ≤ 64)) = true
  rw [Bool.and_eq_true]
  exact ⟨by simp only [PyData.canLay0]; exact lay_ints ns, decide_eq_true h2⟩
theorem eqvAll_ints : ∀ ns ms : List Int, PyData.eqvAll (ns.map PyData.int) (ms.map PyData.int) = decide (ns = ms)
  | [], [] => by simp [PyData.eqvAll]
  | [], _ :: _ => by simp [PyData.eqvAll]
  | _ :: _, [] => by simp [PyData.eqvAll]
  | n :: r, m :: q => by
    simp only [List.map_cons, PyData.eqvAll, PyData.eqv, eqvAll_ints r q]
    by_cases h : n = m
    · subst h
      simp
    · simp [h]
theorem eqv_ints (ns ms : List Int) : PyData.eqv (.list (ns.map PyData.int)) (.list (ms.map PyData.int)) = decide (ns = ms) := by
  simp only [PyData.eqv]
  exact eqvAll_ints ns ms
theorem mem_inV {n : Int} {ns : List Int} : inV (.int n) (ns.map V.int) = decide (n ∈ ns) := by
  induction ns with
  | nil => simp [inV]
  | cons m r ih =>
    have e : inV (.int n) ((m :: r).map V.int) = (eqV (.int m) (.int n) || inV (.int n) (r.map V.int)) := by simp [inV]
    have e2 : eqV (.int m) (.int n) = decide (m = n) := by
      first | rfl | simp [eqV] | (unfold eqV; simp)
    rw [e, ih, e2]
    by_cases h : m = n
    · subst h
      simp
    · have h' : ¬ n = m := fun z => h z.symm
      simp [h, h']
theorem flat_ints (ns : List Int) : (ns.map V.int).all flatV = true := by
  induction ns with
  | nil => rfl
  | cons n r ih =>
    rw [List.map_cons, List.all_cons, ih]
    rfl
/-! ### entries -/
inductive Kd where
  | deed (g t : Int) (rs ws : List Int)
  | act (x : Str) (o : Int)
structure En where
  num : Int
  day : Int
  wri : Int
  hand : Int
  kd : Kd
def En.isDeed (e : En) : Bool := match e.kd with
  | .deed _ _ _ _ => true
  | .act _ _ => false
/-- the entry e at the address a -/
def EntAt (H : Hp) (a : Addr) (e : En) : Prop := match e.kd with
  | .deed g t rs ws => ∃ r w : Addr, H a = some (.tup [.int e.num, .int e.day, .int e.wri, .int e.hand, .str "deed", .int g, .int t, .ref r, .ref w]) ∧ H r = some (.tup (rs.map V.int)) ∧ H w = some (.tup (ws.map V.int))
  | .act x o => H a = some (.tup [.int e.num, .int e.day, .int e.wri, .int e.hand, .str x, .int o])
/-- all that isn't a list is kept -/
def KpT (H H' : Hp) : Prop := ∀ b xs, H b = some (.tup xs) → H' b = some (.tup xs)
theorem Kp.tup {p : Addr} {H H' : Hp} (k : Kp p H H') (P : PenAt H p) : KpT H H' := fun b xs e => k _ _ (P.ne e fun _ z => by cases z) e
theorem Same.tup {H H' : Hp} (k : Same H H') : KpT H H' := fun b xs e => k _ _ e
theorem KpT.trans {H H1 H2 : Hp} (a : KpT H H1) (b : KpT H1 H2) : KpT H H2 := fun c o h => b c o (a c o h)
theorem EntAt.kp {H H' : Hp} {a : Addr} {e : En} (h : EntAt H a e) (k : KpT H H') : EntAt H' a e := by
  unfold EntAt at h ⊢
  cases hk : e.kd with
  | deed g t rs ws =>
    rw [hk] at h
    obtain ⟨r, w, h1, h2, h3⟩ := h
    exact ⟨r, w, k _ _ h1, k _ _ h2, k _ _ h3⟩
  | act x o =>
    rw [hk] at h
    exact k _ _ h
def EnOk (n : Nat) (ds as : List Int) (e : En) : Prop := (0 ≤ e.day ∧ e.day ≤ 9999) ∧ (0 ≤ e.wri ∧ e.wri ≤ 9999) ∧ (0 ≤ e.hand ∧ e.hand ≤ 3) ∧ match e.kd with
  | .deed g t rs ws => (0 ≤ g ∧ g < n) ∧ (0 ≤ t ∧ t < n) ∧ g ≠ t ∧ rs.length ≤ 2 ∧ rs.Pairwise (· < ·) ∧ (∀ r ∈ rs, r ∈ ds ∧ r < e.num) ∧ ws.length ≤ 3 ∧ ws.Pairwise (· < ·) ∧ ∀ x ∈ ws, 0 ≤ x ∧ x < n ∧ x ≠ g ∧ x ≠ t
  | .act x o => ((x = "undone" ∧ o ∈ as) ∨ ((x = "paid" ∨ x = "void") ∧ o ∈ ds)) ∧ o < e.num
theorem EnOk.mono {n : Nat} {ds as ds' as' : List Int} {e : En} (h : EnOk n ds as e) (h1 : ∀ x ∈ ds, x ∈ ds') (h2 : ∀ x ∈ as, x ∈ as') : EnOk n ds' as' e := by
  unfold EnOk at h ⊢
  obtain ⟨a, b, c, d⟩ := h
  refine ⟨a, b, c, ?_⟩
  cases hk : e.kd with
  | deed g t rs ws =>
    rw [hk] at d
    obtain ⟨d1, d2, d3, d4, d5, d6, d7⟩ := d
    exact ⟨d1, d2, d3, d4, d5, fun r hr => ⟨h1 _ (d6 r hr).1, (d6 r hr).2⟩, d7⟩
  | act x o =>
    rw [hk] at d
    obtain ⟨d1, d2⟩ := d
    refine ⟨?_, d2⟩
    rcases d1 with ⟨z, m⟩ | ⟨z, m⟩
    · exact .inl ⟨z, h2 _ m⟩
    · exact .inr ⟨z, h1 _ m⟩
section
variable {P : Program} {w : World} {K : PySem.W.Frag} {mg : Str → Option Value} {base : Heap} {fDr fFe fDy fDe : Addr} {dDr dFe dDy dDe : FuncData}
abbrev FewD (K : PySem.W.Frag) (mg : Str → Option Value) := Df K mg "_law_few" sFew ["_law_pen_here", "_law_some", "_law_most"]
abbrev DayD (K : PySem.W.Frag) (mg : Str → Option Value) := Df K mg "_law_day" sDay ["_law_pen_here"]
/-- the built-ins' names are the built-ins' -/
structure Bi (mg : Str → Option Value) : Prop where
  range : mg "range" = none
  min : mg "min" = none
  max : mg "max" = none
  tuple : mg "tuple" = none
  list : mg "list" = none
  len : mg "len" = none
  sorted : mg "sorted" = none
  int : mg "int" = none
/-! ### what stands behind a deed's word -/
abbrev sDeed : Stmt := topS 51
abbrev nDeed : List Str := ["_law_pen_here", "_law_folk_here", "_law_deeds", "_law_giver", "_law_taker", "_law_others", "_law_one"]
theorem scDeed : FnScope nDeed ["_law_pen_here", "_law_folk_here", "_law_deeds"] (defScope sDeed) := ⟨rfl, rfl, rfl, by decide +kernel, rfl, by decide +kernel, by decide +kernel⟩
def spDeed (K : PySem.W.Frag) : Sp := fun vs H Q _ => ∃ (p fk ld : Addr) (n : Nat) (ds : List Int), vs = [.ref p, .ref fk, .ref ld] ∧ PenAt H p ∧ FolkAt H fk n ∧ 2 ≤ n ∧ n ≤ 6 ∧ H ld = some (.lst (ds.map V.int)) ∧ ld ≠ p ∧ ds.Nodup ∧ ds.length ≤ 1000 ∧
  ∀ a r x (g t : Int) (rs ws : List Int) H', Kp p H H' → PenAt H' p → H' a = some (.tup [.int g, .int t, .ref r, .ref x]) → H' r = some (.tup (rs.map V.int)) → H' x = some (.tup (ws.map V.int)) →
    (0 ≤ g ∧ g < n) → (0 ≤ t ∧ t < n) → g ≠ t → rs.length ≤ 2 → rs.Pairwise (· < ·) → (∀ r ∈ rs, r ∈ ds) → ws.length ≤ 3 → ws.Pairwise (· < ·) → (∀ y ∈ ws, 0 ≤ y ∧ y < n ∧ y ≠ g ∧ y ≠ t) → Q (.ref a) H'
theorem taker_ne {g v : Int} {n : Nat} (h2 : 2 ≤ n) (h6 : n ≤ 6) (hg : 0 ≤ g) (hg' : g < n) (hv : 0 ≤ v) (hv' : v < (n : Int) - 1) : 0 ≤ (g + 1 + v) % (n : Int) ∧ (g + 1 + v) % (n : Int) < n ∧ g ≠ (g + 1 + v) % (n : Int) := by
  have hn : n = 2 ∨ n = 3 ∨ n = 4 ∨ n = 5 ∨ n = 6 := by omega
  rcases hn with rfl | rfl | rfl | rfl | rfl <;> omega
theorem ok_deed {f : Addr} {fd : FuncData} {k : Nat} (F : Fun K "_law_deed" "_law_deed" sDeed f fd) (D : DrawD K mg fDr dDr) (DF : FewD K mg fFe dFe) (B : Bi mg) : FnOk P w K mg base CX0 (k + 3) f fd ["_law_pen_here", "_law_folk_here", "_law_deeds"] (spDeed K) := by
  have G : FnOk P w K mg base CX0 (k + 1) fDr dDr ["_law_pen_here", "_law_bound"] spDraw := ok_draw D.F
  have GF : FnOk P w K mg base CX0 (k + 2) fFe dFe ["_law_pen_here", "_law_some", "_law_most"] (spFew K) := ok_few DF.F D B.range B.min B.tuple B.list B.len B.sorted
  refine F.ok scDeed (fun vs H Q E h => ?_) (fun cdv A outer s H vs Q E hr h => ?_)
  · obtain ⟨p, fk, ld, n, ds, rfl, _⟩ := h
    rfl
  · obtain ⟨p, fk, ld, n, ds, rfl, hP, hF, hn2, hn6, hld, nld, hnd, hdl, q⟩ := h
    have hr1 : Room (k + 1) _ := hr.mono (Nat.le_succ _)
    obtain ⟨xs, hfk, hxl, hps⟩ := id hF
    refine ⟨_, pss_cons (ps_set (i := 3) scDeed.nd rfl (.inr rfl) (pe_call G hr1 (by rfl) D.g D.F.kp D.b .nil pass0 (pa_cons (pv 0) (pa_cons (pe_callB call_len_seq (by rfl) B.len PySem.boot_len (pa_cons (pv 1) pa_nil)) pa_nil))))
      (pss_cons (ps_set (i := 4) scDeed.nd rfl (.inr rfl) (pe_op op_mod (pe_op op_add (pe_op op_add (pv 3) pe_int) (pe_call G hr1 (by rfl) D.g D.F.kp D.b .nil pass0 (pa_cons (pv 0) (pa_cons (pe_op op_sub (pe_callB call_len_seq (by rfl) B.len PySem.boot_len (pa_cons (pv 1) pa_nil)) pe_int) pa_nil)))) (pe_callB call_len_seq (by rfl) B.len PySem.boot_len (pa_cons (pv 1) pa_nil))))
      (pss_cons (ps_setLc (i := 5) (own := [("_law_one", 6)]) (g := gName 6) (by rfl) scDeed.nd rfl rfl (sw_true rfl rfl rfl (by decide +kernel)) (pi_range1 (by rfl) B.range (pa_cons (pe_callB call_len_seq (by rfl) B.len PySem.boot_len (pa_cons (pv 1) pa_nil)) pa_nil)) (blkOk_by (own := [("_law_one", 6)]) (N := nDeed) (sc := defScope sDeed) (by decide +kernel)) (fun _ _ _ _ _ => pg_name (i := 6) scDeed.nd rfl (Or.inl rfl))
          (fun _ _ _ _ _ => pts_one (pt_cmpR (show OpR _ (compareOp .NotIn) (rIn K true) from op_notIn_seq) (pv 6) (pe_tup (pa_cons (pv 3) (pa_cons (pv 4) pa_nil))) (by rfl))) (fun _ _ _ _ _ => pv 6))
      (pss_one (ps_ret (pe_tup (pa_cons (pv 3) (pa_cons (pv 4) (pa_cons (pe_call GF hr (by rfl) DF.g DF.F.kp DF.b .nil pass0 (pa_cons (pv 0) (pa_cons (pv 2) (pa_cons pe_int pa_nil)))) (pa_cons (pe_call GF hr (by rfl) DF.g DF.F.kp DF.b .nil pass0 (pa_cons (pv 0) (pa_cons (pv 5) (pa_cons pe_int pa_nil)))) pa_nil))))))))), ?_⟩
    refine ⟨_, rfl, _, rfl, fk, xs, rfl, .inr (SqT.of hfk), p, _, rfl, hP, by omega, by omega, fun g H1 k1 P1 a1 b1 => ?_⟩
    have hfk1 := k1.tup hP _ _ hfk
    refine ⟨_, rfl, _, _, rfl, rfl, _, rfl, _, rfl, fk, xs, rfl, .inr (SqT.of hfk1), _, _, rfl, rfl, p, _, rfl, P1, by omega, by omega, fun v H2 k2 P2 a2 b2 => ?_⟩
    have hfk2 := k2.tup P1 _ _ hfk1
    refine ⟨_, _, rfl, rfl, _, rfl, fk, xs, rfl, .inr (SqT.of hfk2), _, _, rfl, rfl, by omega, ?_⟩
    rw [hxl] at b1 b2
    obtain ⟨t1, t2, t3⟩ := taker_ne hn2 hn6 a1 b1 a2 b2
    rw [hxl]
    dsimp only
    generalize (g + 1 + v) % (n : Int) = t at t1 t2 t3
    have k12 := k1.trans k2
    refine ⟨_, rfl, fk, xs, rfl, .inr (SqT.of hfk2), _, rfl, by omega, by omega, ?_⟩
    rw [hxl]
    refine fun o no => ?_
    have npo : o ≠ p := P2.free no
    refine lc_range (lo := 0) (n := ((n : Nat) : Int).toNat) (fun i H' => ∃ os : List Int, H' o = some (.lst (os.map V.int)) ∧ Kp p H H' ∧ PenAt H' p ∧ os.length ≤ i ∧ os.Pairwise (· < ·) ∧ ∀ y ∈ os, 0 ≤ y ∧ y < (i : Int) ∧ y ≠ g ∧ y ≠ t)
      ⟨[], upd_same, k12.trans (Kp.new no _), P2.new no _, Nat.le_refl _, .nil, fun _ h => nomatch h⟩ ?_ ?_
    · rintro i H' hi ⟨os, ho, k', P', hol, hup, hall⟩
      refine ⟨rfl, _, rfl, _, rfl, _, rfl, (by show 2 ≤ sizeLine; decide), fun u hu => ?_⟩
      have hu' : (upd H' u (.tup [.int g, .int t])) u = some (.tup [.int g, .int t]) := upd_same
      refine ⟨u, _, rfl, .inr (SqT.of hu'), rfl, rfl, _, rfl, ?_⟩
      have kU : Kp p H' (upd H' u (.tup [.int g, .int t])) := Kp.new hu _
      have hmem : inV (.int (0 + (i : Int))) [.int g, .int t] = decide ((0 + (i : Int)) ∈ [g, t]) := mem_inV (ns := [g, t])
      have ho' := kU _ _ npo ho
      refine ite2 (fun c => ?_) (fun c => ?_)
      · have c' : ¬ ((0 + (i : Int)) ∈ [g, t]) := by
          have c1 : (!inV (.int (0 + (i : Int))) [.int g, .int t]) = true := c
          rw [hmem] at c1
          simpa using c1
        refine ⟨_, rfl, _, ho', small1000 (by rw [List.length_map]; omega), os ++ [0 + (i : Int)], ?_, fun b z n1 e => ?_, ?_, ?_, ?_, ?_⟩
        · rw [upd_same, List.map_append]
          rfl
        · have nb : b ≠ o := fun z' => by
            have e' := k12 _ _ n1 e
            rw [z', no] at e'
            cases e'
          rw [upd_ne nb]
          exact (k'.trans kU) _ _ n1 e
        · obtain ⟨x1, x2, x3, x4, z1, z2⟩ := P'.new hu (.tup [.int g, .int t])
          exact ⟨x1, x2, x3, x4, by rw [upd_ne npo.symm]; exact z1, z2⟩
        · rw [List.length_append]
          show os.length + 1 ≤ i + 1
          omega
        · refine List.pairwise_append.mpr ⟨hup, List.pairwise_singleton _ _, fun x hx y hy => ?_⟩
          rw [List.mem_singleton.mp hy]
          have := hall x hx
          omega
        · intro y hy
          rcases List.mem_append.mp hy with hy | hy
          · have := hall y hy
            refine ⟨this.1, by omega, this.2.2⟩
          · rw [List.mem_singleton.mp hy]
            simp only [List.mem_cons, List.not_mem_nil, or_false, not_or] at c'
            refine ⟨by omega, by omega, c'.1, c'.2⟩
      · exact ⟨os, ho', k'.trans kU, P'.new hu _, by omega, hup, fun y hy => by
          have := hall y hy
          exact ⟨this.1, by omega, this.2.2⟩⟩
    · rintro H' ⟨os, ho, k', P', hol, hup, hall⟩
      refine ⟨_, rfl, _, rfl, ?_⟩
      refine ⟨_, rfl, _, rfl, p, ld, 2, ds, rfl, P', SqL.of (k' _ _ nld hld), by decide, by decide, hdl, fun r rs ls H3 k3 P3 hr3 pm3 up3 ln3 => ?_⟩
      refine ⟨_, rfl, _, rfl, p, o, 3, os, rfl, P3, SqL.of (k3 _ _ npo ho), by decide, by decide, by omega, fun x ws ms H4 k4 P4 hr4 pm4 up4 ln4 => ?_⟩
      refine ⟨(by show 4 ≤ sizeLine; decide), fun a ha => ?_⟩
      have k5 : Kp p H4 (upd H4 a (.tup [.int g, .int t, .ref r, .ref x])) := Kp.new ha _
      have nd3 : rs.Nodup := (List.nodup_append.mp (pm3.nodup_iff.mpr hnd)).1
      have ndo : os.Nodup := hup.imp fun h => by omega
      have nd4 : ws.Nodup := (List.nodup_append.mp (pm4.nodup_iff.mpr ndo)).1
      refine q a r x g t rs ws _ (k'.trans (k3.trans (k4.trans k5))) (P4.new ha _) upd_same (k5.tup P4 _ _ (k4.tup P3 _ _ hr3)) (k5.tup P4 _ _ hr4) ⟨a1, b1⟩ ⟨t1, t2⟩ t3 (by omega) (rising_of nd3 up3) (fun y hy => pm3.mem_iff.mp (List.mem_append_left _ hy)) (by omega) (rising_of nd4 up4) fun y hy => ?_
      have hm := hall y (pm4.mem_iff.mp (List.mem_append_left _ hy))
      exact ⟨hm.1, by omega, hm.2.2⟩
end
end Deed

namespace Deed
open PySem PySem.Spec PyProof.Rows L2
def rLenS (K : PySem.W.Frag) : List V → Hp → VK → Prop := fun xs H Q => ∃ p ys, xs = [.ref p] ∧ (SqL K H p ys ∨ SqT K H p ys) ∧ Q (.int ys.length) H
section
variable {P : Program} {w : World} {K : PySem.W.Frag} {mg : Str → Option Value} {base : Heap} {fDr fFe fDy fDe : Addr} {dDr dFe dDy dDe : FuncData}
abbrev DeedD (K : PySem.W.Frag) (mg : Str → Option Value) := Df K mg "_law_deed" sDeed ["_law_pen_here", "_law_folk_here", "_law_deeds"]
/-! ### an entry -/
abbrev sEntry : Stmt := topS 52
abbrev nEntry : List Str := ["_law_pen_here", "_law_folk_here", "_law_number", "_law_deeds", "_law_acts", "_law_head_here", "_law_way", "_law_word"]
abbrev pEntry : List Str := ["_law_pen_here", "_law_folk_here", "_law_number", "_law_deeds", "_law_acts"]
theorem scEntry : FnScope nEntry pEntry (defScope sEntry) := ⟨rfl, rfl, rfl, by decide +kernel, rfl, by decide +kernel, by decide +kernel⟩
def spEntry (K : PySem.W.Frag) : Sp := fun vs H Q _ => ∃ (p fk ld la : Addr) (num : Int) (n : Nat) (ds as : List Int), vs = [.ref p, .ref fk, .int num, .ref ld, .ref la] ∧ PenAt H p ∧ FolkAt H fk n ∧ 2 ≤ n ∧ n ≤ 6 ∧ H ld = some (.lst (ds.map V.int)) ∧ ld ≠ p ∧ H la = some (.lst (as.map V.int)) ∧ la ≠ p ∧ ds.Nodup ∧ ds.length ≤ 1000 ∧ as.length ≤ 1000 ∧
  (∀ d ∈ ds, d < num) ∧ (∀ d ∈ as, d < num) ∧ ∀ a (e : En) H', Kp p H H' → PenAt H' p → EntAt H' a e → e.num = num → EnOk n ds as e → Q (.ref a) H'
theorem ok_entry {f : Addr} {fd : FuncData} {k : Nat} (F : Fun K "_law_entry" "_law_entry" sEntry f fd) (D : DrawD K mg fDr dDr) (DF : FewD K mg fFe dFe) (DY : DayD K mg fDy dDy) (DD : DeedD K mg fDe dDe) (B : Bi mg) : FnOk P w K mg base CX0 (k + 4) f fd pEntry (spEntry K) := by
  have G : FnOk P w K mg base CX0 (k + 1) fDr dDr ["_law_pen_here", "_law_bound"] spDraw := ok_draw D.F
  have GY : FnOk P w K mg base CX0 (k + 2) fDy dDy ["_law_pen_here"] spDay := ok_day DY.F D
  have GD : FnOk P w K mg base CX0 (k + 3) fDe dDe ["_law_pen_here", "_law_folk_here", "_law_deeds"] (spDeed K) := ok_deed DD.F D DF B
  refine F.ok scEntry (fun vs H Q E h => ?_) (fun cdv A outer s H vs Q E hr h => ?_)
  · obtain ⟨p, fk, ld, la, num, n, ds, as, rfl, _⟩ := h
    rfl
  · obtain ⟨p, fk, ld, la, num, n, ds, as, rfl, hP, hF, hn2, hn6, hld, nld, hla, nla, hnd, hdl, hal, hdn, han, q⟩ := h
    have hr1 : Room (k + 1) _ := hr.mono (by omega)
    have hr2 : Room (k + 2) _ := hr.mono (by omega)
    refine ⟨_, pss_cons (ps_set (i := 5) scEntry.nd rfl (.inl rfl) (pe_tup (pa_cons (pv 2) (pa_cons (pe_call GY hr2 (by rfl) DY.g DY.F.kp DY.b .nil pass0 (pa_cons (pv 0) pa_nil)) (pa_cons (pe_call GY hr2 (by rfl) DY.g DY.F.kp DY.b .nil pass0 (pa_cons (pv 0) pa_nil)) (pa_cons (pe_call G hr1 (by rfl) D.g D.F.kp D.b .nil pass0 (pa_cons (pv 0) (pa_cons pe_int pa_nil))) pa_nil))))))
      (pss_cons (ps_set (i := 6) scEntry.nd rfl (.inl rfl) (pe_call G hr1 (by rfl) D.g D.F.kp D.b .nil pass0 (pa_cons (pv 0) (pa_cons pe_int pa_nil))))
      (pss_cons (ps_if (PW.pt (pw_or (pt_cmpR (op_eqD hr.units) (pv 3) (pe_lst pa_nil) (nomark _)) (pw_or1 (pt_cmpR op_lt (pv 6) pe_int (nomark _)))))
        (pss_one (ps_ret (pe_op op_catT (pe_op op_catT (pv 5) (pe_tup (pa_cons pe_str pa_nil))) (pe_call GD hr (by rfl) DD.g DD.F.kp DD.b .nil pass0 (pa_cons (pv 0) (pa_cons (pv 1) (pa_cons (pv 3) pa_nil))))))) pss_nil)
      (pss_cons (ps_if (PW.pt (pw_or (pt_cmpR (op_eqD hr.units) (pv 4) (pe_lst pa_nil) (nomark _)) (pw_or1 (pt_cmpR op_lt (pv 6) pe_int (nomark _)))))
        (pss_cons (ps_set (i := 7) scEntry.nd rfl (.inl rfl) (pe_ix ix_list (pe_lst (pa_cons pe_str (pa_cons pe_str pa_nil))) (pe_call G hr1 (by rfl) D.g D.F.kp D.b .nil pass0 (pa_cons (pv 0) (pa_cons pe_int pa_nil))) (fun _ _ => rfl)))
        (pss_one (ps_ret (pe_op op_catT (pv 5) (pe_tup (pa_cons (pv 7) (pa_cons (pe_ix ix_list (pv 3) (pe_call G hr1 (by rfl) D.g D.F.kp D.b .nil pass0 (pa_cons (pv 0) (pa_cons (pe_callB call_len_seq (by rfl) B.len PySem.boot_len (pa_cons (pv 3) pa_nil)) pa_nil))) (fun _ _ => rfl)) pa_nil))))))) pss_nil)
      (pss_one (ps_ret (pe_op op_catT (pv 5) (pe_tup (pa_cons pe_str (pa_cons (pe_ix ix_list (pv 4) (pe_call G hr1 (by rfl) D.g D.F.kp D.b .nil pass0 (pa_cons (pv 0) (pa_cons (pe_callB call_len_seq (by rfl) B.len PySem.boot_len (pa_cons (pv 4) pa_nil)) pa_nil))) (fun _ _ => rfl)) pa_nil))))))))), ?_⟩
    -- head
    refine ⟨_, rfl, _, rfl, p, rfl, hP, fun v1 H1 k1 P1 a1 b1 => ?_⟩
    refine ⟨_, rfl, p, rfl, P1, fun v2 H2 k2 P2 a2 b2 => ?_⟩
    refine ⟨_, rfl, p, 4, rfl, P2, by decide, by decide, fun v3 H3 k3 P3 a3 b3 => ?_⟩
    refine ⟨(by show 4 ≤ sizeLine; decide), fun h hh => ?_⟩
    have kh : Kp p H3 (upd H3 h (.tup [.int num, .int v1, .int v2, .int v3])) := Kp.new hh _
    have Ph := P3.new hh (.tup [.int num, .int v1, .int v2, .int v3])
    have eh : (upd H3 h (.tup [.int num, .int v1, .int v2, .int v3])) h = some (.tup [.int num, .int v1, .int v2, .int v3]) := upd_same
    have kA : Kp p H (upd H3 h (.tup [.int num, .int v1, .int v2, .int v3])) := k1.trans (k2.trans (k3.trans kh))
    generalize (upd H3 h (.tup [.int num, .int v1, .int v2, .int v3])) = Hh at kh Ph eh kA
    -- way
    refine ⟨_, rfl, p, 12, rfl, Ph, by decide, by decide, fun way H4 k4 P4 a4 b4 => ?_⟩
    have kB := kA.trans k4
    have e4 := k4.tup Ph _ _ eh
    -- deeds == []
    refine ⟨_, rfl, Nat.zero_le _, fun z hz => ?_⟩
    have kz : Kp p H4 (upd H4 z (.lst [])) := Kp.new hz _
    have Pz := P4.new hz (.lst [])
    have ez : (upd H4 z (.lst [])) z = some (.lst []) := upd_same
    have ehz := kz.tup P4 _ _ e4
    have kC := kB.trans kz
    generalize (upd H4 z (.lst [])) = Hz at kz Pz ez ehz kC
    refine ⟨.list (ds.map .int), .list (([] : List Int).map .int), .lst (SqL.of (kC _ _ nld hld)) (dp_ints ds), .lst (SqL.of ez) (dp_ints []), shaped_ints ds, shaped_ints [], _, rfl, ?_⟩
    rw [eqv_ints]
    refine ite2 (fun c => ?dw1) (fun c => (⟨_, rfl, _, _, rfl, rfl, _, rfl, ite2 (fun c2 => ?dw2) (fun c2 => ?nx)⟩))
    case nx =>
      have hdne : ds ≠ [] := fun e0 => c (decide_eq_true e0)
      have hdpos : 0 < ds.length := List.length_pos_iff.mpr hdne
      refine ⟨_, rfl, Nat.zero_le _, fun y hy => ?_⟩
      have ky : Kp p Hz (upd Hz y (.lst [])) := Kp.new hy _
      have Py := Pz.new hy (.lst [])
      have ey : (upd Hz y (.lst [])) y = some (.lst []) := upd_same
      have ehy := ky.tup Pz _ _ ehz
      have kD := kC.trans ky
      generalize (upd Hz y (.lst [])) = Hy at ky Py ey ehy kD
      refine ⟨.list (as.map .int), .list (([] : List Int).map .int), .lst (SqL.of (kD _ _ nla hla)) (dp_ints as), .lst (SqL.of ey) (dp_ints []), shaped_ints as, shaped_ints [], _, rfl, ?_⟩
      rw [eqv_ints]
      refine ite2 (fun c3 => ?pv1) (fun c3 => (⟨_, rfl, _, _, rfl, rfl, _, rfl, ite2 (fun c4 => ?pv2) (fun c4 => ?un)⟩))
      case un =>
        have hane : as ≠ [] := fun e0 => c3 (decide_eq_true e0)
        have hapos : 0 < as.length := List.length_pos_iff.mpr hane
        have hml : (as.map V.int).length = as.length := List.length_map _
        refine ⟨_, rfl, _, rfl, _, rfl, _, rfl, la, _, rfl, .inl (SqL.of (kD _ _ nla hla)), p, _, rfl, Py, by omega, by omega, fun i H5 k5 P5 a5 b5 => ?_⟩
        rw [hml] at b5
        have hk : i.toNat < as.length := by omega
        refine ⟨la, _, i, .int as[i.toNat], rfl, rfl, SqL.of ((kD.trans k5) _ _ nla hla), at_of (j := i.toNat) (by omega) (by rw [List.getElem?_map, List.getElem?_eq_getElem hk] <;> rfl), (by show 2 ≤ sizeLine; decide), fun u hu => ?_⟩
        have ku : Kp p H5 (upd H5 u (.tup [.str "undone", .int as[i.toNat]])) := Kp.new hu _
        refine ⟨h, u, _, _, rfl, rfl, SqT.of (ku.tup P5 _ _ (k5.tup Py _ _ ehy)), SqT.of upd_same, List.cons_ne_nil _ _, (by show 6 ≤ sizeLine; decide), fun z0 => absurd z0 (List.cons_ne_nil _ _), fun _ t ht => ?_⟩
        refine q t ⟨num, v1, v2, v3, .act "undone" as[i.toNat]⟩ _ (kD.trans (k5.trans (ku.trans (Kp.new ht _)))) ((P5.new hu _).new ht _) upd_same rfl ?_
        exact ⟨⟨a1, b1⟩, ⟨a2, b2⟩, ⟨a3, by show v3 ≤ 3; omega⟩, .inl ⟨rfl, List.getElem_mem hk⟩, han _ (List.getElem_mem hk)⟩
      all_goals
        refine ⟨(by show 2 ≤ sizeLine; decide), fun m hm => ?_⟩
        refine ⟨_, rfl, p, 2, rfl, Py.new hm _, by decide, by decide, fun v5 H5 k5 P5 a5 b5 => ?_⟩
        obtain ⟨_, g5, x, rfl, hx⟩ := pick (xs := [.str "paid", .str "void"]) (fun y => ∃ x : Str, y = .str x ∧ (x = "paid" ∨ x = "void")) a5 b5 (am1 ⟨_, rfl, .inl rfl⟩ (am1 ⟨_, rfl, .inr rfl⟩ am0))
        refine ⟨m, _, v5, _, rfl, rfl, SqL.of (k5 _ _ (Py.free hm) upd_same), g5, ?_⟩
        have kE := kD.trans ((Kp.new hm _).trans k5)
        have eh5 := k5.tup (Py.new hm _) _ _ ((Kp.new (p := p) hm _).tup Py _ _ ehy)
        have hml : (ds.map V.int).length = ds.length := List.length_map _
        refine ⟨_, rfl, _, rfl, _, rfl, _, rfl, _, rfl, ld, _, rfl, .inl (SqL.of (kE _ _ nld hld)), p, _, rfl, P5, by omega, by omega, fun i H6 k6 P6 a6 b6 => ?_⟩
        rw [hml] at b6
        have hk : i.toNat < ds.length := by omega
        refine ⟨ld, _, i, .int ds[i.toNat], rfl, rfl, SqL.of ((kE.trans k6) _ _ nld hld), at_of (j := i.toNat) (by omega) (by rw [List.getElem?_map, List.getElem?_eq_getElem hk] <;> rfl), (by show 2 ≤ sizeLine; decide), fun u hu => ?_⟩
        have ku : Kp p H6 (upd H6 u (.tup [.str x, .int ds[i.toNat]])) := Kp.new hu _
        refine ⟨h, u, _, _, rfl, rfl, SqT.of (ku.tup P6 _ _ (k6.tup P5 _ _ eh5)), SqT.of upd_same, List.cons_ne_nil _ _, (by show 6 ≤ sizeLine; decide), fun z0 => absurd z0 (List.cons_ne_nil _ _), fun _ t ht => ?_⟩
        refine q t ⟨num, v1, v2, v3, .act x ds[i.toNat]⟩ _ (kE.trans (k6.trans (ku.trans (Kp.new ht _)))) ((P6.new hu _).new ht _) upd_same rfl ?_
        exact ⟨⟨a1, b1⟩, ⟨a2, b2⟩, ⟨a3, by show v3 ≤ 3; omega⟩, .inr ⟨hx, List.getElem_mem hk⟩, hdn _ (List.getElem_mem hk)⟩
    all_goals
      refine ⟨_, rfl, (by show 1 ≤ sizeLine; decide), fun u hu => ?_⟩
      have ku : Kp p Hz (upd Hz u (.tup [.str "deed"])) := Kp.new hu _
      refine ⟨h, u, _, _, rfl, rfl, SqT.of (ku.tup Pz _ _ ehz), SqT.of upd_same, List.cons_ne_nil _ _, (by show 5 ≤ sizeLine; decide), fun z0 => absurd z0 (List.cons_ne_nil _ _), fun _ t ht => ?_⟩
      have Pu := Pz.new hu (.tup [.str "deed"])
      have kt : Kp p (upd Hz u (.tup [.str "deed"])) (upd (upd Hz u (.tup [.str "deed"])) t (.tup ([.int num, .int v1, .int v2, .int v3] ++ [.str "deed"]))) := Kp.new ht _
      have Pt := Pu.new ht (.tup ([.int num, .int v1, .int v2, .int v3] ++ [.str "deed"]))
      have kE := kC.trans (ku.trans kt)
      refine ⟨_, rfl, _, rfl, _, rfl, p, fk, ld, n, ds, rfl, Pt, hF.kp kE hP, hn2, hn6, kE _ _ nld hld, nld, hnd, hdl, fun a r x g tk rs ws H6 k6 P6 ea er ex hg htk hgt hrl hrp hrd hwl hwp hw => ?_⟩
      have et6 := k6.tup Pt _ _ (upd_same (H := upd Hz u (.tup [.str "deed"])) (a := t))
      refine ⟨t, a, _, _, rfl, rfl, SqT.of et6, SqT.of ea, List.cons_ne_nil _ _, (by show 9 ≤ sizeLine; decide), fun z0 => absurd z0 (List.cons_ne_nil _ _), fun _ b hb => ?_⟩
      have kb : Kp p H6 (upd H6 b (.tup (([.int num, .int v1, .int v2, .int v3] ++ [.str "deed"]) ++ [.int g, .int tk, .ref r, .ref x]))) := Kp.new hb _
      refine q b ⟨num, v1, v2, v3, .deed g tk rs ws⟩ _ (kE.trans (k6.trans kb)) (P6.new hb _) ⟨r, x, upd_same, kb.tup P6 _ _ er, kb.tup P6 _ _ ex⟩ rfl ?_
      exact ⟨⟨a1, b1⟩, ⟨a2, b2⟩, ⟨a3, by show v3 ≤ 3; omega⟩, hg, htk, hgt, hrl, hrp, fun y hy => ⟨hrd y hy, hdn _ (hrd y hy)⟩, hwl, hwp, hw⟩
/-! ### in another order -/
abbrev sMixed : Stmt := topS 53
abbrev nMixed : List Str := ["_law_pen_here", "_law_some", "_law_left", "_law_k"]
theorem scMixed : FnScope nMixed ["_law_pen_here", "_law_some"] (defScope sMixed) := ⟨rfl, rfl, rfl, by decide +kernel, rfl, by decide +kernel, by decide +kernel⟩
def spMixed (K : PySem.W.Frag) : Sp := fun vs H Q _ => ∃ (p a : Addr) (xs : List V), vs = [.ref p, .ref a] ∧ PenAt H p ∧ (SqL K H a xs ∨ SqT K H a xs) ∧ xs.length ≤ 1000 ∧
  ∀ l (ys : List V) H', Kp p H H' → PenAt H' p → H l = none → H' l = some (.lst ys) → ys.Perm xs → Q (.ref l) H'
theorem ok_mixed {f : Addr} {fd : FuncData} {k : Nat} (F : Fun K "_law_mixed" "_law_mixed" sMixed f fd) (D : DrawD K mg fDr dDr) (B : Bi mg) : FnOk P w K mg base CX0 (k + 2) f fd ["_law_pen_here", "_law_some"] (spMixed K) := by
  have G : FnOk P w K mg base CX0 (k + 1) fDr dDr ["_law_pen_here", "_law_bound"] spDraw := ok_draw D.F
  refine F.ok scMixed (fun vs H Q E h => ?_) (fun cdv A outer s H vs Q E hr h => ?_)
  · obtain ⟨p, a, xs, rfl, _⟩ := h
    rfl
  · obtain ⟨p, a, xs, rfl, hP, hS, hxl, q⟩ := h
    refine ⟨_, pss_cons (ps_set (i := 2) scMixed.nd rfl (.inr rfl) (pe_callTy call_list_of (by rfl) B.list (by decide +kernel) (pa_cons (pv 1) pa_nil)))
      (pss_one (ps_ret (pe_lc (own := [("_law_k", 3)]) (g := gName 3) (by rfl) scMixed.nd (pi_range1 (by rfl) B.range (pa_cons (pe_callB call_len_seq (by rfl) B.len PySem.boot_len (pa_cons (pv 2) pa_nil)) pa_nil)) (blkOk_by (own := [("_law_k", 3)]) (N := nMixed) (sc := defScope sMixed) (by decide +kernel)) (fun _ _ _ _ _ => pg_name (i := 3) scMixed.nd rfl (Or.inl rfl)) (fun _ _ _ _ _ => pts_nil)
        (fun _ _ _ _ _ => show PE _ _ (tBM K "list" rPopAt (tVar 2) (tCons (tCall spDraw [] E0 (tCons (tVar 0) (tCons (tCB (rLenS K) (tCons (tVar 2) tNil)) tNil))) tNil)) from pe_bm PySem.F.plainAttrs_list PySem.F.slot_list_pop PySem.F.type_list_pop mt_popAt (pv 2) (pa_cons (pe_call G hr (by rfl) D.g D.F.kp D.b .nil pass0 (pa_cons (pv 0) (pa_cons (pe_callB call_len_seq (by rfl) B.len PySem.boot_len (pa_cons (pv 2) pa_nil)) pa_nil))) pa_nil))))), ?_⟩
    refine ⟨_, rfl, a, _, rfl, hS, fun l hl => ?_⟩
    have nl : l ≠ p := hP.free hl
    have el : (upd H l (.lst xs)) l = some (.lst xs) := upd_same
    refine ⟨_, rfl, l, xs, rfl, .inl (SqL.of el), _, rfl, by omega, by omega, fun o no => ?_⟩
    have no' : o ≠ p := (hP.new hl _).free no
    have nlo : l ≠ o := fun z => by
      rw [← z, el] at no
      cases no
    have hno : H o = none := by
      rw [upd_ne nlo.symm] at no
      exact no
    refine lc_range (lo := 0) (n := ((xs.length : Nat) : Int).toNat) (fun i H' => ∃ ys ls : List V, H' o = some (.lst ys) ∧ H' l = some (.lst ls) ∧ Kp p H H' ∧ PenAt H' p ∧ ys.length = i ∧ (ys ++ ls).Perm xs)
      ⟨[], xs, upd_same, by rw [upd_ne nlo]; exact el, (Kp.new hl _).trans (Kp.new no _), (hP.new hl _).new no _, rfl, List.Perm.refl _⟩ ?_ ?_
    · rintro i H' hi ⟨ys, ls, e1, e2, k', P', hyl, hpm⟩
      have hll : ls.length = xs.length - i := by
        have := hpm.length_eq
        rw [List.length_append] at this
        omega
      refine ⟨rfl, ?_⟩
      unfold tYes
      dsimp only
      rw [if_pos rfl]
      refine ⟨_, rfl, .inl ⟨rfl, _, SqL.of e2⟩, _, rfl, _, rfl, l, ls, rfl, .inl (SqL.of e2), p, _, rfl, P', by omega, by omega, fun v2 H2 k2 P2 a2 b2 => ?_⟩
      have e1' := k2 _ _ no' e1
      have e2' := k2 _ _ nl e2
      have hk : v2.toNat < ls.length := by omega
      refine ⟨l, _, v2, v2.toNat, ls[v2.toNat], rfl, rfl, e2', by omega, by omega, seqIx a2 (by omega), List.getElem?_eq_getElem hk, ?_⟩
      refine ⟨ys, by rw [upd_ne nlo.symm]; exact e1', small1000 (by omega), ys ++ [ls[v2.toNat]], ls.eraseIdx v2.toNat, upd_same, by rw [upd_ne nlo, upd_same], fun b z n1 e => ?_, ?_, ?_, ?_⟩
      · rw [upd_ne (ne_of_none e hno), upd_ne (ne_of_none e hl)]
        exact (k'.trans k2) _ _ n1 e
      · obtain ⟨x1, x2, x3, x4, z1, z2⟩ := P2
        exact ⟨x1, x2, x3, x4, by rw [upd_ne no'.symm, upd_ne nl.symm]; exact z1, z2⟩
      · rw [List.length_append, hyl]
        rfl
      · have h1 : (ls[v2.toNat] :: ls.eraseIdx v2.toNat).Perm ls := perm_erase (List.getElem?_eq_getElem hk)
        refine List.Perm.trans ?_ hpm
        rw [List.append_assoc]
        exact List.Perm.append_left ys h1
    · rintro H' ⟨ys, ls, e1, e2, k', P', hyl, hpm⟩
      refine q o ys H' k' P' hno e1 ?_
      have h0 : ls = [] := by
        have := hpm.length_eq
        rw [List.length_append] at this
        exact List.length_eq_zero_iff.mp (by omega)
      rw [h0, List.append_nil] at hpm
      exact hpm
end
end Deed

namespace Deed
open PySem PySem.Spec PyProof.Rows L2
theorem perm_pairs {α β : Type} (f : α → β) {ys xs : List β} (h : ys.Perm xs) : ∀ zs : List α, xs = zs.map f → ∃ zs' : List α, ys = zs'.map f ∧ zs'.Perm zs := by
  induction h with
  | nil =>
    intro zs e
    cases zs with
    | nil => exact ⟨[], rfl, List.Perm.refl _⟩
    | cons z r => cases e
  | cons x _ ih =>
    intro zs e
    cases zs with
    | nil => cases e
    | cons z r =>
      rw [List.map_cons] at e
      injection e with e1 e2
      obtain ⟨zs', h1, h2⟩ := ih r e2
      exact ⟨z :: zs', by rw [List.map_cons, ← h1, e1], h2.cons z⟩
  | swap x y l =>
    intro zs e
    match zs, e with
    | [], e => cases e
    | [_], e => cases e
    | a :: b :: r, e =>
      rw [List.map_cons, List.map_cons] at e
      injection e with e1 e2
      injection e2 with e2 e3
      exact ⟨b :: a :: r, by rw [List.map_cons, List.map_cons, ← e1, ← e2, ← e3], List.Perm.swap _ _ _⟩
  | trans _ _ ih1 ih2 =>
    intro zs e
    obtain ⟨z1, h1, h2⟩ := ih2 zs e
    obtain ⟨z2, h3, h4⟩ := ih1 z1 h1
    exact ⟨z2, h3, h4.trans h2⟩
def dn (es : List En) : List Int := (es.filter (·.isDeed)).map (·.num)
def an (es : List En) : List Int := (es.filter (fun e => !e.isDeed)).map (·.num)
theorem dn_snoc (es : List En) (e : En) : dn (es ++ [e]) = dn es ++ (if e.isDeed then [e.num] else []) := by
  unfold dn
  rw [List.filter_append, List.map_append]
  cases h : e.isDeed <;> simp [List.filter, h]
theorem an_snoc (es : List En) (e : En) : an (es ++ [e]) = an es ++ (if e.isDeed then [] else [e.num]) := by
  unfold an
  rw [List.filter_append, List.map_append]
  cases h : e.isDeed <;> simp [List.filter, h]
theorem dn_sub (es : List En) : ∀ x ∈ dn es, x ∈ es.map (·.num) := fun x hx => by
  obtain ⟨e, he, rfl⟩ := List.mem_map.mp hx
  exact List.mem_map.mpr ⟨e, (List.mem_filter.mp he).1, rfl⟩
theorem an_sub (es : List En) : ∀ x ∈ an es, x ∈ es.map (·.num) := fun x hx => by
  obtain ⟨e, he, rfl⟩ := List.mem_map.mp hx
  exact List.mem_map.mpr ⟨e, (List.mem_filter.mp he).1, rfl⟩
theorem dn_nodup {es : List En} (h : (es.map (fun e => e.num)).Nodup) : (dn es).Nodup := by
  have h1 : (es.filter (fun e => e.isDeed)).Sublist es := List.filter_sublist
  exact (h1.map (fun e => e.num)).nodup h
theorem dn_len (es : List En) : (dn es).length ≤ es.length := by
  unfold dn
  rw [List.length_map]
  exact List.length_filter_le _ _
theorem an_len (es : List En) : (an es).length ≤ es.length := by
  unfold an
  rw [List.length_map]
  exact List.length_filter_le _ _
theorem mem_dn {es : List En} {x : Int} : x ∈ dn es ↔ ∃ e ∈ es, e.isDeed = true ∧ e.num = x := by
  unfold dn
  simp only [List.mem_map, List.mem_filter]
  constructor
  · rintro ⟨e, ⟨h1, h2⟩, h3⟩
    exact ⟨e, h1, h2, h3⟩
  · rintro ⟨e, h1, h2, h3⟩
    exact ⟨e, ⟨h1, h2⟩, h3⟩
theorem mem_an {es : List En} {x : Int} : x ∈ an es ↔ ∃ e ∈ es, e.isDeed = false ∧ e.num = x := by
  unfold an
  simp only [List.mem_map, List.mem_filter, Bool.not_eq_true']
  constructor
  · rintro ⟨e, ⟨h1, h2⟩, h3⟩
    exact ⟨e, h1, h2, h3⟩
  · rintro ⟨e, h1, h2, h3⟩
    exact ⟨e, ⟨h1, h2⟩, h3⟩
/-- entries of a book of n folk -/
structure BkOk (n : Nat) (es : List En) : Prop where
  nd : (es.map (·.num)).Nodup
  rng : ∀ e ∈ es, 0 ≤ e.num ∧ e.num ≤ 30
  ok : ∀ e ∈ es, EnOk n (dn es) (an es) e
theorem BkOk.perm {n : Nat} {es es' : List En} (h : BkOk n es) (p : es'.Perm es) : BkOk n es' := by
  refine ⟨(p.map _).nodup_iff.mpr h.nd, fun e he => h.rng e (p.mem_iff.mp he), fun e he => (h.ok e (p.mem_iff.mp he)).mono (fun x hx => ?_) fun x hx => ?_⟩
  · obtain ⟨e', h1, h2⟩ := mem_dn.mp hx
    exact mem_dn.mpr ⟨e', p.mem_iff.mpr h1, h2⟩
  · obtain ⟨e', h1, h2⟩ := mem_an.mp hx
    exact mem_an.mpr ⟨e', p.mem_iff.mpr h1, h2⟩
def En.word (e : En) : Str := match e.kd with
  | .deed _ _ _ _ => "deed"
  | .act x _ => x
theorem EnOk.word {n : Nat} {ds as : List Int} {e : En} (h : EnOk n ds as e) : e.word = "deed" ↔ e.isDeed = true := by
  unfold En.word En.isDeed
  cases hk : e.kd with
  | deed g t rs ws => simp
  | act x o =>
    have h4 := h.2.2.2
    rw [hk] at h4
    simp only [Bool.false_eq_true, iff_false]
    rcases h4.1 with ⟨z, _⟩ | ⟨z | z, _⟩ <;> rw [z] <;> decide
/-- the first places of an entry -/
theorem EntAt.tup {H : Hp} {a : Addr} {e : En} (h : EntAt H a e) : ∃ xs, H a = some (.tup xs) ∧ atI xs 0 = some (.int e.num) ∧ atI xs 1 = some (.int e.day) ∧ atI xs 2 = some (.int e.wri) ∧ atI xs 3 = some (.int e.hand) ∧ atI xs 4 = some (.str e.word) := by
  unfold EntAt at h
  unfold En.word
  cases hk : e.kd with
  | deed g t rs ws =>
    rw [hk] at h
    obtain ⟨r, w, h1, _⟩ := h
    exact ⟨_, h1, atI_nat (j := 0) rfl, atI_nat (j := 1) rfl, atI_nat (j := 2) rfl, atI_nat (j := 3) rfl, atI_nat (j := 4) rfl⟩
  | act x o =>
    rw [hk] at h
    exact ⟨_, h, atI_nat (j := 0) rfl, atI_nat (j := 1) rfl, atI_nat (j := 2) rfl, atI_nat (j := 3) rfl, atI_nat (j := 4) rfl⟩
theorem FolkAt.kpT {H H' : Hp} {t : Addr} {n : Nat} (h : FolkAt H t n) (k : KpT H H') : FolkAt H' t n := by
  obtain ⟨xs, h1, h2, h3⟩ := h
  refine ⟨xs, k _ _ h1, h2, fun x hx => ?_⟩
  obtain ⟨a, b, d, e, h4, r⟩ := h3 x hx
  exact ⟨a, b, d, e, k _ _ h4, r⟩
theorem KpT.lst {H : Hp} {l : Addr} {xs : List V} (e : H l = some (.lst xs)) (o : HO) : KpT H (upd H l o) := fun b ys h => by
  have nb : b ≠ l := fun z => by
    rw [z, e] at h
    cases h
  rw [upd_ne nb]
  exact h
theorem KpT.refl (H : Hp) : KpT H H := fun _ _ h => h
theorem Kp.over {p l : Addr} {H H' : Hp} (k : Kp p H H') (n : H l = none) (o : HO) : Kp p H (upd H' l o) := fun b u n1 e => by
  rw [upd_ne (ne_of_none e n)]
  exact k _ _ n1 e
theorem PenAt.put {p l : Addr} {H : Hp} (h : PenAt H p) (n : l ≠ p) (o : HO) : PenAt (upd H l o) p := by
  obtain ⟨x1, x2, x3, x4, z1, z2⟩ := h
  exact ⟨x1, x2, x3, x4, by rw [upd_ne n.symm]; exact z1, z2⟩
abbrev refs (zs : List (Addr × En)) : List V := zs.map fun z => .ref z.1
abbrev ens (zs : List (Addr × En)) : List En := zs.map (·.2)
/-- a book at b -/
structure BookAt (H : Hp) (b fk t : Addr) (n : Nat) (age : Int) (zs : List (Addr × En)) : Prop where
  at_ : H b = some (.tup [.ref fk, .int age, .ref t])
  folk : FolkAt H fk n
  n2 : 2 ≤ n
  n6 : n ≤ 6
  age0 : 0 ≤ age
  age1 : age ≤ 9999
  ents : H t = some (.tup (refs zs))
  ent : ∀ z ∈ zs, EntAt H z.1 z.2
  ok : BkOk n (ens zs)
  len : zs.length ≤ 16
theorem BookAt.kp {H H' : Hp} {b fk t : Addr} {n : Nat} {age : Int} {zs : List (Addr × En)} (h : BookAt H b fk t n age zs) (k : KpT H H') : BookAt H' b fk t n age zs :=
  ⟨k _ _ h.at_, h.folk.kpT k, h.n2, h.n6, h.age0, h.age1, k _ _ h.ents, fun z hz => (h.ent z hz).kp k, h.ok, h.len⟩
section
variable {P : Program} {w : World} {K : PySem.W.Frag} {mg : Str → Option Value} {base : Heap} {fDr fFe fDy fDe fEn fFo fMi : Addr} {dDr dFe dDy dDe dEn dFo dMi : FuncData}
abbrev EntryD (K : PySem.W.Frag) (mg : Str → Option Value) := Df K mg "_law_entry" sEntry pEntry
abbrev FolkD (K : PySem.W.Frag) (mg : Str → Option Value) := Df K mg "_law_folk" sFolk ["_law_pen_here", "_law_least"]
abbrev MixedD (K : PySem.W.Frag) (mg : Str → Option Value) := Df K mg "_law_mixed" sMixed ["_law_pen_here", "_law_some"]
/-! ### a book -/
abbrev sBook : Stmt := topS 54
abbrev nBook : List Str := ["_law_pen_here", "_law_most", "_law_folk_here", "_law_number", "_law_deeds", "_law_acts", "_law_found", "_law_k", "_law_entry_here"]
theorem scBook : FnScope nBook ["_law_pen_here", "_law_most"] (defScope sBook) := ⟨rfl, rfl, rfl, by decide +kernel, rfl, by decide +kernel, by decide +kernel⟩
def spBook : Sp := fun vs H Q _ => ∃ (p : Addr) (most : Int), vs = [.ref p, .int most] ∧ PenAt H p ∧ 0 ≤ most ∧ most ≤ 16 ∧
  ∀ b fk t n age zs H', Kp p H H' → PenAt H' p → BookAt H' b fk t n age zs → (zs.length : Int) ≤ most → Q (.ref b) H'
theorem ok_book {f : Addr} {fd : FuncData} {k : Nat} (F : Fun K "_law_book" "_law_book" sBook f fd) (D : DrawD K mg fDr dDr) (DF : FewD K mg fFe dFe) (DY : DayD K mg fDy dDy) (DD : DeedD K mg fDe dDe) (DE : EntryD K mg fEn dEn) (DO : FolkD K mg fFo dFo) (DM : MixedD K mg fMi dMi) (B : Bi mg) :
    FnOk P w K mg base CX0 (k + 5) f fd ["_law_pen_here", "_law_most"] spBook := by
  have G : FnOk P w K mg base CX0 (k + 1) fDr dDr ["_law_pen_here", "_law_bound"] spDraw := ok_draw D.F
  have GE : FnOk P w K mg base CX0 (k + 4) fEn dEn pEntry (spEntry K) := ok_entry DE.F D DF DY DD B
  have GO : FnOk P w K mg base CX0 (k + 2) fFo dFo ["_law_pen_here", "_law_least"] spFolk := ok_folk DO.F D B.range B.min B.tuple
  have GM : FnOk P w K mg base CX0 (k + 2) fMi dMi ["_law_pen_here", "_law_some"] (spMixed K) := ok_mixed DM.F D B
  refine F.ok scBook (fun vs H Q E h => ?_) (fun cdv A outer s H vs Q E hr h => ?_)
  · obtain ⟨p, m, rfl, _⟩ := h
    rfl
  · obtain ⟨p, most, rfl, hP, hm0, hm1, q⟩ := h
    have hr1 : Room (k + 1) _ := hr.mono (by omega)
    have hr2 : Room (k + 2) _ := hr.mono (by omega)
    refine ⟨_, pss_cons (ps_par (i := 2) (j := 3) (by rfl) scBook.nd rfl rfl (by decide) rfl rfl (pa_cons (pe_call GO hr2 (by rfl) DO.g DO.F.kp DO.b .nil pass0 (pa_cons (pv 0) (pa_cons pe_int pa_nil))) (pa_cons (pe_call G hr1 (by rfl) D.g D.F.kp D.b .nil pass0 (pa_cons (pv 0) (pa_cons pe_int pa_nil))) pa_nil)) (by rfl))
      (pss_cons (ps_par3 (i := 4) (j := 5) (l := 6) (by rfl) scBook.nd rfl rfl rfl (by decide) (by decide) (by decide) rfl rfl rfl (pa_cons (pe_lst pa_nil) (pa_cons (pe_lst pa_nil) (pa_cons (pe_lst pa_nil) pa_nil))) (by rfl))
      (pss_cons (ps_for PassesOwn.never rfl (pi_range1 rfl B.range (pa_cons (pe_call G hr1 (by rfl) D.g D.F.kp D.b .nil pass0 (pa_cons (pv 0) (pa_cons (pe_op op_add (pv 1) pe_int) pa_nil))) pa_nil)) (pg_name (i := 7) scBook.nd rfl (.inl rfl))
        (pss_cons (ps_set (i := 8) scBook.nd rfl (.inl rfl) (pe_call GE hr (by rfl) DE.g DE.F.kp DE.b .nil pass0 (pa_cons (pv 0) (pa_cons (pv 2) (pa_cons (pv 3) (pa_cons (pv 4) (pa_cons (pv 5) pa_nil)))))))
        (pss_cons (ps_expr (pe_bm PySem.F.plainAttrs_list PySem.F.slot_list_append PySem.F.type_list_append mt_append (pv 6) (pa_cons (pv 8) pa_nil)))
        (pss_cons (ps_if (pt_cmpR op_eq (pe_ix ix_tup (pv 8) pe_int (fun _ _ => rfl)) pe_str (nomark _))
            (pss_one (ps_expr (pe_bm PySem.F.plainAttrs_list PySem.F.slot_list_append PySem.F.type_list_append mt_append (pv 4) (pa_cons (pv 3) pa_nil))))
            (pss_one (ps_expr (pe_bm PySem.F.plainAttrs_list PySem.F.slot_list_append PySem.F.type_list_append mt_append (pv 5) (pa_cons (pv 3) pa_nil)))))
        (pss_one (ps_set (i := 3) scBook.nd rfl (.inl rfl) (pe_op op_add (pe_op op_add (pv 3) pe_int) (pe_ix ix_list (pe_lst (pa_cons pe_int (pa_cons (pe_call G hr1 (by rfl) D.g D.F.kp D.b .nil pass0 (pa_cons (pv 0) (pa_cons pe_int pa_nil))) pa_nil))) (pe_callTy call_int1 (by rfl) B.int (by decide +kernel) (pa_cons (pe_cmpR op_lt (pv 3) (pe_op op_add pe_int (pv 7)) (nomark _)) pa_nil)) (fun _ _ => rfl)))))))))
      (pss_one (ps_ret (pe_tup (pa_cons (pv 2) (pa_cons (pe_call G hr1 (by rfl) D.g D.F.kp D.b .nil pass0 (pa_cons (pv 0) (pa_cons pe_int pa_nil))) (pa_cons (pe_callTy call_tuple_of (by rfl) B.tuple (by decide +kernel) (pa_cons (pe_call GM hr2 (by rfl) DM.g DM.F.kp DM.b .nil pass0 (pa_cons (pv 0) (pa_cons (pv 6) pa_nil))) pa_nil)) pa_nil)))))))), ?_⟩
    refine ⟨_, rfl, p, 2, rfl, hP, by decide, by decide, fun fk n H1 k1 P1 F1 hn2 hn6 => ?_⟩
    have hn2' : 2 ≤ n := by omega
    refine ⟨_, rfl, p, 3, rfl, P1, by decide, by decide, fun num0 H2 k2 P2 a2 b2 => ⟨_, _, rfl, ?_⟩⟩
    have F2 := F1.kp k2 P1
    have k12 := k1.trans k2
    refine ⟨Nat.zero_le _, fun ld hld => ?_⟩
    have nld : ld ≠ p := P2.free hld
    have hldH : H ld = none := by
      cases z : H ld with
      | none => rfl
      | some o => rw [k12 _ _ nld z] at hld; cases hld
    refine ⟨Nat.zero_le _, fun la hla => ?_⟩
    have Pd := P2.new hld (.lst [])
    have nla : la ≠ p := Pd.free hla
    have nda : ld ≠ la := fun z => by
      rw [← z, upd_same] at hla
      cases hla
    have hlaH : H la = none := by
      cases z : H la with
      | none => rfl
      | some o =>
        rw [upd_ne nda.symm, k12 _ _ nla z] at hla
        cases hla
    refine ⟨Nat.zero_le _, fun lf hlf => ⟨_, _, _, rfl, ?_⟩⟩
    have Pa := Pd.new hla (.lst [])
    have nlf : lf ≠ p := Pa.free hlf
    have naf : la ≠ lf := fun z => by
      rw [← z, upd_same] at hlf
      cases hlf
    have ndf : ld ≠ lf := fun z => by
      rw [← z, upd_ne nda, upd_same] at hlf
      cases hlf
    have hlfH : H lf = none := by
      cases z : H lf with
      | none => rfl
      | some o =>
        rw [upd_ne naf.symm, upd_ne ndf.symm, k12 _ _ nlf z] at hlf
        cases hlf
    have k3 : Kp p H2 (upd (upd (upd H2 ld (.lst [])) la (.lst [])) lf (.lst [])) := ((Kp.new hld _).trans (Kp.new hla _)).trans (Kp.new hlf _)
    have P3 := Pa.new hlf (.lst [])
    have e3d : (upd (upd (upd H2 ld (.lst [])) la (.lst [])) lf (.lst [])) ld = some (.lst []) := by rw [upd_ne ndf, upd_ne nda, upd_same]
    have e3a : (upd (upd (upd H2 ld (.lst [])) la (.lst [])) lf (.lst [])) la = some (.lst []) := by rw [upd_ne naf, upd_same]
    have e3f : (upd (upd (upd H2 ld (.lst [])) la (.lst [])) lf (.lst [])) lf = some (.lst []) := upd_same
    generalize (upd (upd (upd H2 ld (.lst [])) la (.lst [])) lf (.lst [])) = H3 at k3 P3 e3d e3a e3f
    refine ⟨_, rfl, _, rfl, _, _, rfl, rfl, p, most + 1, rfl, P3, by omega, by omega, fun many H4 k4 P4 a4 b4 => ?_⟩
    refine ⟨_, rfl, by omega, by omega, ?_⟩
    refine for_range (lo := 0) (n := many.toNat) (fun i σ H' => ∃ y7 y8, ∃ (num : Int) (zs : List (Addr × En)), σ = [some (.ref p), some (.int most), some (.ref fk), some (.int num), some (.ref ld), some (.ref la), some (.ref lf), y7, y8] ∧ Kp p H H' ∧ PenAt H' p ∧ FolkAt H' fk n ∧
        H' ld = some (.lst ((dn (ens zs)).map V.int)) ∧ H' la = some (.lst ((an (ens zs)).map V.int)) ∧ H' lf = some (.lst (refs zs)) ∧ (∀ z ∈ zs, EntAt H' z.1 z.2) ∧ zs.length = i ∧ BkOk n (ens zs) ∧ (∀ e ∈ ens zs, e.num < num) ∧ 0 ≤ num ∧ num ≤ 15 + (i : Int))
      ⟨none, none, num0, [], rfl, k12.trans (k3.trans k4), P4, (F2.kp k3 P2).kp k4 P3, k4 _ _ nld e3d, k4 _ _ nla e3a, k4 _ _ nlf e3f, (fun _ h => nomatch h), rfl, ⟨List.nodup_nil, (fun _ h => nomatch h), (fun _ h => nomatch h)⟩, (fun _ h => nomatch h), a2, by omega⟩ ?_ ?_
    · rintro i σ H' hi ⟨y7, y8, num, zs, rfl, k', P', F', ed, ea, ef, hent, hlen, hok, hlt, hn0, hn1⟩
      have hel : (ens zs).length = i := by rw [List.length_map, hlen]
      have hdl := dn_len (ens zs)
      have hal := an_len (ens zs)
      -- entry_here
      refine ⟨_, rfl, _, rfl, _, rfl, _, rfl, _, rfl, p, fk, ld, la, num, n, dn (ens zs), an (ens zs), rfl, P', F', hn2', hn6, ed, nld, ea, nla, dn_nodup hok.nd, by omega, by omega, fun d hd => ?_, fun d hd => ?_, fun a e H5 k5 P5 E5 hnum hEn => ?_⟩
      · obtain ⟨e, he, rfl⟩ := List.mem_map.mp (dn_sub _ _ hd)
        exact hlt e he
      · obtain ⟨e, he, rfl⟩ := List.mem_map.mp (an_sub _ _ hd)
        exact hlt e he
      have kT5 := k5.tup P'
      have ed5 := k5 _ _ nld ed
      have ea5 := k5 _ _ nla ea
      have ef5 := k5 _ _ nlf ef
      -- found.append
      refine ⟨_, rfl, .inl ⟨rfl, _, SqL.of ef5⟩, _, rfl, lf, _, _, rfl, rfl, ef5, small1000 (by rw [List.length_map]; omega), ?_⟩
      have kT6 := KpT.lst ef5 (.lst (refs zs ++ [.ref a]))
      have P6 := P5.put nlf (.lst (refs zs ++ [.ref a]))
      have k6 := (k'.trans k5).over hlfH (.lst (refs zs ++ [.ref a]))
      have ed6 := (show (upd H5 lf (.lst (refs zs ++ [.ref a]))) ld = H5 ld from upd_ne ndf).trans ed5
      have ea6 := (show (upd H5 lf (.lst (refs zs ++ [.ref a]))) la = H5 la from upd_ne naf).trans ea5
      have ef6 := (show (upd H5 lf (.lst (refs zs ++ [.ref a]))) lf = some (.lst (refs zs ++ [.ref a])) from upd_same)
      have E6 := E5.kp kT6
      have hent6 : ∀ z ∈ zs, EntAt (upd H5 lf (.lst (refs zs ++ [.ref a]))) z.1 z.2 := fun z hz => ((hent z hz).kp kT5).kp kT6
      have F6 := (F'.kpT kT5).kpT kT6
      generalize (upd H5 lf (.lst (refs zs ++ [.ref a]))) = H6 at kT6 P6 k6 ed6 ea6 ef6 E6 hent6 F6
      obtain ⟨xs6, ex6, _, _, _, _, g4⟩ := E6.tup
      refine ⟨_, rfl, a, xs6, 4, _, rfl, rfl, SqT.of ex6, g4, rfl, _, rfl, ?_⟩
      have okE : BkOk n (ens zs ++ [e]) := by
        have hd : ∀ x ∈ dn (ens zs), x ∈ dn (ens zs ++ [e]) := fun x hx => by rw [dn_snoc]; exact List.mem_append_left _ hx
        have ha : ∀ x ∈ an (ens zs), x ∈ an (ens zs ++ [e]) := fun x hx => by rw [an_snoc]; exact List.mem_append_left _ hx
        refine ⟨?_, fun e' he' => ?_, fun e' he' => ?_⟩
        · rw [List.map_append]
          refine List.nodup_append.mpr ⟨hok.nd, List.pairwise_singleton _ _, fun x hx y hy => ?_⟩
          obtain ⟨e', he', rfl⟩ := List.mem_map.mp hx
          have hy' : y = e.num := by simpa using hy
          rw [hy', hnum]
          exact Int.ne_of_lt (hlt e' he')
        · rcases List.mem_append.mp he' with he' | he'
          · exact hok.rng e' he'
          · rw [List.mem_singleton.mp he', hnum]
            omega
        · rcases List.mem_append.mp he' with he' | he'
          · exact (hok.ok e' he').mono hd ha
          · rw [List.mem_singleton.mp he']
            exact hEn.mono hd ha
      have wd := hEn.word
      -- the last row of a turn
      refine ite2 (fun c => ?deed) (fun c => ?act)
      case deed =>
        have hd : e.isDeed = true := wd.mp (by
          have := of_decide_eq_true c
          injection this)
        refine ⟨_, rfl, .inl ⟨rfl, _, SqL.of ed6⟩, _, rfl, ld, _, _, rfl, rfl, ed6, small1000 (by rw [List.length_map]; omega), ?_⟩
        have kT7 := KpT.lst ed6 (.lst ((dn (ens zs)).map V.int ++ [.int num]))
        have P7 := P6.put nld (.lst ((dn (ens zs)).map V.int ++ [.int num]))
        have k7 := k6.over hldH (.lst ((dn (ens zs)).map V.int ++ [.int num]))
        have ea7 := (show (upd H6 ld (.lst ((dn (ens zs)).map V.int ++ [.int num]))) la = H6 la from upd_ne nda.symm).trans ea6
        have ef7 := (show (upd H6 ld (.lst ((dn (ens zs)).map V.int ++ [.int num]))) lf = H6 lf from upd_ne ndf.symm).trans ef6
        have ed7 := (show (upd H6 ld (.lst ((dn (ens zs)).map V.int ++ [.int num]))) ld = some (.lst ((dn (ens zs)).map V.int ++ [.int num])) from upd_same)
        have E7 := E6.kp kT7
        have F7 := F6.kpT kT7
        have hent7 : ∀ z ∈ zs, EntAt (upd H6 ld (.lst ((dn (ens zs)).map V.int ++ [.int num]))) z.1 z.2 := fun z hz => (hent6 z hz).kp kT7
        generalize (upd H6 ld (.lst ((dn (ens zs)).map V.int ++ [.int num]))) = H7 at kT7 P7 k7 ea7 ef7 ed7 E7 F7 hent7
        have dn7 : dn (ens zs) ++ [num] = dn (ens (zs ++ [(a, e)])) := by
          rw [show ens (zs ++ [(a, e)]) = ens zs ++ [e] by simp [ens], dn_snoc, if_pos hd, hnum]
        have an7 : an (ens zs) = an (ens (zs ++ [(a, e)])) := by
          rw [show ens (zs ++ [(a, e)]) = ens zs ++ [e] by simp [ens], an_snoc, if_pos hd, List.append_nil]
        refine ⟨_, rfl, _, _, rfl, rfl, ?_⟩
        refine ⟨_, rfl, p, 2, rfl, P7, by decide, by decide, fun v8 H8 k8 P8 a8 b8 => ?_⟩
        refine ⟨(by show 2 ≤ sizeLine; decide), fun m hm => ?_⟩
        refine ⟨_, rfl, _, rfl, _, _, rfl, rfl, _, _, rfl, rfl, .inr ⟨_, rfl, ?_⟩⟩
        have kM : Kp p H8 (upd H8 m (.lst [.int 0, .int v8])) := Kp.new hm _
        have eM : (upd H8 m (.lst [.int 0, .int v8])) m = some (.lst [.int 0, .int v8]) := upd_same
        have PM := P8.new hm (.lst [.int 0, .int v8])
        generalize (upd H8 m (.lst [.int 0, .int v8])) = H9 at kM eM PM
        have k9 := k8.trans kM
        have kT9 : KpT H7 H9 := k9.tup P7
        obtain ⟨dv, gv, hv⟩ : ∃ dv : Int, atI [V.int 0, V.int v8] (if decide (num < 14 + (0 + (i : Int))) then 1 else 0) = some (.int dv) ∧ 0 ≤ dv ∧ num + 1 + dv ≤ 15 + ((i : Int) + 1) := by
          by_cases hc : num < 14 + (0 + (i : Int))
          · rw [decide_eq_true hc]
            exact ⟨v8, atI_nat (j := 1) rfl, a8, by omega⟩
          · rw [decide_eq_false hc]
            exact ⟨0, atI_nat (j := 0) rfl, by omega, by omega⟩
        refine ⟨m, _, _, _, rfl, rfl, SqL.of eM, gv, _, _, rfl, rfl, ?_⟩
        refine ⟨_, _, num + 1 + dv, zs ++ [(a, e)], rfl, k7.trans k9, PM, F7.kpT kT9, ?_, ?_, ?_, fun z hz => ?_, ?_, ?_, fun e' he' => ?_, ?_, ?_⟩
        · rw [← dn7]
          refine (k9 _ _ nld ed7).trans ?_
          simp
        · rw [← an7]
          refine (k9 _ _ nla ea7).trans ?_
          simp
        · refine (k9 _ _ nlf ef7).trans ?_
          simp [refs]
        · rcases List.mem_append.mp hz with hz | hz
          · exact (hent7 z hz).kp kT9
          · rw [List.mem_singleton.mp hz]
            exact E7.kp kT9
        · rw [List.length_append, hlen]
          rfl
        · rw [show ens (zs ++ [(a, e)]) = ens zs ++ [e] by simp [ens]]
          exact okE
        · rw [show ens (zs ++ [(a, e)]) = ens zs ++ [e] by simp [ens]] at he'
          rcases List.mem_append.mp he' with he' | he'
          · have := hlt e' he'
            omega
          · rw [List.mem_singleton.mp he', hnum]
            omega
        · omega
        · omega
      case act =>
        have hd : e.isDeed = false := by
          cases hh : e.isDeed with
          | false => rfl
          | true =>
            refine absurd (decide_eq_true ?_) c
            rw [wd.mpr hh]
        refine ⟨_, rfl, .inl ⟨rfl, _, SqL.of ea6⟩, _, rfl, la, _, _, rfl, rfl, ea6, small1000 (by rw [List.length_map]; omega), ?_⟩
        have kT7 := KpT.lst ea6 (.lst ((an (ens zs)).map V.int ++ [.int num]))
        have P7 := P6.put nla (.lst ((an (ens zs)).map V.int ++ [.int num]))
        have k7 := k6.over hlaH (.lst ((an (ens zs)).map V.int ++ [.int num]))
        have ed7 := (show (upd H6 la (.lst ((an (ens zs)).map V.int ++ [.int num]))) ld = H6 ld from upd_ne nda).trans ed6
        have ef7 := (show (upd H6 la (.lst ((an (ens zs)).map V.int ++ [.int num]))) lf = H6 lf from upd_ne naf.symm).trans ef6
        have ea7 := (show (upd H6 la (.lst ((an (ens zs)).map V.int ++ [.int num]))) la = some (.lst ((an (ens zs)).map V.int ++ [.int num])) from upd_same)
        have E7 := E6.kp kT7
        have F7 := F6.kpT kT7
        have hent7 : ∀ z ∈ zs, EntAt (upd H6 la (.lst ((an (ens zs)).map V.int ++ [.int num]))) z.1 z.2 := fun z hz => (hent6 z hz).kp kT7
        generalize (upd H6 la (.lst ((an (ens zs)).map V.int ++ [.int num]))) = H7 at kT7 P7 k7 ea7 ef7 ed7 E7 F7 hent7
        have dn7 : dn (ens zs) = dn (ens (zs ++ [(a, e)])) := by
          rw [show ens (zs ++ [(a, e)]) = ens zs ++ [e] by simp [ens], dn_snoc, hd]
          simp
        have an7 : an (ens zs) ++ [num] = an (ens (zs ++ [(a, e)])) := by
          rw [show ens (zs ++ [(a, e)]) = ens zs ++ [e] by simp [ens], an_snoc, hd, hnum]
          simp
        refine ⟨_, rfl, _, _, rfl, rfl, ?_⟩
        refine ⟨_, rfl, p, 2, rfl, P7, by decide, by decide, fun v8 H8 k8 P8 a8 b8 => ?_⟩
        refine ⟨(by show 2 ≤ sizeLine; decide), fun m hm => ?_⟩
        refine ⟨_, rfl, _, rfl, _, _, rfl, rfl, _, _, rfl, rfl, .inr ⟨_, rfl, ?_⟩⟩
        have kM : Kp p H8 (upd H8 m (.lst [.int 0, .int v8])) := Kp.new hm _
        have eM : (upd H8 m (.lst [.int 0, .int v8])) m = some (.lst [.int 0, .int v8]) := upd_same
        have PM := P8.new hm (.lst [.int 0, .int v8])
        generalize (upd H8 m (.lst [.int 0, .int v8])) = H9 at kM eM PM
        have k9 := k8.trans kM
        have kT9 : KpT H7 H9 := k9.tup P7
        obtain ⟨dv, gv, hv⟩ : ∃ dv : Int, atI [V.int 0, V.int v8] (if decide (num < 14 + (0 + (i : Int))) then 1 else 0) = some (.int dv) ∧ 0 ≤ dv ∧ num + 1 + dv ≤ 15 + ((i : Int) + 1) := by
          by_cases hc : num < 14 + (0 + (i : Int))
          · rw [decide_eq_true hc]
            exact ⟨v8, atI_nat (j := 1) rfl, a8, by omega⟩
          · rw [decide_eq_false hc]
            exact ⟨0, atI_nat (j := 0) rfl, by omega, by omega⟩
        refine ⟨m, _, _, _, rfl, rfl, SqL.of eM, gv, _, _, rfl, rfl, ?_⟩
        refine ⟨_, _, num + 1 + dv, zs ++ [(a, e)], rfl, k7.trans k9, PM, F7.kpT kT9, ?_, ?_, ?_, fun z hz => ?_, ?_, ?_, fun e' he' => ?_, ?_, ?_⟩
        · rw [← dn7]
          refine (k9 _ _ nld ed7).trans ?_
          simp
        · rw [← an7]
          refine (k9 _ _ nla ea7).trans ?_
          simp
        · refine (k9 _ _ nlf ef7).trans ?_
          simp [refs]
        · rcases List.mem_append.mp hz with hz | hz
          · exact (hent7 z hz).kp kT9
          · rw [List.mem_singleton.mp hz]
            exact E7.kp kT9
        · rw [List.length_append, hlen]
          rfl
        · rw [show ens (zs ++ [(a, e)]) = ens zs ++ [e] by simp [ens]]
          exact okE
        · rw [show ens (zs ++ [(a, e)]) = ens zs ++ [e] by simp [ens]] at he'
          rcases List.mem_append.mp he' with he' | he'
          · have := hlt e' he'
            omega
          · rw [List.mem_singleton.mp he', hnum]
            omega
        · omega
        · omega
    · rintro σ H' ⟨y7, y8, num, zs, rfl, k', P', F', ed, ea, ef, hent, hlen, hok, hlt, hn0, hn1⟩
      refine ⟨_, rfl, _, rfl, p, 30, rfl, P', by decide, by decide, fun age H5 k5 P5 a5 b5 => ?_⟩
      refine ⟨_, rfl, _, rfl, p, lf, refs zs, rfl, P5, .inl (SqL.of (k5 _ _ nlf ef)), by rw [List.length_map]; omega, fun l ys H6 k6 P6 nl el hpm => ?_⟩
      refine ⟨l, ys, rfl, .inl ⟨SqL.of el, fun t ht => ?_⟩⟩
      have k7 : Kp p H6 (upd H6 t (.tup ys)) := Kp.new ht _
      have P7 := P6.new ht (.tup ys)
      refine ⟨(by show 3 ≤ sizeLine; decide), fun b hb => ?_⟩
      have k8 : Kp p (upd H6 t (.tup ys)) (upd (upd H6 t (.tup ys)) b (.tup [.ref fk, .int age, .ref t])) := Kp.new hb _
      obtain ⟨zs', hy, hz⟩ := perm_pairs (fun z : Addr × En => V.ref z.1) hpm zs rfl
      have kT : KpT H' (upd (upd H6 t (.tup ys)) b (.tup [.ref fk, .int age, .ref t])) := (k5.tup P').trans ((k6.tup P5).trans ((k7.tup P6).trans (k8.tup P7)))
      have hlen' : zs'.length = zs.length := hz.length_eq
      refine q b fk t n age zs' _ (k'.trans (k5.trans (k6.trans (k7.trans k8)))) (P7.new hb _) ⟨upd_same, F'.kpT kT, hn2', hn6, a5, by omega, ?_, fun z hz' => (hent z (hz.mem_iff.mp hz')).kp kT, hok.perm (hz.map _), by omega⟩ (by omega)
      refine k8.tup P7 _ _ ?_
      rw [upd_same, hy]
end
end Deed

namespace Deed
open PySem PySem.Spec PySem.W PyProof.Rows L2 LamX
/-! ### sorted(e, key=lambda x: x[0]) of a list or tuple of tuples -/
section
variable {prog : Program} {w : World} {A : Around} {E : Value → Shared → Prop} {s : Shared}
theorem collectT {l : Addr} {vs : List Value} {Q : List Value → Shared → Prop} (ht : s.heap.IsTuple l vs.toArray) (hsz : vs.length ≤ sizeLine)
    (h : Q vs { s with heap := (s.heap.push (seqObj "list" #[] 0)).update s.heap.objs.size (Obj.mapSeq (· ++ vs.toArray)) }) : wpAny (model prog w) A (collect (.ref l)) Q E s := by
  obtain ⟨ob, g0, gc, ep, gd⟩ := id ht
  have g1 : (s.heap.push (seqObj "list" #[] 0)).get? l = some ob := Heap.get?_push_of_some _ g0
  unfold collect
  refine wpAny_bind (m := _) (wpAny_runValue (codeAny_builtin entry_proto_collect' ?_))
  show wpAny _ _ (do again (.builtin "list.__iadd__" ⟨[← newList [], Value.ref l], []⟩)) _ _ s
  refine wpAny_bind (wpAny_newList (wpAny_pure ⟨Code.quiet_builtin _ (by decide +kernel), (codeAny_builtin entry_list_iadd' ?_)⟩))
  show wpAny _ _ (Builtin.List.listExtendWith (.ref s.heap.objs.size) (Value.ref l) (.ref s.heap.objs.size)) _ _ { s with heap := s.heap.push (seqObj "list" #[] 0) }
  unfold Builtin.List.listExtendWith
  refine wpAny_bind (wpAny_typeOf (T := "tuple") ⟨ob, g1, gc⟩ ?_)
  have tt : (Value.type "tuple" == Value.type "tuple") = true := by rfl
  rw [if_pos (by simp [tt])]
  refine wpAny_bind (listItems_at g1 gd ?_)
  refine wpAny_bind (listItems_at (n := 0) (xs := #[]) (Heap.get?_push_size _ rfl) rfl ?_)
  rw [if_neg (fun z => by simp at z)]
  refine wpAny_bind (listUpdate_at (n := 0) (xs := #[]) (Heap.get?_push_size _ rfl) rfl ?_ (Nat.zero_le _) (by show (#[] ++ vs.toArray).size ≤ sizeLine + 1; simp only [Array.size_append, List.size_toArray, List.length_nil]; omega))
  refine wpAny_pure (?_)
  show wpAny (model prog w) A (do let o ← load s.heap.objs.size; match o.data with | .seq xs _ => pure xs.toList | _ => unsupported "internal:collect") Q E { s with heap := (s.heap.push (seqObj "list" #[] 0)).update s.heap.objs.size (Obj.mapSeq (· ++ vs.toArray)) }
  refine wpAny_bind (wpAny_load (get?_update_seq (Heap.get?_push_size _ rfl) _) (?_))
  show wpAny _ _ (pure (((#[] : Array Value) ++ vs.toArray).toList)) Q E _
  rw [show (((#[] : Array Value) ++ vs.toArray).toList) = vs by simp]
  exact wpAny_pure h
theorem collectS {l : Addr} {vs : List Value} {Q : List Value → Shared → Prop} (hl : s.heap.IsList l vs.toArray ∨ s.heap.IsTuple l vs.toArray) (hsz : vs.length ≤ sizeLine)
    (h : Q vs { s with heap := (s.heap.push (seqObj "list" #[] 0)).update s.heap.objs.size (Obj.mapSeq (· ++ vs.toArray)) }) : wpAny (model prog w) A (collect (.ref l)) Q E s := by
  rcases hl with hl | hl
  · exact collect_list hl h hsz
  · exact collectT hl hsz h
/-- sorted(e, key=f), e a list or a tuple, the keys ints -/
theorem sortedK {β : Type} {l f : Addr} {vs : List Value} {bs : List β} {R : Value → β → Prop} {Q : Value → Shared → Prop} (k : β → Int) (hl : s.heap.IsList l vs.toArray ∨ s.heap.IsTuple l vs.toArray) (e : EachIs R vs bs) (hL : bs.length ≤ sizeLine) (hu : A.units + 66 < cLine)
    (turn : ∀ (v : Value) (x : β), R v x → x ∈ bs → ∀ (h : Heap) (tk : Nat), (∀ b o, s.heap.get? b = some o → h.get? b = some o) →
      wpAny (model prog w) A.in1.in1 (call (.ref f) [v]) (KeyPure (.int (k x)) { s with heap := h, toks := tk }) (fun _ _ => False) { s with heap := h, toks := tk })
    (h : ∀ out c h' tk, (∀ b o, s.heap.get? b = some o → h'.get? b = some o) → h'.get? (s.heap.objs.size + 1) = some (seqObj "list" (List.toArray out) c) → out.length = bs.length → EachIs R out (bs.mergeSort (dataLe false fun x => .int (k x))) →
      Q (.ref (s.heap.objs.size + 1)) { s with heap := h', toks := tk }) :
    wpAny (model prog w) A (call (.builtin "sorted") [.ref l] [(Str.ofString "key", .ref f)]) Q E s := by
  have hv : vs.length ≤ sizeLine := by rw [e.length]; exact hL
  have up : ∀ {g : Heap}, KeepsBut (s.heap.objs.size + 1) (copyHeap s.heap vs) g → ∀ b o, s.heap.get? b = some o → g.get? b = some o := fun kp b o z =>
    kp b o (Nat.ne_of_lt (Nat.lt_succ_of_lt (Heap.lt_size z))) (copyHeap_old z)
  have ez : ((s.heap.push (seqObj "list" #[] 0)).update s.heap.objs.size (Obj.mapSeq (· ++ vs.toArray))).objs.size = s.heap.objs.size + 1 := by rw [Heap.size_update, size_push']
  refine call_function_entry_kw kind_sorted plain_sorted entry_sorted (ksk_s1 _ _) ?_
  unfold Builtin.«sorted»
  refine wpAny_bind (m := checkCount "sorted" 1 1 _) (wpAny_pure (?_))
  refine wpAny_bind (collectS hl hv ?_)
  refine wpAny_bind (wpAny_newList (?_) hv)
  show wpAny _ _ _ _ _ { s with heap := copyHeap s.heap vs }
  rw [ez]
  refine wpAny_bind (wpAny_holding (wpAny_call_entry_kw slot_list_sort ⟨_, copyHeap_at s.heap vs, rfl⟩ entry_list_sort (?body) (ksk_l1 _ _)))
  case body =>
    show wpAny (model prog w) A.in1.in1 (Builtin.«list.sort» ⟨[.ref (s.heap.objs.size + 1)], [(Str.ofString "key", .ref f)]⟩) _ _ _
    rw [ksk_t1]
    refine keyH_tree (kz := bs.map fun x => PyData.int (k x)) (s := { s with heap := copyHeap s.heap vs }) (copyHeap_at s.heap vs) (by rw [List.length_map]; exact e.length.symm) hv (AllAlike.of fun _ _ => by simp [alike]) ?srt (fun d hd => ?dep)
      (keyH_turns (k := fun x => PyData.int (k x)) (s := { s with heap := copyHeap s.heap vs }) e fun v x hR hx h tk kp => turn v x hR hx h tk (up kp)) fun h' tk out c kp hD ko => ?fin
    case srt => exact Sortable.others fun _ => ⟨(fun z => nomatch z), (fun _ z => nomatch z)⟩
    case dep =>
      obtain ⟨x, _, rfl⟩ := List.mem_map.mp hd
      show A.units + 1 + 1 + PyData.depth (.int (k x)) < cLine
      simp only [PyData.depth]
      omega
    case fin =>
      exact ⟨_, rfl, wpAny_pure ⟨_, rfl, h out c h' tk (up kp) hD ((ko.length (by rw [List.length_map]; exact e.length.symm)).trans e.length) (keyedOut_each (fun x => PyData.int (k x)) ko e)⟩⟩
/-- the call of the lambda -/
theorem lam_key {f c' t : Addr} {x q : Str} {params : Arguments} {ix : Expr} {scope : Scope} {cl : List (Str × Addr)} {pm ctv : Value} {p1 p3 : Pos} {items : Array Value} {kk : Int} {u : Tok} {mg : Str → Option Value}
    (of : s.heap.get? f = some (kla_obj "<lambda>" q params (.Subscript (.Name x p1) ix p3) scope cl pm c' ctv)) (hcd : s.heap.CodeRec (.ref c') q) (hroom : A.depth < recursionLimit) (lim : s.heap.NoLimit) (ns : s.heap.Ns mainGlobals mg)
    (hk : scope.kind = .function) (hco : scope.isCoroutine = false) (hgen : scope.isGenerator = false) (hcell : ∀ y ∈ scope.names, y.2 ≠ .cell) (hloc : scope.names.lookup x = some .local)
    (hbind : ∀ v : Value, bindArgs (kla_fn "<lambda>" q params (.Subscript (.Name x p1) ix p3) scope cl pm (.ref c') ctv) ⟨[v], []⟩ = pure [(x, v)])
    (hix : ∀ (env : Env) (A : Around) (E : Value → Shared → Prop) (s' : Shared) (Q : Value → Shared → Prop), env.scope = scope → env.globals = mainGlobals → s'.heap.Ns mainGlobals mg → (∀ u tk, Q (.int 0 u) { s' with toks := tk }) → wpAny (model prog w) A (eval ix env) Q E s')
    (hpl : PlainIx ix) (hd : (x == ("__debug__" : Str)) = false) (ht : s.heap.IsTuple t items) (hx : items[0]? = some (.int kk u)) :
    wpAny (model prog w) A (call (.ref f) [.ref t]) (KeyPure (.int kk) s) (fun _ _ => False) s := by
  refine wpAny_call (kla_callFunE hroom of rfl hco hgen rfl hcd ?_)
  rw [hbind]
  refine wpAny_pure (wpAny_newFunctionEnv hcell (fun y hy => ?_) (fun h₁ hns hsb => ⟨lim.fresh _ hsb, ?_⟩) hk)
  · rw [List.mem_singleton.mp hy]
    exact hloc
  have kp : ∀ b o, s.heap.get? b = some o → h₁.get? b = some o := fun b o z => hsb.extBut b o (Nat.ne_of_lt (Heap.lt_size z)) (Heap.get?_push_of_some _ z)
  refine kla_codeExpr (Subscript_ (wpAny_Name (wpAny_loadName_local hk hloc hns (v := .ref t) (by simp) ?_) hd))
  refine hix _ _ _ _ _ rfl rfl (ns.keeps kp) fun u' tk' => ?_
  have ht1 : h₁.IsTuple t items := by
    obtain ⟨o, z1, z2, z3⟩ := ht
    exact ⟨o, kp _ _ z1, z2, z3⟩
  have hsz : 0 < items.size := by
    rcases Nat.eq_zero_or_pos items.size with z | z
    · rw [Array.getElem?_eq_none (by omega)] at hx
      cases hx
    · exact z
  refine subscriptTail_builtinR (x := .int kk u) (ht1.typeIs) slot_tuple_getitem.lookup (getItem_tuple (j := 0) (Q := fun r s' => r = .int kk u ∧ KeyPure (.int kk) s r s') ht1 (by decide) (by decide) (seqIndex_of (by decide) (by omega)) hx ⟨rfl, ?_⟩) (hpl _ _)
  exact ⟨h₁, _, rfl, kp, .int _ _⟩
end
end Deed

namespace Deed
open PySem PySem.Spec PySem.W PyProof.Rows L2 LamX
theorem each_vals {xs : List V} {us : List Value} (r : Vals xs us) : EachIs (fun u y => RelV y u) us xs := by
  induction r with
  | nil => exact .nil
  | cons h _ ih => exact .cons h ih
theorem vals_each {xs : List V} {us : List Value} (r : EachIs (fun u y => RelV y u) us xs) : Vals xs us := by
  induction r with
  | nil => exact .nil
  | cons h _ ih => exact .cons h ih
/-- sorted(e, key=lambda x: x[0]): some arrangement by the keys, at a new address; a table may have grown -/
def tSortK (K : PySem.W.Frag) (T : List (Addr × Str)) (te : TA) : TE := fun σ H Q => te σ H fun vs H1 => ∃ (a : Addr) (xs : List V) (ks : V → Int), vs = [.ref a] ∧ (SqL K H1 a xs ∨ SqT K H1 a xs) ∧ (∀ y ∈ xs, ∃ t r, y = .ref t ∧ H1 t = some (.tup (.int (ks y) :: r))) ∧ Tabs T H1 ∧
  ∀ p ys H2, ExtN H1 H2 → Tabs T H2 → H2 p = none → ys.Perm xs → ys.Pairwise (fun u v => ks u ≤ ks v) → Q (.ref p) (upd H2 p (.lst ys))
section
variable {X : Cx}
theorem pe_sortK {T : List (Addr × Str)} {c P : Addr} {k : Nat} {e ix : Expr} {te : TA} {x : Str} {params : Arguments} {scope : Scope} {p p1 p3 lpos kpos pos : Pos}
    (hg : Gl X "sorted") (hm : X.mg "sorted" = none) (ha : PA X [e] te) (hr : Room (k + 1) X.A) (TB : TabB X.base X.mg c P) (hcode : X.env.code = .ref c) (hmT : (P, X.env.qual ++ "<lambda>") ∈ T) (hu : ∀ p ∈ T, p.1 = P → p.2 = X.env.qual ++ "<lambda>")
    (hdef : defaultsOf params X.env = ([], [])) (hfree : ∀ y ∈ scope.names, y.2 ≠ .free)
    (hk : scope.kind = .function) (hco : scope.isCoroutine = false) (hgen : scope.isGenerator = false) (hcell : ∀ y ∈ scope.names, y.2 ≠ .cell) (hloc : scope.names.lookup x = some .local)
    (hbind : ∀ (q : Str) (cl : List (Str × Addr)) (pm cv ctv v : Value), bindArgs (kla_fn "<lambda>" q params (.Subscript (.Name x p1) ix p3) scope cl pm cv ctv) ⟨[v], []⟩ = pure [(x, v)])
    (hix : ∀ (env : Env) (A : Around) (E : Value → Shared → Prop) (s' : Shared) (Q : Value → Shared → Prop), env.scope = scope → env.globals = mainGlobals → s'.heap.Ns mainGlobals X.mg → (∀ u tk, Q (.int 0 u) { s' with toks := tk }) → wpAny (model X.prog X.w) A (eval ix env) Q E s')
    (hpl : PlainIx ix) (hd : (x == ("__debug__" : Str)) = false)
    (h1 : backTo pos (starEach [e] X.env) = (false, eval e X.env) :: backTo pos (starEach [] X.env) := by rfl) (h2 : (backTo pos (starEach [e] X.env)).any (·.1) = false := by rfl) :
    PE X (.Call (.Name "sorted" p) [e] [⟨some "key", .Lambda params (.Subscript (.Name x p1) ix p3) scope lpos, kpos⟩] pos) (tSortK X.K T te) := by
  refine ⟨fun pins s σ H Q I h => ?_⟩
  refine wpAny_Call_Name_kw (ld_blt I hg hm (show bootBuiltins "sorted" = some (.builtin "sorted") by decide +kernel) ?_)
  refine callWith_kw (thn (ha.run pos pins s σ H _ I h) fun us s1 ⟨vs, H1, I1, r1, q1⟩ => ?_) h1 h2 rfl rfl
  obtain ⟨a, xs, ks, rfl, hS, hxs, hT, q⟩ := q1
  obtain rfl := Vals.ref1 r1
  show wpAny _ _ (evalAll [(do let v ← eval (.Lambda params (.Subscript (.Name x p1) ix p3) scope lpos) X.env; standAt pos; pure v)]) _ _ s1
  refine wpAny_evalAll_cons (wpAny_bind (lam_make2 I1 TB hcode hmT hu hT hdef (fun y hy e => absurd e (hfree y hy)) fun f c' pm ctv H2 s2 I2 eN T2 hf hfn hfr hco' => wpAny_bind (wpAny_standAt (wpAny_pure (wpAny_evalAll_nil ?_)))))
  have seqs : ∃ its, Vals xs its ∧ xs.length ≤ sizeLine ∧ (s2.heap.IsList a its.toArray ∨ s2.heap.IsTuple a its.toArray) := by
    rcases hS with hS | hS
    · have hS2 : SqL X.K H2 a xs := by
        rcases hS with (z | ⟨o, z⟩) | z
        · exact .inl (.inl (eN _ _ z fun ps z' => by cases z'))
        · exact .inl (.inr ⟨o, eN _ _ z fun ps z' => by cases z'⟩)
        · exact .inr z
      obtain ⟨its, rv, hl, hz⟩ := I2.list hS2
      exact ⟨its, rv, hz, .inl hl.isList⟩
    · have hS2 : SqT X.K H2 a xs := by
        rcases hS with (z | ⟨o, z⟩) | z
        · exact .inl (.inl (eN _ _ z fun ps z' => by cases z'))
        · exact .inl (.inr ⟨o, eN _ _ z fun ps z' => by cases z'⟩)
        · exact .inr z
      obtain ⟨its, rv, hl, hz⟩ := I2.tuple hS2
      exact ⟨its, rv, hz, .inr hl⟩
  obtain ⟨its, rv, hz, hl⟩ := seqs
  have hun := hr.un
  have hdp := hr.dp
  show wpAny (model X.prog X.w) X.A (call (.builtin "sorted") [.ref a] [(Str.ofString "key", .ref f)]) _ _ s2
  refine sortedK (R := fun u y => RelV y u) ks hl (each_vals rv) hz (by omega) (fun u y hR hy h tk kp => ?_) fun out ep h' tk kp hD hlen eo => ?_
  · obtain ⟨t, r, rfl, ht⟩ := hxs y hy
    obtain rfl : u = Value.ref t := hR
    have ht2 := eN _ _ ht fun ps z' => by cases z'
    obtain ⟨_, its2, r2, o, ho, hc, n, hd2⟩ := I2.hok _ _ ht2
    obtain ⟨oc, vs, tt, c1, c2, c3⟩ := (I2.hok c' _ hco').1
    cases r2 with
    | cons ru r3 =>
      obtain ⟨tu, rfl⟩ := ru
      refine lam_key (u := tu) (s := { s2 with heap := h, toks := tk }) (kp _ _ hf) ⟨c', oc, vs, tt, rfl, kp _ _ c1, c2, c3⟩ ?_ (I2.nolimit.keeps kp) ((I2.mod.glob.keeps I2.bk).keeps kp) hk hco hgen hcell hloc (fun v => hbind _ _ _ _ _ v) hix hpl hd ⟨o, kp _ _ ho, hc, n, hd2⟩ (by simp)
      show X.A.depth < recursionLimit
      omega
  · rw [dataLe_int] at eo
    have hp : (xs.mergeSort fun a b => decide (ks a ≤ ks b)).Perm xs := List.mergeSort_perm _ _
    have hs : (xs.mergeSort fun a b => decide (ks a ≤ ks b)).Pairwise (fun u v => ks u ≤ ks v) := by
      have := List.pairwise_mergeSort (le := fun a b => decide (ks a ≤ ks b)) (fun a b c h1 h2 => by simp only [decide_eq_true_eq] at *; omega) (fun a b => by simp only [Bool.or_eq_true, decide_eq_true_eq]; omega) xs
      exact this.imp fun h => of_decide_eq_true h
    refine ⟨.ref _, _, I2.laid (t' := tk) kp (Nat.le_succ _) (show ObjOk X.prog X.w _ h' _ (.lst (xs.mergeSort fun a b => decide (ks a ≤ ks b))) from ⟨by rw [hp.length_eq]; exact hz, out, ep, vals_each eo, hD⟩), rfl, q _ _ H2 eN T2 (I2.hok.fresh (Nat.le_succ _)) hp hs⟩
end
end Deed

namespace Deed
open PySem PySem.Spec PyProof.Rows L2 LamX
/-! ### a def whose code object's table is told -/
theorem okC {P : Program} {w : World} {K : PySem.W.Frag} {mg : Str → Option Value} {base : Heap} {x qual : Str} {st : Stmt} {f c : Addr} {fd : FuncData} {N ps : List Str} {k : Nat} {sp : Sp} (F : Fun K x qual st f fd) (hc : fd.code = .ref c) (S : FnScope N ps (defScope st)) (len : ∀ vs H Q E, sp vs H Q E → vs.length = ps.length)
    (hbody : ∀ (A : Around) (outer : List Env) (s : Shared) (H : Hp) (vs : List V) (Q : VK) (E : XK), Room k (A.deeper (envOfC qual (defScope st) s.heap.objs.size f (.ref c))) → sp vs H Q E →
      ∃ t, PSs (cxOf CX0 P w K mg base N qual (defScope st) f (.ref c) A outer s H E).nox (defBody st) t ∧ t { nx := fun _ H' => Q .non H', rt := Q } (start N vs) H) : FnOk P w K mg base CX0 (k + 1) f fd ps sp := by
  obtain ⟨oc, od, kV, doc, pm, an, cdv, ct, osl, rfl, lk, hcd⟩ := F.ex
  have e : cdv = .ref c := hc
  subst e
  refine fn_of lk hcd S len fun A outer s H vs Q E hr hsp => ?_
  obtain ⟨t, h, q⟩ := hbody A outer s H vs Q E hr hsp
  exact ⟨t, h.nox, q⟩
/-- the number that stands ahead in the tuple at v -/
def keyAt (H : Hp) (v : V) : Int := match v with
  | .ref t => (match H t with
    | some (.tup (.int n :: _)) => n
    | _ => 0)
  | _ => 0
theorem EntAt.key {H : Hp} {a : Addr} {e : En} (h : EntAt H a e) : ∃ r, H a = some (.tup (.int e.num :: r)) ∧ keyAt H (.ref a) = e.num := by
  have fin : ∀ r, H a = some (.tup (.int e.num :: r)) → keyAt H (.ref a) = e.num := fun r z => by
    show (match H a with | some (.tup (.int n :: _)) => n | _ => 0) = e.num
    rw [z]
  unfold EntAt at h
  cases hk : e.kd with
  | deed g t rs ws =>
    rw [hk] at h
    obtain ⟨r, w, h1, _⟩ := h
    exact ⟨_, h1, fin _ h1⟩
  | act x o =>
    rw [hk] at h
    exact ⟨_, h, fin _ h⟩
/-- what isn't tracked, or a table -/
def Fresh (H : Hp) (p : Addr) : Prop := ∀ o, H p = some o → ∃ ps, o = .tbl ps
theorem Fresh.of {H H' : Hp} {p : Addr} (e : ExtN H H') (n : H' p = none) : Fresh H p := fun o z => by
  by_cases h : ∃ ps, o = .tbl ps
  · exact h
  · rw [e p o z fun ps q => h ⟨ps, q⟩] at n
    cases n
theorem Fresh.ne {H : Hp} {p b : Addr} {o : HO} (f : Fresh H p) (e : H b = some o) (h : ∀ ps, o ≠ .tbl ps) : b ≠ p := fun z => by
  rw [z] at e
  obtain ⟨ps, q⟩ := f o e
  exact h ps q
theorem Fresh.up {H H' : Hp} {p : Addr} (e : ExtN H H') (f : Fresh H' p) : Fresh H p := fun o z => by
  by_cases h : ∃ ps, o = .tbl ps
  · exact h
  · exact f o (e p o z fun ps q => h ⟨ps, q⟩)
theorem ExtN.tup {H H' : Hp} (e : ExtN H H') : KpT H H' := fun b xs z => e _ _ z fun ps q => by cases q
theorem ExtN.new {H : Hp} {p : Addr} (n : H p = none) (o : HO) : ExtN H (upd H p o) := .of fun b u e => by
  rw [upd_ne (ne_of_none e n)]
  exact e
theorem Tabs.new {T : List (Addr × Str)} {H : Hp} (t : Tabs T H) {p : Addr} (n : H p = none) (o : HO) : Tabs T (upd H p o) := t.ext fun b u e => by
  rw [upd_ne (ne_of_none e n)]
  exact e
/-- a tracked list is written: the tables stay -/
theorem Tabs.put {T : List (Addr × Str)} {H : Hp} (t : Tabs T H) {p : Addr} {xs : List V} (e : H p = some (.lst xs)) (o : HO) : Tabs T (upd H p o) := fun q hq => by
  obtain ⟨ps, h1, h2, h3⟩ := t q hq
  have n1 : q.1 ≠ p := fun z => by
    rw [z, e] at h1
    cases h1
  refine ⟨ps, by rw [upd_ne n1]; exact h1, h2, fun pos cv hc => ?_⟩
  obtain ⟨c, e1, e2⟩ := h3 pos cv hc
  refine ⟨c, e1, ?_⟩
  have n2 : c ≠ p := fun z => by
    rw [z, e] at e2
    unfold CodeO at e2
    cases e2
  rw [upd_ne n2]
  exact e2
theorem srt_num {H : Hp} {zs : List (Addr × En)} (he : ∀ z ∈ zs, EntAt H z.1 z.2) (nd : ((ens zs).map (·.num)).Nodup) (h : (refs zs).Pairwise (fun u v => keyAt H u ≤ keyAt H v)) : zs.Pairwise (fun a b => a.2.num < b.2.num) := by
  induction zs with
  | nil => exact .nil
  | cons z r ih =>
    have h1 := List.pairwise_cons.mp h
    have nd' : (z.2.num :: (ens r).map (·.num)).Nodup := nd
    have h2 := List.nodup_cons.mp nd'
    refine List.pairwise_cons.mpr ⟨fun y hy => ?_, ih (fun y hy => he y (List.mem_cons_of_mem _ hy)) h2.2 h1.2⟩
    have h3 := h1.1 (.ref y.1) (List.mem_map.mpr ⟨y, hy, rfl⟩)
    obtain ⟨_, _, k1⟩ := (he z List.mem_cons_self).key
    obtain ⟨_, _, k2⟩ := (he y (List.mem_cons_of_mem _ hy)).key
    rw [k1, k2] at h3
    have h4 : z.2.num ≠ y.2.num := fun q => h2.1 (List.mem_map.mpr ⟨y.2, List.mem_map.mpr ⟨y, hy, rfl⟩, q.symm⟩)
    omega
section
variable {P : Program} {w : World} {K : PySem.W.Frag} {mg : Str → Option Value} {base : Heap} {fRi : Addr} {dRi : FuncData} {T : List (Addr × Str)}
/-- an int of the module's top -/
def MgInt (mg : Str → Option Value) (x : Str) (i : Int) : Prop := ∃ t, mg x = some (.int i t)
theorem pe_num {X : Cx} {x : Str} {i : Int} {pos : Pos} (hg : Gl X x) (h : MgInt X.mg x i) (hd : (x == ("__debug__" : Str)) = false := by decide) : PE X (.Name x pos) (tC (.int i)) := by
  obtain ⟨t, h⟩ := h
  exact pe_glob hg h ⟨t, rfl⟩ hd
/-! ### the entries by their numbers -/
abbrev sRising : Stmt := topS 11
theorem scRising : FnScope ["book"] ["book"] (defScope sRising) := ⟨rfl, rfl, rfl, by decide +kernel, rfl, by decide +kernel, by decide +kernel⟩
/-- the book's text of the lambda's name -/
def qRis : Str := "entries_rising.<locals>.<lambda>"
def spRising (T : List (Addr × Str)) : Sp := fun vs H Q _ => ∃ (b fk t : Addr) (n : Nat) (age : Int) (zs : List (Addr × En)), vs = [.ref b] ∧ BookAt H b fk t n age zs ∧ Tabs T H ∧
  ∀ (p : Addr) (zs' : List (Addr × En)) (H' : Hp), ExtN H H' → Tabs T H' → Fresh H p → H' p = some (.lst (refs zs')) → zs'.Perm zs → zs'.Pairwise (fun a b => a.2.num < b.2.num) → Q (.ref p) H'
theorem ok_rising {f c tb : Addr} {fd : FuncData} {k : Nat} (F : Fun K "entries_rising" "entries_rising" sRising f fd) (hc : fd.code = .ref c) (TB : TabB base mg c tb) (ms : mg "sorted" = none) (mN : MgInt mg "NUMBER" 0) (hmT : (tb, qRis) ∈ T) (hu : ∀ p ∈ T, p.1 = tb → p.2 = qRis) :
    FnOk P w K mg base CX0 (k + 2) f fd ["book"] (spRising T) := by
  refine okC F hc scRising (fun vs H Q E h => ?_) (fun A outer s H vs Q E hr h => ?_)
  · obtain ⟨b, fk, t, n, age, zs, rfl, _⟩ := h
    rfl
  · obtain ⟨b, fk, t, n, age, zs, rfl, hB, hT, q⟩ := h
    refine ⟨_, pss_one (ps_ret (pe_sortK (T := T) (c := c) (P := tb) (k := k) (by rfl) ms (pa_cons (pe_ix ix_tup (pv 0) pe_int (fun _ _ => rfl)) pa_nil) hr TB rfl hmT hu rfl (by decide +kernel) rfl rfl rfl (by decide +kernel) rfl (fun _ _ _ _ _ _ => rfl) (fun env A E s' Q he hg hn hq => ?ix) (fun _ _ => rfl) (by decide))), ?_⟩
    case ix =>
      obtain ⟨tk, hN⟩ := mN
      refine Calls.Name_function_global (by rw [he]) (by unfold Env.kindOf; rw [he]; rfl) (Calls.loadGlobal_global (by rw [hg]; exact hn) hN (hq tk s'.toks))
    refine ⟨_, rfl, b, _, 2, _, rfl, rfl, SqT.of hB.at_, atI_nat (j := 2) rfl, t, refs zs, keyAt H, rfl, .inr (SqT.of hB.ents), fun y hy => ?_, hT, fun p ys H2 eN T2 np pm so => ?_⟩
    · obtain ⟨z, hz, rfl⟩ := List.mem_map.mp hy
      obtain ⟨r, h1, h2⟩ := (hB.ent z hz).key
      exact ⟨z.1, r, rfl, by rw [h2]; exact h1⟩
    · obtain ⟨zs', rfl, hp⟩ := perm_pairs (fun z : Addr × En => V.ref z.1) pm zs rfl
      refine q p zs' _ (eN.trans (ExtN.new np _)) (Tabs.new T2 np _) (Fresh.of eN np) upd_same hp (srt_num (fun z hz => hB.ent z (hp.mem_iff.mp hz)) (((hp.map _).map _).nodup_iff.mpr hB.ok.nd) so)
end
end Deed

namespace Deed
open PySem PySem.Spec PyProof.Rows L2 LamX
theorem take_more {α : Type} {l : List α} {i : Nat} {x : α} (h : l[i]? = some x) : l.take (i + 1) = l.take i ++ [x] := by
  rw [List.take_add_one, h]
  rfl
theorem ref_at {zs : List (Addr × En)} {i : Nat} {x : V} (h : (refs zs)[i]? = some x) : ∃ z, zs[i]? = some z ∧ x = .ref z.1 := by
  rw [List.getElem?_map] at h
  cases e : zs[i]? with
  | none => rw [e] at h; cases h
  | some z =>
    rw [e] at h
    exact ⟨z, rfl, (Option.some.inj h).symm⟩
section
variable {P : Program} {w : World} {K : PySem.W.Frag} {mg : Str → Option Value} {base : Heap} {fRi fDe : Addr} {dRi dDe : FuncData} {T : List (Addr × Str)}
/-- what entries_rising needs -/
structure RisD (K : PySem.W.Frag) (mg : Str → Option Value) (base : Heap) (T : List (Addr × Str)) (f : Addr) (fd : FuncData) : Prop where
  D : Df K mg "entries_rising" sRising ["book"] f fd
  hc : ∃ c tb, fd.code = .ref c ∧ TabB base mg c tb ∧ (tb, qRis) ∈ T ∧ ∀ p ∈ T, p.1 = tb → p.2 = qRis
  ms : mg "sorted" = none
  mN : MgInt mg "NUMBER" 0
theorem RisD.ok {k : Nat} {f : Addr} {fd : FuncData} (R : RisD K mg base T f fd) : FnOk P w K mg base CX0 (k + 2) f fd ["book"] (spRising T) := by
  obtain ⟨c, tb, h1, h2, h3, h4⟩ := R.hc
  exact ok_rising R.D.F h1 h2 R.ms R.mN h3 h4
/-- the entries that φ picks, by their numbers -/
def spPick (φ : En → Bool) (T : List (Addr × Str)) : Sp := fun vs H Q _ => ∃ (b fk t : Addr) (n : Nat) (age : Int) (zs : List (Addr × En)), vs = [.ref b] ∧ BookAt H b fk t n age zs ∧ Tabs T H ∧
  ∀ (p : Addr) (zs' : List (Addr × En)) (H' : Hp), ExtN H H' → Tabs T H' → Fresh H p → H' p = some (.lst (refs (zs'.filter fun z => φ z.2))) → zs'.Perm zs → zs'.Pairwise (fun a b => a.2.num < b.2.num) → Q (.ref p) H'
/-! ### their numbers -/
/-- the numbers of what φ picks, rising -/
def spNums (φ : En → Bool) (T : List (Addr × Str)) : Sp := fun vs H Q _ => ∃ (b fk t : Addr) (n : Nat) (age : Int) (zs : List (Addr × En)), vs = [.ref b] ∧ BookAt H b fk t n age zs ∧ Tabs T H ∧
  ∀ (p : Addr) (zs' : List (Addr × En)) (H' : Hp), ExtN H H' → Tabs T H' → Fresh H p → H' p = some (.lst (((zs'.filter fun z => φ z.2).map fun z => z.2.num).map V.int)) → zs'.Perm zs → zs'.Pairwise (fun a b => a.2.num < b.2.num) → Q (.ref p) H'
end
end Deed

namespace Deed
open PySem PySem.Spec PyProof.Rows L2 LamX
/-! ### rules whose reading names K; a def that may be called; comprehensions at large -/
theorem ix_tupK {X : Cx} {K : PySem.W.Frag} (h : X.K = K) : IxR X (rIxT K) := h ▸ ix_tup
theorem ix_listK {X : Cx} {K : PySem.W.Frag} (h : X.K = K) : IxR X (rIxL K) := h ▸ ix_list
theorem in_seqK {X : Cx} {K : PySem.W.Frag} (h : X.K = K) : OpR X (compareOp .In) (rIn K false) := h ▸ op_in_seq
theorem notIn_seqK {X : Cx} {K : PySem.W.Frag} (h : X.K = K) : OpR X (compareOp .NotIn) (rIn K true) := h ▸ op_notIn_seq
theorem len_seqK {X : Cx} {K : PySem.W.Frag} (h : X.K = K) : CallR X (.builtin "len") (rLenS K) := h ▸ call_len_seq
structure CallOk (P : Program) (w : World) (K : PySem.W.Frag) (mg : Str → Option Value) (base : Heap) (L : Nat) (x : Str) (ps : List Str) (sp : Sp) where
  f : Addr
  fd : FuncData
  g : mg x = some (.ref f)
  kp : PySem.W.keepIn K (.ref f) = true
  b : Binds K fd ps []
  ok : FnOk P w K mg base CX0 L f fd ps sp
def CallOk.mono {P : Program} {w : World} {K : PySem.W.Frag} {mg : Str → Option Value} {base : Heap} {L L' : Nat} {x : Str} {ps : List Str} {sp : Sp} (c : CallOk P w K mg base L x ps sp) (h : L ≤ L') : CallOk P w K mg base L' x ps sp := ⟨c.f, c.fd, c.g, c.kp, c.b, c.ok.mono h⟩
def Df.call {P : Program} {w : World} {K : PySem.W.Frag} {mg : Str → Option Value} {base : Heap} {L : Nat} {x : Str} {st : Stmt} {ps : List Str} {f : Addr} {fd : FuncData} {sp : Sp} (D : Df K mg x st ps f fd) (G : FnOk P w K mg base CX0 L f fd ps sp) : CallOk P w K mg base L x ps sp := ⟨f, fd, D.g, D.F.kp, D.b, G⟩
theorem nodup_len : ∀ {l m : List Int}, l.Nodup → (∀ x ∈ l, x ∈ m) → l.length ≤ m.length
  | [], m, _, _ => Nat.zero_le _
  | a :: r, m, h, hs => by
    rw [List.nodup_cons] at h
    have ha := hs a List.mem_cons_self
    have h1 := nodup_len (l := r) (m := m.erase a) h.2 fun x hx => by
      have hne : x ≠ a := fun z => h.1 (z ▸ hx)
      exact (List.mem_erase_of_ne hne).mpr (hs x (List.mem_cons_of_mem _ hx))
    rw [List.length_erase_of_mem ha] at h1
    have := List.length_pos_of_mem ha
    rw [List.length_cons]
    omega
theorem none_back {H H' : Hp} {p : Addr} (s : Same H H') (n : H' p = none) : H p = none := by
  cases h : H p with
  | none => rfl
  | some o => rw [s _ _ h] at n; cases n
theorem same_refl (H : Hp) : Same H H := fun _ _ e => e
theorem take_filter {α : Type} {p : α → Bool} {ys : List α} {i : Nat} {y : α} (h : ys[i]? = some y) : (ys.take (i + 1)).filter p = (ys.take i).filter p ++ (if p y then [y] else []) := by
  rw [take_more h, List.filter_append]
  congr 1
  cases hp : p y <;> simp [hp]
section
variable {J : It} {n : Nat} {G : Hp → Prop} {Y : Nat → Hp → V → Hp → Prop} {g : TG} {tt : TT} {te : TE} {vs : List Nat} {σ : L2.St} {H1 : Hp} {D : Addr} {Qd : Hp → Prop} {α : Type}
abbrev LcGoal (J : It) (g : TG) (tt : TT) (te : TE) (vs : List Nat) (σ : L2.St) (H1 : Hp) (D : Addr) (Qd : Hp → Prop) : Prop :=
  ∃ W : Nat → Nat → Hp → Prop, (∃ m, W 0 m (upd H1 D (.lst []))) ∧ ∀ i m H, W i m H →
      (J.stop i H ∧ Qd H) ∨ (J.go i H ∧ ∃ Nx : Hp → Prop, (∀ H', Nx H' → ∃ m', m' < m ∧ W (i + 1) m' H') ∧ ∀ x H', J.yld i H x H' → g x (wipe σ vs) H' fun σ2 H2 => wipe σ2 vs = wipe σ vs ∧ tt σ2 H2 fun b H3 =>
        if b = true then te σ2 H3 fun y H4 => ∃ acc, H4 D = some (.lst acc) ∧ acc.length < sizeLine ∧ Nx (upd H4 D (.lst (acc ++ [y]))) else Nx H3)
/-- at large: St a step of the heap, In what holds of it, E what holds of an item -/
theorem lc_gen (w : Walk J n G Y) (ys : List α) (p : α → Bool) (In : Hp → Prop) (Sp1 : Hp → Hp → Prop) (E : Hp → α → V → Prop) (hn : ys.length = n) (hlen : ys.length ≤ 1000) (h0 : In (upd H1 D (.lst []))) (hG : ∀ H, In H → G H)
    (hSt : ∀ H H', In H → Sp1 H H' → In H' ∧ ∀ xs, H D = some (.lst xs) → H' D = some (.lst xs)) (hPut : ∀ H xs l, In H → H D = some (.lst xs) → In (upd H D (.lst l)))
    (hE : ∀ H H' y u, In H → Sp1 H H' → E H y u → E H' y u) (hEp : ∀ H xs l y u, In H → H D = some (.lst xs) → E H y u → E (upd H D (.lst l)) y u)
    (hs : ∀ i y x H H', ys[i]? = some y → In H → Y i H x H' → ∀ (Q1 : V → Hp → Prop) (Q0 : Hp → Prop), (p y = true → ∀ u H4, Sp1 H H4 → E H4 y u → Q1 u H4) → (p y = false → ∀ H3, Sp1 H H3 → Q0 H3) →
      g x (wipe σ vs) H' fun σ2 H2 => wipe σ2 vs = wipe σ vs ∧ tt σ2 H2 fun b H3 => if b = true then te σ2 H3 Q1 else Q0 H3)
    (hd : ∀ H (zs : List (V × α)), In H → H D = some (.lst (zs.map (·.1))) → zs.map (·.2) = ys.filter p → (∀ z ∈ zs, E H z.2 z.1) → Qd H) : LcGoal J g tt te vs σ H1 D Qd := by
  refine lc_it w (fun i H => In H ∧ ∃ zs : List (V × α), H D = some (.lst (zs.map (·.1))) ∧ zs.map (·.2) = (ys.take i).filter p ∧ ∀ z ∈ zs, E H z.2 z.1) ⟨h0, [], upd_same, rfl, fun _ h => nomatch h⟩ (fun i H _ h => hG H h.1) ?_ ?_
  · rintro i x H H' hi ⟨hI, zs, eD, ez, hz⟩ hY
    rw [← hn] at hi
    have hy : ys[i]? = some ys[i] := List.getElem?_eq_getElem hi
    have hzl : zs.length ≤ 1000 := by
      have h1 := congrArg List.length ez
      rw [List.length_map] at h1
      have h2 := List.length_filter_le p (ys.take i)
      rw [List.length_take] at h2
      omega
    refine hs i ys[i] x H H' hy hI hY _ _ (fun hp u H4 s4 e4 => ?_) (fun hp H3 s3 => ?_)
    · obtain ⟨I4, k4⟩ := hSt _ _ hI s4
      have eD4 := k4 _ eD
      refine ⟨_, eD4, small1000 (by rw [List.length_map]; omega), hPut _ _ _ I4 eD4, zs ++ [(u, ys[i])], ?_, ?_, fun z hzz => ?_⟩
      · rw [upd_same, List.map_append]
        rfl
      · rw [List.map_append, ez, take_filter hy, hp]
        rfl
      · rcases List.mem_append.mp hzz with h | h
        · exact hEp _ _ _ _ _ I4 eD4 (hE _ _ _ _ hI s4 (hz z h))
        · rw [List.mem_singleton.mp h]
          exact hEp _ _ _ _ _ I4 eD4 e4
    · obtain ⟨I3, k3⟩ := hSt _ _ hI s3
      refine ⟨I3, zs, k3 _ eD, ?_, fun z hzz => hE _ _ _ _ hI s3 (hz z hzz)⟩
      rw [ez, take_filter hy, hp]
      simp
  · rintro H ⟨hI, zs, eD, ez, hz⟩
    rw [← hn, List.take_length] at ez
    exact hd H zs hI eD ez hz
theorem same_put {H H1 : Hp} {D : Addr} (nD : H1 D = none) (s : Same H1 H) (o : HO) : Same H1 (upd H D o) := fun b u e => by
  rw [upd_ne (ne_of_none e nD)]
  exact s _ _ e
theorem same_new {H : Hp} {p : Addr} (n : H p = none) (o : HO) : Same H (upd H p o) := fun b u e => by rw [upd_ne (ne_of_none e n)]; exact e
/-- values; nothing but the new list is otherwise -/
theorem lc_sameV (w : Walk J n G Y) (ys : List α) (p : α → Bool) (v : α → V) (hn : ys.length = n) (hlen : ys.length ≤ 1000) (nD : H1 D = none) (hG : ∀ H, Same H1 H → G H)
    (hs : ∀ i y x H H', ys[i]? = some y → Same H1 H → Y i H x H' → ∀ (Q1 : V → Hp → Prop) (Q0 : Hp → Prop), (p y = true → ∀ H4, Same H H4 → Q1 (v y) H4) → (p y = false → ∀ H3, Same H H3 → Q0 H3) →
      g x (wipe σ vs) H' fun σ2 H2 => wipe σ2 vs = wipe σ vs ∧ tt σ2 H2 fun b H3 => if b = true then te σ2 H3 Q1 else Q0 H3)
    (hd : ∀ H, Same H1 H → H D = some (.lst ((ys.filter p).map v)) → Qd H) : LcGoal J g tt te vs σ H1 D Qd := by
  refine lc_gen w ys p (fun H => Same H1 H) Same (fun _ y u => u = v y) hn hlen (same_new nD _) hG (fun H H' h1 h2 => ⟨h1.trans h2, fun xs e => h2 _ _ e⟩) (fun H xs l h1 _ => same_put nD h1 _) (fun _ _ _ _ _ _ e => e) (fun _ _ _ _ _ _ _ e => e) (fun i y x H H' hy h1 hY Q1 Q0 q1 q0 => ?_) (fun H zs h1 e ez hz => ?_)
  · exact hs i y x H H' hy h1 hY Q1 Q0 (fun hp H4 s4 => q1 hp _ H4 s4 rfl) q0
  · refine hd H h1 ?_
    rw [e, ← ez, List.map_map]
    congr 2
    exact List.map_congr_left fun z hzz => hz z hzz
theorem lc_sameM (w : Walk J n G Y) (ys : List α) (v : α → V) (hn : ys.length = n) (hlen : ys.length ≤ 1000) (nD : H1 D = none) (hG : ∀ H, Same H1 H → G H)
    (hs : ∀ i y x H H', ys[i]? = some y → Same H1 H → Y i H x H' → ∀ (Q1 : V → Hp → Prop), (∀ H4, Same H H4 → Q1 (v y) H4) → g x (wipe σ vs) H' fun σ2 H2 => wipe σ2 vs = wipe σ vs ∧ te σ2 H2 Q1)
    (hd : ∀ H, Same H1 H → H D = some (.lst (ys.map v)) → Qd H) : LcGoal J g tYes te vs σ H1 D Qd := by
  refine lc_sameV w ys (fun _ => true) v hn hlen nD hG (fun i y x H H' hy h1 hY Q1 Q0 q1 q0 => ?_) (fun H h1 e => hd H h1 (by rw [e, List.filter_eq_self.mpr fun _ _ => rfl]))
  exact hs i y x H H' hy h1 hY Q1 (fun H4 s4 => q1 rfl H4 s4)
/-- new tuples -/
theorem lc_sameT (w : Walk J n G Y) (ys : List α) (p : α → Bool) (v : α → List V) (hn : ys.length = n) (hlen : ys.length ≤ 1000) (nD : H1 D = none) (hG : ∀ H, Same H1 H → G H)
    (hs : ∀ i y x H H', ys[i]? = some y → Same H1 H → Y i H x H' → ∀ (Q1 : V → Hp → Prop) (Q0 : Hp → Prop), (p y = true → ∀ t H4, Same H H4 → H4 t = some (.tup (v y)) → Q1 (.ref t) H4) → (p y = false → ∀ H3, Same H H3 → Q0 H3) →
      g x (wipe σ vs) H' fun σ2 H2 => wipe σ2 vs = wipe σ vs ∧ tt σ2 H2 fun b H3 => if b = true then te σ2 H3 Q1 else Q0 H3)
    (hd : ∀ H (zs : List (Addr × α)), Same H1 H → H D = some (.lst (zs.map fun z => .ref z.1)) → zs.map (·.2) = ys.filter p → (∀ z ∈ zs, H z.1 = some (.tup (v z.2))) → Qd H) : LcGoal J g tt te vs σ H1 D Qd := by
  refine lc_gen w ys p (fun H => Same H1 H) Same (fun H y u => ∃ t, u = .ref t ∧ H t = some (.tup (v y))) hn hlen (same_new nD _) hG (fun H H' h1 h2 => ⟨h1.trans h2, fun xs e => h2 _ _ e⟩) (fun H xs l h1 _ => same_put nD h1 _) (fun H H' y u _ h2 e => ?_) (fun H xs l y u h1 h2 e => ?_) (fun i y x H H' hy h1 hY Q1 Q0 q1 q0 => ?_) (fun H zs h1 e ez hz => ?_)
  · obtain ⟨t, e1, e2⟩ := e
    exact ⟨t, e1, h2 _ _ e2⟩
  · obtain ⟨t, e1, e2⟩ := e
    refine ⟨t, e1, ?_⟩
    rw [upd_ne fun z => by rw [z, h2] at e2; cases e2]
    exact e2
  · exact hs i y x H H' hy h1 hY Q1 Q0 (fun hp t H4 s4 e4 => q1 hp _ H4 s4 ⟨t, rfl, e4⟩) q0
  · have key : ∀ zs : List (V × α), (∀ z ∈ zs, ∃ t, z.1 = .ref t ∧ H t = some (.tup (v z.2))) → ∃ ws : List (Addr × α), zs.map (·.1) = ws.map (fun z => V.ref z.1) ∧ ws.map (·.2) = zs.map (·.2) ∧ ∀ z ∈ ws, H z.1 = some (.tup (v z.2)) := by
      intro zs
      induction zs with
      | nil => exact fun _ => ⟨[], rfl, rfl, fun _ h => nomatch h⟩
      | cons z r ih =>
        intro h
        obtain ⟨ws, a1, a2, a3⟩ := ih fun x hx => h x (List.mem_cons_of_mem _ hx)
        obtain ⟨t, e1, e2⟩ := h z List.mem_cons_self
        refine ⟨(t, z.2) :: ws, ?_, ?_, fun x hx => ?_⟩
        · rw [List.map_cons, List.map_cons, a1, e1]
        · rw [List.map_cons, List.map_cons, a2]
        · rcases List.mem_cons.mp hx with h | h
          · rw [h]
            exact e2
          · exact a3 x h
    obtain ⟨ws, a1, a2, a3⟩ := key zs hz
    exact hd H ws h1 (by rw [e, a1]) (by rw [a2, ez]) a3
end
end Deed

namespace Deed
open PySem PySem.Spec PyProof.Rows L2 LamX
section
variable {P : Program} {w : World} {K : PySem.W.Frag} {mg : Str → Option Value} {base : Heap} {fRi fDe : Addr} {dRi dDe : FuncData} {T : List (Addr × Str)}
abbrev sDeedE : Stmt := topS 12
theorem scDeedE : FnScope ["book", "entry"] ["book"] (defScope sDeedE) := ⟨rfl, rfl, rfl, by decide +kernel, rfl, by decide +kernel, by decide +kernel⟩
theorem ok_deedE {f : Addr} {fd : FuncData} {k : Nat} (F : Fun K "deed_entries" "deed_entries" sDeedE f fd) (R : RisD K mg base T fRi dRi) (mW : MgInt mg "WORD" 4) : FnOk P w K mg base CX0 (k + 3) f fd ["book"] (spPick (·.isDeed) T) := by
  have GR : FnOk P w K mg base CX0 (k + 2) fRi dRi ["book"] (spRising T) := R.ok
  refine F.ok scDeedE (fun vs H Q E h => ?_) (fun cdv A outer s H vs Q E hr h => ?_)
  · obtain ⟨b, fk, t, n, age, zs, rfl, _⟩ := h
    rfl
  · obtain ⟨b, fk, t, n, age, zs, rfl, hB, hT, q⟩ := h
    refine ⟨_, pss_one (ps_ret (pe_lc (own := [("entry", 1)]) (g := gName 1) (by rfl) scDeedE.nd (pi_list (pe_call GR hr (by rfl) R.D.g R.D.F.kp R.D.b .nil pass0 (pa_cons (pv 0) pa_nil))) (blkOk_by (own := [("entry", 1)]) (N := ["book", "entry"]) (sc := defScope sDeedE) (by decide +kernel)) (fun _ _ _ _ _ => pg_name (i := 1) scDeedE.nd rfl (Or.inl rfl))
      (fun _ _ _ _ _ => pts_one (pt_cmpR op_eq (show PE _ _ (tOp (rIxT K) (tVar 1) (tC (.int 4))) from pe_ix ix_tup (pv 1) (pe_num (by rfl) mW) (fun _ _ => rfl)) pe_str (nomark _))) (fun _ _ _ _ _ => pv 1))), ?_⟩
    refine ⟨_, rfl, b, fk, t, n, age, zs, rfl, hB, hT, fun p zs' H1 eN T1 fr ep pm so => ?_⟩
    have hent : ∀ z ∈ zs', EntAt H1 z.1 z.2 := fun z hz => (hB.ent z (pm.mem_iff.mp hz)).kp (ExtN.tup eN)
    refine ⟨p, rfl, ⟨_, SqL.of ep⟩, fun D nD => ?_⟩
    have npD : p ≠ D := ne_of_none ep nD
    refine lc_list (K := K) (a := p) (xs := refs zs') (fun i H' => H' D = some (.lst (refs ((zs'.take i).filter fun z => z.2.isDeed))) ∧ Same H1 H') ⟨upd_same, fun b o e => by rw [upd_ne (ne_of_none e nD)]; exact e⟩ (fun i H' _ h => SqL.of (h.2 _ _ ep)) ?_ ?_
    · rintro i x H' hx ⟨eD, sm⟩
      obtain ⟨z, hz, rfl⟩ := ref_at hx
      have hzm : z ∈ zs' := List.mem_of_getElem? hz
      obtain ⟨xs, ex, _, _, _, _, g4⟩ := ((hent z hzm).kp (Same.tup sm)).tup
      refine ⟨rfl, _, rfl, z.1, xs, 4, _, rfl, rfl, SqT.of ex, g4, rfl, _, rfl, ?_⟩
      have wd := (hB.ok.ok z.2 (List.mem_map.mpr ⟨z, pm.mem_iff.mp hzm, rfl⟩)).word
      have et := take_more hz
      refine ite2 (fun c => ?_) (fun c => ?_)
      · have hd : z.2.isDeed = true := wd.mp (by
          have := of_decide_eq_true c
          injection this)
        refine ⟨_, rfl, _, eD, small1000 ?_, ?_, fun b o e => ?_⟩
        · have h1 := List.length_filter_le (fun z : Addr × En => z.2.isDeed) (zs'.take i)
          have h2 := pm.length_eq
          have h3 := hB.len
          rw [List.length_map]
          rw [List.length_take] at h1
          omega
        · rw [upd_same, et, List.filter_append]
          simp [hd, refs]
        · have nb : b ≠ D := ne_of_none e nD
          rw [upd_ne nb]
          exact sm _ _ e
      · have hd : z.2.isDeed = false := by
          cases hh : z.2.isDeed with
          | false => rfl
          | true =>
            refine absurd (decide_eq_true ?_) c
            rw [wd.mpr hh]
        refine ⟨?_, sm⟩
        rw [eD, et, List.filter_append]
        simp [hd]
    · rintro H' ⟨eD, sm⟩
      have el : zs'.take (refs zs').length = zs' := List.take_of_length_le (by rw [List.length_map]; exact Nat.le_refl _)
      rw [el] at eD
      exact q D zs' H' (eN.trans (.of sm)) (T1.ext sm) (Fresh.of eN nD) eD pm so
end
end Deed

namespace Deed
open PySem PySem.Spec PyProof.Rows L2 LamX
section
variable {P : Program} {w : World} {K : PySem.W.Frag} {mg : Str → Option Value} {base : Heap} {fRi fDe : Addr} {dRi dDe : FuncData} {T : List (Addr × Str)}
abbrev sActE : Stmt := topS 13
theorem scActE : FnScope ["book", "entry"] ["book"] (defScope sActE) := ⟨rfl, rfl, rfl, by decide +kernel, rfl, by decide +kernel, by decide +kernel⟩
theorem ok_actE {f : Addr} {fd : FuncData} {k : Nat} (F : Fun K "act_entries" "act_entries" sActE f fd) (R : RisD K mg base T fRi dRi) (mW : MgInt mg "WORD" 4) : FnOk P w K mg base CX0 (k + 3) f fd ["book"] (spPick (fun e => !e.isDeed) T) := by
  have GR : FnOk P w K mg base CX0 (k + 2) fRi dRi ["book"] (spRising T) := R.ok
  refine F.ok scActE (fun vs H Q E h => ?_) (fun cdv A outer s H vs Q E hr h => ?_)
  · obtain ⟨b, fk, t, n, age, zs, rfl, _⟩ := h
    rfl
  · obtain ⟨b, fk, t, n, age, zs, rfl, hB, hT, q⟩ := h
    refine ⟨_, pss_one (ps_ret (pe_lc (own := [("entry", 1)]) (g := gName 1) (by rfl) scActE.nd (pi_list (pe_call GR hr (by rfl) R.D.g R.D.F.kp R.D.b .nil pass0 (pa_cons (pv 0) pa_nil))) (blkOk_by (own := [("entry", 1)]) (N := ["book", "entry"]) (sc := defScope sActE) (by decide +kernel)) (fun _ _ _ _ _ => pg_name (i := 1) scActE.nd rfl (Or.inl rfl))
      (fun _ _ _ _ _ => pts_one (pt_cmpR op_ne (show PE _ _ (tOp (rIxT K) (tVar 1) (tC (.int 4))) from pe_ix ix_tup (pv 1) (pe_num (by rfl) mW) (fun _ _ => rfl)) pe_str (nomark _))) (fun _ _ _ _ _ => pv 1))), ?_⟩
    refine ⟨_, rfl, b, fk, t, n, age, zs, rfl, hB, hT, fun p zs' H1 eN T1 fr ep pm so => ?_⟩
    have hent : ∀ z ∈ zs', EntAt H1 z.1 z.2 := fun z hz => (hB.ent z (pm.mem_iff.mp hz)).kp (ExtN.tup eN)
    refine ⟨p, rfl, ⟨_, SqL.of ep⟩, fun D nD => ?_⟩
    have npD : p ≠ D := ne_of_none ep nD
    refine lc_list (K := K) (a := p) (xs := refs zs') (fun i H' => H' D = some (.lst (refs ((zs'.take i).filter fun z => !z.2.isDeed))) ∧ Same H1 H') ⟨upd_same, fun b o e => by rw [upd_ne (ne_of_none e nD)]; exact e⟩ (fun i H' _ h => SqL.of (h.2 _ _ ep)) ?_ ?_
    · rintro i x H' hx ⟨eD, sm⟩
      obtain ⟨z, hz, rfl⟩ := ref_at hx
      have hzm : z ∈ zs' := List.mem_of_getElem? hz
      obtain ⟨xs, ex, _, _, _, _, g4⟩ := ((hent z hzm).kp (Same.tup sm)).tup
      refine ⟨rfl, _, rfl, z.1, xs, 4, _, rfl, rfl, SqT.of ex, g4, rfl, _, rfl, ?_⟩
      have wd := (hB.ok.ok z.2 (List.mem_map.mpr ⟨z, pm.mem_iff.mp hzm, rfl⟩)).word
      have et := take_more hz
      refine ite2 (fun c => ?_) (fun c => ?_)
      · have hd : z.2.isDeed = false := by
          cases hh : z.2.isDeed with
          | false => rfl
          | true =>
            have c' : (!decide (V.str z.2.word = V.str "deed")) = true := c
            rw [wd.mpr hh] at c'
            simp at c'
        refine ⟨_, rfl, _, eD, small1000 ?_, ?_, fun b o e => ?_⟩
        · have h1 := List.length_filter_le (fun z : Addr × En => !z.2.isDeed) (zs'.take i)
          have h2 := pm.length_eq
          have h3 := hB.len
          rw [List.length_map]
          rw [List.length_take] at h1
          omega
        · rw [upd_same, et, List.filter_append]
          simp [hd, refs]
        · have nb : b ≠ D := ne_of_none e nD
          rw [upd_ne nb]
          exact sm _ _ e
      · have hd : z.2.isDeed = true := by
          cases hh : z.2.isDeed with
          | true => rfl
          | false =>
            refine absurd ?_ c
            show (!decide (V.str z.2.word = V.str "deed")) = true
            have : ¬ (V.str z.2.word = V.str "deed") := fun q => by
              injection q with q
              rw [wd.mp q] at hh
              cases hh
            rw [decide_eq_false this]
            rfl
        refine ⟨?_, sm⟩
        rw [eD, et, List.filter_append]
        simp [hd]
    · rintro H' ⟨eD, sm⟩
      have el : zs'.take (refs zs').length = zs' := List.take_of_length_le (by rw [List.length_map]; exact Nat.le_refl _)
      rw [el] at eD
      exact q D zs' H' (eN.trans (.of sm)) (T1.ext sm) (Fresh.of eN nD) eD pm so
end
end Deed

namespace Deed
open PySem PySem.Spec PyProof.Rows L2 LamX
section
variable {P : Program} {w : World} {K : PySem.W.Frag} {mg : Str → Option Value} {base : Heap} {fRi fDe : Addr} {dRi dDe : FuncData} {T : List (Addr × Str)}
abbrev sDeedsOf : Stmt := topS 14
theorem scDeedsOf : FnScope ["book", "entry"] ["book"] (defScope sDeedsOf) := ⟨rfl, rfl, rfl, by decide +kernel, rfl, by decide +kernel, by decide +kernel⟩
theorem ok_DeedsOf {f : Addr} {fd : FuncData} {k : Nat} (F : Fun K "deeds_of" "deeds_of" sDeedsOf f fd) (DE : Df K mg "deed_entries" sDeedE ["book"] fDe dDe) (GE : FnOk P w K mg base CX0 (k + 3) fDe dDe ["book"] (spPick (·.isDeed) T)) (mN : MgInt mg "NUMBER" 0) : FnOk P w K mg base CX0 (k + 4) f fd ["book"] (spNums (·.isDeed) T) := by
  refine F.ok scDeedsOf (fun vs H Q E h => ?_) (fun cdv A outer s H vs Q E hr h => ?_)
  · obtain ⟨b, fk, t, n, age, zs, rfl, _⟩ := h
    rfl
  · obtain ⟨b, fk, t, n, age, zs, rfl, hB, hT, q⟩ := h
    refine ⟨_, pss_one (ps_ret (pe_lc (own := [("entry", 1)]) (g := gName 1) (by rfl) scDeedsOf.nd (pi_list (pe_call GE hr (by rfl) DE.g DE.F.kp DE.b .nil pass0 (pa_cons (pv 0) pa_nil))) (blkOk_by (own := [("entry", 1)]) (N := ["book", "entry"]) (sc := defScope sDeedsOf) (by decide +kernel)) (fun _ _ _ _ _ => pg_name (i := 1) scDeedsOf.nd rfl (Or.inl rfl))
      (fun _ _ _ _ _ => pts_nil) (fun _ _ _ _ _ => show PE _ _ (tOp (rIxT K) (tVar 1) (tC (.int 0))) from pe_ix ix_tup (pv 1) (pe_num (by rfl) mN) (fun _ _ => rfl)))), ?_⟩
    refine ⟨_, rfl, b, fk, t, n, age, zs, rfl, hB, hT, fun p zs' H1 eN T1 fr ep pm so => ?_⟩
    have hent : ∀ z ∈ zs', EntAt H1 z.1 z.2 := fun z hz => (hB.ent z (pm.mem_iff.mp hz)).kp (ExtN.tup eN)
    refine ⟨p, rfl, ⟨_, SqL.of ep⟩, fun D nD => ?_⟩
    refine lc_list (K := K) (a := p) (xs := refs (zs'.filter fun z => (·.isDeed) z.2)) (fun i H' => H' D = some (.lst ((((zs'.filter fun z => (·.isDeed) z.2).take i).map fun z => z.2.num).map V.int)) ∧ Same H1 H') ⟨upd_same, fun b o e => by rw [upd_ne (ne_of_none e nD)]; exact e⟩ (fun i H' _ h => SqL.of (h.2 _ _ ep)) ?_ ?_
    · rintro i x H' hx ⟨eD, sm⟩
      obtain ⟨z, hz, rfl⟩ := ref_at hx
      have hzm : z ∈ zs' := (List.mem_filter.mp (List.mem_of_getElem? hz)).1
      obtain ⟨xs, ex, g0, _⟩ := ((hent z hzm).kp (Same.tup sm)).tup
      refine ⟨rfl, ?_⟩
      unfold tYes
      dsimp only
      rw [if_pos rfl]
      refine ⟨_, rfl, z.1, xs, 0, _, rfl, rfl, SqT.of ex, g0, _, eD, small1000 ?_, ?_, fun b o e => ?_⟩
      · have h1 := List.length_filter_le (fun z : Addr × En => (·.isDeed) z.2) zs'
        have h2 := pm.length_eq
        have h3 := hB.len
        rw [List.length_map, List.length_map, List.length_take]
        omega
      · rw [upd_same, take_more hz, List.map_append, List.map_append]
        rfl
      · have nb : b ≠ D := ne_of_none e nD
        rw [upd_ne nb]
        exact sm _ _ e
    · rintro H' ⟨eD, sm⟩
      have el : (zs'.filter fun z => (·.isDeed) z.2).take (refs (zs'.filter fun z => (·.isDeed) z.2)).length = zs'.filter fun z => (·.isDeed) z.2 := List.take_of_length_le (by rw [List.length_map]; exact Nat.le_refl _)
      rw [el] at eD
      exact q D zs' H' (eN.trans (.of sm)) (T1.ext sm) (Fresh.of eN nD) eD pm so
end
end Deed

namespace Deed
open PySem PySem.Spec PyProof.Rows L2 LamX
theorem Tabs.kp {T : List (Addr × Str)} {H H' : Hp} {p : Addr} (t : Tabs T H) (k : Kp p H H') (P : PenAt H p) : Tabs T H' := fun q hq => by
  obtain ⟨ps, h1, h2, h3⟩ := t q hq
  refine ⟨ps, k _ _ (P.ne h1 fun _ z => by cases z) h1, h2, fun pos cv hc => ?_⟩
  obtain ⟨c, e1, e2⟩ := h3 pos cv hc
  exact ⟨c, e1, k _ _ (P.ne e2 fun _ z => by unfold CodeO at z; cases z) e2⟩
theorem ExtN.sqL {K : PySem.W.Frag} {H H' : Hp} {a : Addr} {xs : List V} (e : ExtN H H') (h : SqL K H a xs) : SqL K H' a xs := by
  rcases h with (z | ⟨o, z⟩) | z
  · exact .inl (.inl (e _ _ z fun ps z' => by cases z'))
  · exact .inl (.inr ⟨o, e _ _ z fun ps z' => by cases z'⟩)
  · exact .inr z
theorem ExtN.pen {H H' : Hp} {p : Addr} (e : ExtN H H') (h : PenAt H p) : PenAt H' p := by
  obtain ⟨x1, x2, x3, x4, z1, z2⟩ := h
  exact ⟨x1, x2, x3, x4, e _ _ z1 fun ps z => (by cases z), z2⟩
/-- with a pen that is new -/
theorem ExtN.kp {H H1 H2 : Hp} {p : Addr} (e : ExtN H H1) (n : H p = none) (k : Kp p H1 H2) : ExtN H H2 := fun b o z h => k b o (ne_of_none z n) (e b o z h)
theorem ExtN.put {H H' : Hp} {p : Addr} (e : ExtN H H') (f : Fresh H p) (o : HO) : ExtN H (upd H' p o) := fun b u z h => by
  rw [upd_ne (f.ne z h)]
  exact e b u z h
theorem rising_one : ∀ {l m : List Int}, l.Pairwise (· < ·) → m.Pairwise (· < ·) → (∀ x, x ∈ l ↔ x ∈ m) → l = m
  | [], [], _, _, _ => rfl
  | [], y :: m, _, _, h => absurd ((h y).mpr List.mem_cons_self) (by simp)
  | x :: l, [], _, _, h => absurd ((h x).mp List.mem_cons_self) (by simp)
  | x :: l, y :: m, h1, h2, h => by
    have a1 := List.pairwise_cons.mp h1
    have a2 := List.pairwise_cons.mp h2
    have exy : x = y := by
      have m1 := (h x).mp List.mem_cons_self
      have m2 := (h y).mpr List.mem_cons_self
      rcases List.mem_cons.mp m1 with e | e
      · exact e
      · rcases List.mem_cons.mp m2 with e' | e'
        · exact e'.symm
        · have := a1.1 y e'
          have := a2.1 x e
          omega
    subst exy
    congr 1
    refine rising_one a1.2 a2.2 fun z => ?_
    constructor
    · intro hz
      rcases List.mem_cons.mp ((h z).mp (List.mem_cons_of_mem _ hz)) with e | e
      · have := a1.1 z hz
        omega
      · exact e
    · intro hz
      rcases List.mem_cons.mp ((h z).mpr (List.mem_cons_of_mem _ hz)) with e | e
      · have := a2.1 z hz
        omega
      · exact e
/-- the picked numbers of an arrangement by numbers -/
def picked (φ : En → Bool) (zs : List (Addr × En)) : List Int := (zs.filter fun z => φ z.2).map fun z => z.2.num
theorem picked_up {φ : En → Bool} {zs : List (Addr × En)} (h : zs.Pairwise (fun a b => a.2.num < b.2.num)) : (picked φ zs).Pairwise (· < ·) := by
  unfold picked
  exact List.pairwise_map.mpr (h.filter _)
theorem mem_picked {φ : En → Bool} {zs : List (Addr × En)} {x : Int} : x ∈ picked φ zs ↔ ∃ z ∈ zs, φ z.2 = true ∧ z.2.num = x := by
  unfold picked
  simp only [List.mem_map, List.mem_filter]
  constructor
  · rintro ⟨z, ⟨h1, h2⟩, h3⟩
    exact ⟨z, h1, h2, h3⟩
  · rintro ⟨z, h1, h2, h3⟩
    exact ⟨z, ⟨h1, h2⟩, h3⟩
theorem picked_len (φ : En → Bool) (zs : List (Addr × En)) : (picked φ zs).length ≤ zs.length := by
  unfold picked
  rw [List.length_map]
  exact List.length_filter_le _ _
/-- two arrangements of the same entries -/
theorem picked_one {φ : En → Bool} {zs zs' : List (Addr × En)} (h : zs.Pairwise (fun a b => a.2.num < b.2.num)) (h' : zs'.Pairwise (fun a b => a.2.num < b.2.num)) (e : ∀ x, x ∈ ens zs ↔ x ∈ ens zs') : picked φ zs = picked φ zs' := by
  refine rising_one (picked_up h) (picked_up h') fun x => ?_
  rw [mem_picked, mem_picked]
  constructor
  · rintro ⟨z, h1, h2, h3⟩
    obtain ⟨z', h4, h5⟩ := List.mem_map.mp ((e z.2).mp (List.mem_map.mpr ⟨z, h1, rfl⟩))
    exact ⟨z', h4, by rw [h5]; exact h2, by rw [h5]; exact h3⟩
  · rintro ⟨z, h1, h2, h3⟩
    obtain ⟨z', h4, h5⟩ := List.mem_map.mp ((e z.2).mpr (List.mem_map.mpr ⟨z, h1, rfl⟩))
    exact ⟨z', h4, by rw [h5]; exact h2, by rw [h5]; exact h3⟩
theorem ens_perm {zs zs' : List (Addr × En)} (h : zs'.Perm zs) : ∀ x, x ∈ ens zs' ↔ x ∈ ens zs := fun x => (h.map _).mem_iff
end Deed

namespace Deed
open PySem PySem.Spec PyProof.Rows L2 LamX
/-! ### acts in force: the mathematics -/
def En.of (e : En) : Int := match e.kd with
  | .deed _ _ _ _ => -1
  | .act _ o => o
def isOpen (d k : Int) (e : En) : Bool := decide (e.day ≤ d) && decide (e.wri ≤ k)
/-- an entry of the word x that is of the number n -/
def isOn (x : Str) (n : Int) (e : En) : Bool := decide (e.word = x) && decide (e.of = n)
def frcF (es : List En) (d k : Int) : Nat → En → Bool
  | 0, _ => false
  | f + 1, e => isOpen d k e && es.all fun u => !(isOn "undone" e.num u && frcF es d k f u)
def frc (es : List En) (d k : Int) (e : En) : Bool := frcF es d k (31 - e.num).toNat e
theorem EnOk.of_lt {n : Nat} {ds as : List Int} {e : En} (h : EnOk n ds as e) (hd : e.isDeed = false) : e.of < e.num ∧ ((e.word = "undone" ∧ e.of ∈ as) ∨ ((e.word = "paid" ∨ e.word = "void") ∧ e.of ∈ ds)) := by
  unfold En.isDeed at hd
  unfold En.of En.word
  cases hk : e.kd with
  | deed g t rs ws =>
    rw [hk] at hd
    cases hd
  | act x o =>
    have h4 := h.2.2.2
    rw [hk] at h4
    exact ⟨h4.2, h4.1⟩
theorem isOn_act {n : Nat} {ds as : List Int} {e : En} {x : Str} {m : Int} (h : EnOk n ds as e) (hx : x ≠ "deed") (ho : isOn x m e = true) : e.isDeed = false ∧ e.word = x ∧ e.of = m := by
  unfold isOn at ho
  rw [Bool.and_eq_true] at ho
  have h1 := of_decide_eq_true ho.1
  have h2 := of_decide_eq_true ho.2
  refine ⟨?_, h1, h2⟩
  cases hd : e.isDeed with
  | false => rfl
  | true => exact absurd ((h.word.mpr hd).symm.trans h1) (fun z => hx z.symm)
theorem frcF_one {n : Nat} {es : List En} (hB : BkOk n es) (d k : Int) : ∀ (f g : Nat) (e : En), e ∈ es → (31 - e.num).toNat ≤ f → (31 - e.num).toNat ≤ g → frcF es d k f e = frcF es d k g e := by
  intro f
  induction f with
  | zero =>
    intro g e he hf _
    have := hB.rng e he
    omega
  | succ f ih =>
    intro g e he hf hg
    have re := hB.rng e he
    cases g with
    | zero => omega
    | succ g =>
      show (isOpen d k e && es.all fun u => !(isOn "undone" e.num u && frcF es d k f u)) = (isOpen d k e && es.all fun u => !(isOn "undone" e.num u && frcF es d k g u))
      congr 1
      have key : ∀ u ∈ es, (isOn "undone" e.num u && frcF es d k f u) = (isOn "undone" e.num u && frcF es d k g u) := fun u hu => by
        cases ho : isOn "undone" e.num u with
        | false => rfl
        | true =>
          obtain ⟨h1, h2, h3⟩ := isOn_act (hB.ok u hu) (by decide) ho
          have lt := ((hB.ok u hu).of_lt h1).1
          rw [ih g u hu (by omega) (by omega)]
      rw [Bool.eq_iff_iff, List.all_eq_true, List.all_eq_true]
      constructor
      · intro h u hu
        rw [← key u hu]
        exact h u hu
      · intro h u hu
        rw [key u hu]
        exact h u hu
theorem frcF_eq {n : Nat} {es : List En} (hB : BkOk n es) (d k : Int) {f : Nat} {e : En} (he : e ∈ es) (hf : (31 - e.num).toNat ≤ f) : frcF es d k f e = frc es d k e := frcF_one hB d k _ _ e he hf (Nat.le_refl _)
/-- in force: open, and no undone of it in force -/
theorem frc_eq {n : Nat} {es : List En} (hB : BkOk n es) (d k : Int) {e : En} (he : e ∈ es) : frc es d k e = (isOpen d k e && es.all fun u => !(isOn "undone" e.num u && frc es d k u)) := by
  have re := hB.rng e he
  rw [← frcF_eq hB d k (f := 31) he (by omega)]
  show (isOpen d k e && es.all fun u => !(isOn "undone" e.num u && frcF es d k 30 u)) = _
  congr 1
  have key : ∀ u ∈ es, (isOn "undone" e.num u && frcF es d k 30 u) = (isOn "undone" e.num u && frc es d k u) := fun u hu => by
    cases ho : isOn "undone" e.num u with
    | false => rfl
    | true =>
      obtain ⟨h1, h2, h3⟩ := isOn_act (hB.ok u hu) (by decide) ho
      have lt := ((hB.ok u hu).of_lt h1).1
      rw [frcF_eq hB d k hu (by omega)]
  rw [Bool.eq_iff_iff, List.all_eq_true, List.all_eq_true]
  constructor
  · intro h u hu
    rw [← key u hu]
    exact h u hu
  · intro h u hu
    rw [key u hu]
    exact h u hu
theorem frc_open {n : Nat} {es : List En} (hB : BkOk n es) {d k : Int} {e : En} (he : e ∈ es) (h : frc es d k e = true) : isOpen d k e = true := by
  rw [frc_eq hB d k he, Bool.and_eq_true] at h
  exact h.1
theorem num_inj {n : Nat} {es : List En} (hB : BkOk n es) {e e' : En} (he : e ∈ es) (he' : e' ∈ es) (h : e.num = e'.num) : e = e' := by
  obtain ⟨i1, hi1, ei1⟩ := List.mem_iff_getElem.mp he
  obtain ⟨i2, hi2, ei2⟩ := List.mem_iff_getElem.mp he'
  have h1 : (es.map (·.num))[i1]? = some e.num := by rw [List.getElem?_map, List.getElem?_eq_getElem hi1, ei1]; rfl
  have h2 : (es.map (·.num))[i2]? = some e.num := by rw [List.getElem?_map, List.getElem?_eq_getElem hi2, ei2, h]; rfl
  have h3 := nd_ix hB.nd h1 h2
  subst h3
  rw [← ei1, ← ei2]
end Deed

namespace Deed
open PySem PySem.Spec PyProof.Rows L2 LamX
/-! ### the law's own book of entries -/
abbrev dks (zs : List (Addr × En)) : List (Key × V) := zs.map fun z => (Sum.inl z.2.num, V.ref z.1)
structure EdAt (H : Hp) (ed : Addr) (n : Nat) (zs : List (Addr × En)) : Prop where
  at_ : H ed = some (.dK (dks zs))
  ent : ∀ z ∈ zs, EntAt H z.1 z.2
  ok : BkOk n (ens zs)
  len : zs.length ≤ 16
theorem EdAt.same {H H' : Hp} {ed : Addr} {n : Nat} {zs : List (Addr × En)} (h : EdAt H ed n zs) (s : Same H H') : EdAt H' ed n zs := ⟨s _ _ h.at_, fun z hz => (h.ent z hz).kp (Same.tup s), h.ok, h.len⟩
theorem valV_dks {zs : List (Addr × En)} (nd : ((ens zs).map (·.num)).Nodup) {z : Addr × En} (hz : z ∈ zs) : valV (dks zs) (.inl z.2.num) = some (.ref z.1) := by
  induction zs with
  | nil => cases hz
  | cons y r ih =>
    have nd' : (y.2.num :: (ens r).map (·.num)).Nodup := nd
    have h2 := List.nodup_cons.mp nd'
    show Option.map (·.2) (List.find? (fun kv => decide (kv.1 = (Sum.inl z.2.num : Key))) ((Sum.inl y.2.num, V.ref y.1) :: dks r)) = _
    rw [List.find?_cons]
    rcases List.mem_cons.mp hz with rfl | hz
    · simp
    · have hne : ¬ (Sum.inl y.2.num : Key) = Sum.inl z.2.num := fun q => by
        injection q with q
        exact h2.1 (List.mem_map.mpr ⟨z.2, List.mem_map.mpr ⟨z, hz, rfl⟩, q.symm⟩)
      rw [decide_eq_false hne]
      exact ih h2.2 hz
theorem EdAt.get {H : Hp} {ed : Addr} {n : Nat} {zs : List (Addr × En)} (h : EdAt H ed n zs) {z : Addr × En} (hz : z ∈ zs) : DGet H ed (.int z.2.num) (some (.ref z.1)) := by
  have := DGet.k (k := Sum.inl z.2.num) h.at_
  rw [valV_dks h.ok.nd hz] at this
  exact this
theorem mem_inS {x : Str} {ws : List Str} : inV (.str x) (ws.map V.str) = decide (x ∈ ws) := by
  induction ws with
  | nil => simp [inV]
  | cons m r ih =>
    have e : inV (.str x) ((m :: r).map V.str) = (eqV (.str m) (.str x) || inV (.str x) (r.map V.str)) := by simp [inV]
    have e2 : eqV (.str m) (.str x) = decide (m = x) := by
      first | rfl | simp [eqV] | (unfold eqV; simp)
    rw [e, ih, e2]
    by_cases h : m = x
    · subst h
      simp
    · have h' : ¬ x = m := fun z => h z.symm
      simp [h, h']
theorem flat_strs (ws : List Str) : (ws.map V.str).all flatV = true := by
  induction ws with
  | nil => rfl
  | cons n r ih =>
    rw [List.map_cons, List.all_cons, ih]
    rfl
theorem EntAt.five {H : Hp} {a : Addr} {e : En} (h : EntAt H a e) (hd : e.isDeed = false) : ∃ xs, H a = some (.tup xs) ∧ atI xs 5 = some (.int e.of) := by
  unfold EntAt at h
  unfold En.isDeed at hd
  unfold En.of
  cases hk : e.kd with
  | deed g t rs ws =>
    rw [hk] at hd
    cases hd
  | act x o =>
    rw [hk] at h
    exact ⟨_, h, atI_nat (j := 5) rfl⟩
section
variable {P : Program} {w : World} {K : PySem.W.Frag} {mg : Str → Option Value} {base : Heap} {T : List (Addr × Str)} {fOp fOf : Addr} {dOp dOf : FuncData}
abbrev sOpen : Stmt := topS 55
abbrev nOpen : List Str := ["_law_entry_here", "_law_d", "_law_k"]
theorem scOpen : FnScope nOpen nOpen (defScope sOpen) := ⟨rfl, rfl, rfl, by decide +kernel, rfl, by decide +kernel, by decide +kernel⟩
def spOpen : Sp := fun vs H Q _ => ∃ (a : Addr) (e : En) (d k : Int), vs = [.ref a, .int d, .int k] ∧ EntAt H a e ∧ Q (.bl (isOpen d k e)) H
theorem ok_open {f : Addr} {fd : FuncData} {k : Nat} (F : Fun K "_law_open" "_law_open" sOpen f fd) : FnOk P w K mg base CX0 (k + 1) f fd nOpen spOpen := by
  refine F.ok scOpen (fun vs H Q E h => ?_) (fun cdv A outer s H vs Q E hr h => ?_)
  · obtain ⟨a, e, d, k, rfl, _⟩ := h
    rfl
  · obtain ⟨a, e, d, k, rfl, hE, q⟩ := h
    refine ⟨_, pss_one (ps_ret (pe_and (pe_cmpR op_le (pe_ix ix_tup (pv 0) pe_int (fun _ _ => rfl)) (pv 1) (nomark _)) (pe_one (pe_cmpR op_le (pe_ix ix_tup (pv 0) pe_int (fun _ _ => rfl)) (pv 2) (nomark _))))), ?_⟩
    obtain ⟨xs, ex, _, g1, g2, _⟩ := hE.tup
    refine ⟨_, rfl, a, xs, 1, _, rfl, rfl, SqT.of ex, g1, _, rfl, _, _, rfl, rfl, _, rfl, ?_⟩
    unfold isOpen at q
    refine ite2 (fun c => ?_) (fun c => ?_)
    · have c' : decide (e.day ≤ d) = true := c
      rw [c', Bool.true_and] at q
      exact ⟨_, rfl, a, xs, 2, _, rfl, rfl, SqT.of ex, g2, _, rfl, _, _, rfl, rfl, q⟩
    · have c' : decide (e.day ≤ d) = false := by
        have : ¬ decide (e.day ≤ d) = true := c
        simpa using this
      rw [c', Bool.false_and] at q
      exact q
/-! ### those of a number -/
abbrev sOf : Stmt := topS 56
abbrev nOf : List Str := ["_law_entries_here", "_law_number", "_law_words_here", "_law_one"]
abbrev pOf : List Str := ["_law_entries_here", "_law_number", "_law_words_here"]
theorem scOf : FnScope nOf pOf (defScope sOf) := ⟨rfl, rfl, rfl, by decide +kernel, rfl, by decide +kernel, by decide +kernel⟩
def onAny (ws : List Str) (m : Int) (e : En) : Bool := decide (e.word ∈ ws) && decide (e.of = m)
def spOf : Sp := fun vs H Q _ => ∃ (ed wa : Addr) (m : Int) (ws : List Str) (n : Nat) (zs : List (Addr × En)), vs = [.ref ed, .int m, .ref wa] ∧ EdAt H ed n zs ∧ H wa = some (.tup (ws.map V.str)) ∧ ("deed" : Str) ∉ ws ∧
  ∀ p (ns : List Int) H', Same H H' → H p = none → H' p = some (.lst (ns.map V.int)) → ns.Perm (((ens zs).filter (onAny ws m)).map (·.num)) → ns.Pairwise (· ≤ ·) → Q (.ref p) H'
def t_of (K : PySem.W.Frag) : TT := tAnd (tTest (tOp (rIn K false) (tOp (rIxT K) (tDGet (tVar 0) (tVar 3)) (tC (.int 4))) (tVar 2))) (tTest (tOp rEq (tOp (rIxT K) (tDGet (tVar 0) (tVar 3)) (tC (.int 5))) (tVar 1)))
theorem ok_of {f : Addr} {fd : FuncData} {k : Nat} (F : Fun K "_law_of" "_law_of" sOf f fd) (ms : mg "sorted" = none) : FnOk P w K mg base CX0 (k + 1) f fd pOf spOf := by
  refine F.ok scOf (fun vs H Q E h => ?_) (fun cdv A outer s H vs Q E hr h => ?_)
  · obtain ⟨ed, wa, m, ws, n, zs, rfl, _⟩ := h
    rfl
  · obtain ⟨ed, wa, m, ws, n, zs, rfl, hE, hW, hnd, q⟩ := h
    have hu := hu_of hr
    refine ⟨_, pss_one (ps_ret (pe_callB cr_sortedI (by rfl) ms (by decide +kernel) (pa_cons (pe_lock (pe_lc (own := [("_law_one", 3)]) (g := gName 3) (by rfl) scOf.nd (pi_keys (pv 0)) (blkOk_by (own := [("_law_one", 3)]) (N := nOf) (sc := defScope sOf) (by decide +kernel)) (fun _ _ _ _ _ => pg_name (i := 3) scOf.nd rfl (Or.inl rfl))
      (fun _ _ _ _ _ => show PTs _ _ (t_of K) from pts_one (PW.pt (pw_and (pt_cmpR op_in_seq (pe_ix ix_tup (pe_dget hu (pv 0) (pv 3) (fun _ _ => rfl)) pe_int (fun _ _ => rfl)) (pv 2) (by rfl)) (pw_and1 (pt_cmpR op_eq (pe_ix ix_tup (pe_dget hu (pv 0) (pv 3) (fun _ _ => rfl)) pe_int (fun _ _ => rfl)) (pv 1) (nomark _)))))) (fun _ _ _ _ _ => pv 3))) pa_nil))), ?_⟩
    refine ⟨ed, _, hE.at_, trivial, fun od => ?_⟩
    have hL : ∀ b o, b ≠ ed → H b = some o → (upd H ed (.frz od (.dK (dks zs)))) b = some o := fun b o nb e => by
      rw [upd_ne nb]
      exact e
    have hLe : (upd H ed (.frz od (.dK (dks zs)))) ed = some (.frz od (.dK (dks zs))) := upd_same
    have hLn : ∀ b, (upd H ed (.frz od (.dK (dks zs)))) b = none → H b = none := fun b e => by
      have nb : b ≠ ed := fun z => by
        rw [z, upd_same] at e
        cases e
      rw [upd_ne nb] at e
      exact e
    generalize (upd H ed (.frz od (.dK (dks zs)))) = HL at hL hLe hLn
    have tupL : KpT H HL := fun b xs e => hL b _ (fun z => by rw [z, hE.at_] at e; cases e) e
    refine ⟨_, rfl, ed, od, rfl, .inl ⟨dks zs, hLe, fun D nD => ?_⟩⟩
    have nDe : ed ≠ D := ne_of_none hLe nD
    refine lc_it walk_keys (fun i H' => H' D = some (.lst ((((ens zs).take i).filter (onAny ws m)).map (fun e => V.int e.num))) ∧ Same HL H') ⟨upd_same, fun b o e => by rw [upd_ne (ne_of_none e nD)]; exact e⟩ (fun i H' _ h => h.2 _ _ hLe) ?_ ?_
    · rintro i x H' H'' hi ⟨eD, sm⟩ ⟨rfl, kk, vv, hkv, rfl⟩
      rw [List.getElem?_map] at hkv
      cases hz : zs[i]? with
      | none => rw [hz] at hkv; cases hkv
      | some z =>
        rw [hz] at hkv
        injection hkv with hkv
        injection hkv with hk hv
        subst hk
        have hzm : z ∈ zs := List.mem_of_getElem? hz
        have hzi : (ens zs)[i]? = some z.2 := by rw [List.getElem?_map, hz]; rfl
        have et := take_more hzi
        have dg : DGet H'' ed (.int z.2.num) (some (.ref z.1)) := by
          have h1 : DGet H'' ed (kV (.inl z.2.num)) (valV (dks zs) (.inl z.2.num)) := .inl ⟨dks zs, _, .inr ⟨od, sm _ _ hLe⟩, rfl, rfl⟩
          rw [valV_dks hE.ok.nd hzm] at h1
          exact h1
        have kT : KpT H H'' := tupL.trans (Same.tup sm)
        have hEz := (hE.ent z hzm).kp kT
        obtain ⟨xs, ex, _, _, _, _, g4⟩ := hEz.tup
        have hW'' := kT _ _ hW
        refine ⟨rfl, _, rfl, _, rfl, ed, _, rfl, dg, z.1, xs, 4, _, rfl, rfl, SqT.of ex, g4, _, rfl, wa, _, rfl, .inr (SqT.of hW''), rfl, flat_strs ws, _, rfl, ?_⟩
        rw [mem_inS]
        have okz := hE.ok.ok z.2 (List.mem_map.mpr ⟨z, hzm, rfl⟩)
        have out : ∀ hno : onAny ws m z.2 = false, H'' D = some (.lst ((((ens zs).take (i + 1)).filter (onAny ws m)).map (fun e => V.int e.num))) ∧ Same HL H'' := fun hno => by
          refine ⟨?_, sm⟩
          rw [eD, et, List.filter_append]
          simp [hno]
        refine ite2 (fun c1 => ?_) (fun c1 => ?_)
        · have c1' : z.2.word ∈ ws := of_decide_eq_true c1
          have hact : z.2.isDeed = false := by
            cases hh : z.2.isDeed with
            | false => rfl
            | true =>
              rw [okz.word.mpr hh] at c1'
              exact absurd c1' hnd
          obtain ⟨xs5, ex5, g5⟩ := hEz.five hact
          refine ⟨_, rfl, _, rfl, ed, _, rfl, dg, z.1, xs5, 5, _, rfl, rfl, SqT.of ex5, g5, _, rfl, rfl, _, rfl, ?_⟩
          refine ite2 (fun c2 => ?_) (fun c2 => ?_)
          · have c2' : z.2.of = m := by
              have := of_decide_eq_true c2
              injection this
            have hyes : onAny ws m z.2 = true := by
              unfold onAny
              rw [decide_eq_true c1', decide_eq_true c2']
              rfl
            refine ⟨_, rfl, _, eD, small1000 ?_, ?_, fun b o e => ?_⟩
            · have h1 := List.length_filter_le (onAny ws m) ((ens zs).take i)
              have h3 := hE.len
              rw [List.length_map]
              rw [List.length_take, List.length_map] at h1
              omega
            · rw [upd_same, et, List.filter_append]
              simp [hyes, kV]
            · rw [upd_ne (ne_of_none e nD)]
              exact sm _ _ e
          · refine out ?_
            have c2' : ¬ z.2.of = m := fun z0 => c2 (decide_eq_true (by rw [z0]))
            unfold onAny
            rw [decide_eq_false c2', Bool.and_false]
        · refine iteF (out ?_)
          have c1' : ¬ z.2.word ∈ ws := fun z0 => c1 (decide_eq_true z0)
          unfold onAny
          rw [decide_eq_false c1', Bool.false_and]
    · rintro H' ⟨eD, sm⟩
      have el : (ens zs).take (dks zs).length = ens zs := List.take_of_length_le (by rw [List.length_map, List.length_map]; exact Nat.le_refl _)
      rw [el] at eD
      have hed := sm _ _ hLe
      refine ⟨hed, ?_⟩
      have smU : Same H (upd H' ed (.dK (dks zs))) := fun b o e => by
        by_cases hb : b = ed
        · rw [hb] at e ⊢
          rw [upd_same, ← hE.at_]
          exact e
        · rw [upd_ne hb]
          exact sm _ _ (hL b o hb e)
      have eDU : (upd H' ed (.dK (dks zs))) D = some (.lst (((((ens zs).filter (onAny ws m)).map (·.num))).map V.int)) := by
        rw [upd_ne nDe.symm, eD, List.map_map]
        rfl
      generalize (upd H' ed (.dK (dks zs))) = HU at smU eDU
      refine ⟨D, _, rfl, SqL.of eDU, fun ns p pm up np => ?_⟩
      exact q p ns _ (smU.trans fun b o e => by rw [upd_ne (ne_of_none e np)]; exact e) (smU.free np) upd_same pm up
end
end Deed

namespace Deed
open PySem PySem.Spec PyProof.Rows L2 LamX
section
variable {P : Program} {w : World} {K : PySem.W.Frag} {mg : Str → Option Value} {base : Heap} {T : List (Addr × Str)} {fOp fOf fFo fDr : Addr} {dOp dOf dFo dDr : FuncData}
abbrev OpenD (K : PySem.W.Frag) (mg : Str → Option Value) := Df K mg "_law_open" sOpen nOpen
abbrev OfD (K : PySem.W.Frag) (mg : Str → Option Value) := Df K mg "_law_of" sOf pOf
/-! ### whether an act is in force, by itself -/
abbrev sForce : Stmt := topS 57
abbrev nForce : List Str := ["_law_entries_here", "_law_act", "_law_d", "_law_k", "_law_one"]
abbrev pForce : List Str := ["_law_entries_here", "_law_act", "_law_d", "_law_k"]
abbrev ForceD (K : PySem.W.Frag) (mg : Str → Option Value) := Df K mg "_law_force" sForce pForce
theorem scForce : FnScope nForce pForce (defScope sForce) := ⟨rfl, rfl, rfl, by decide +kernel, rfl, by decide +kernel, by decide +kernel⟩
def spForce (fu : Nat) : Sp := fun vs H Q _ => ∃ (ed : Addr) (e : En) (d k : Int) (n : Nat) (zs : List (Addr × En)), vs = [.ref ed, .int e.num, .int d, .int k] ∧ EdAt H ed n zs ∧ e ∈ ens zs ∧ (31 - e.num).toNat ≤ fu ∧ ∀ H', Same H H' → Q (.bl (frc (ens zs) d k e)) H'
theorem no_force {f : Addr} {fd : FuncData} {k : Nat} : FnOk P w K mg base CX0 k f fd pForce (spForce 0) := by
  have no : ∀ vs H Q E, ¬ spForce 0 vs H Q E := fun vs H Q E h => by
    obtain ⟨ed, e, d, k, n, zs, _, hE, he, hf, _⟩ := h
    have := hE.ok.rng e he
    omega
  exact ⟨fun vs H Q E h => absurd h (no vs H Q E), fun A outer s H args us vs Q E _ _ _ _ h => absurd h (no vs H Q E)⟩
theorem step_force {f : Addr} {fd : FuncData} {fu k : Nat} (D : ForceD K mg f fd) (DO : OpenD K mg fOp dOp) (DF : OfD K mg fOf dOf) (ms : mg "sorted" = none) (G : FnOk P w K mg base CX0 (k + 1) f fd pForce (spForce fu)) : FnOk P w K mg base CX0 (k + 2) f fd pForce (spForce (fu + 1)) := by
  have GO : FnOk P w K mg base CX0 (k + 1) fOp dOp nOpen spOpen := ok_open DO.F
  have GF : FnOk P w K mg base CX0 (k + 1) fOf dOf pOf spOf := ok_of DF.F ms
  refine D.F.ok scForce (fun vs H Q E h => ?_) (fun cdv A outer s H vs Q E hr h => ?_)
  · obtain ⟨ed, e, d, k, n, zs, rfl, _⟩ := h
    rfl
  · obtain ⟨ed, e, d, k', n, zs, rfl, hE, he, hf, q⟩ := h
    have hu := hu_of hr
    refine ⟨_, pss_cons (ps_if (pt_not (pt_val (pe_call GO hr (by rfl) DO.g DO.F.kp DO.b .nil pass0 (pa_cons (pe_dget hu (pv 0) (pv 1) (fun _ _ => rfl)) (pa_cons (pv 2) (pa_cons (pv 3) pa_nil)))))) (pss_one (ps_ret pe_bl)) pss_nil)
      (pss_one (ps_ret (pe_cmpR (op_eqD hr.units) (pe_lc (own := [("_law_one", 4)]) (g := gName 4) (by rfl) scForce.nd (pi_list (pe_call GF hr (by rfl) DF.g DF.F.kp DF.b .nil pass0 (pa_cons (pv 0) (pa_cons (pv 1) (pa_cons (pe_tup (pa_cons pe_str pa_nil)) pa_nil))))) (blkOk_by (own := [("_law_one", 4)]) (N := nForce) (sc := defScope sForce) (by decide +kernel)) (fun _ _ _ _ _ => pg_name (i := 4) scForce.nd rfl (Or.inl rfl))
        (fun _ _ _ _ _ => pts_one (pt_val (pe_call G hr (by rfl) D.g D.F.kp D.b .nil pass0 (pa_cons (pv 0) (pa_cons (pv 4) (pa_cons (pv 2) (pa_cons (pv 3) pa_nil))))))) (fun _ _ _ _ _ => pv 4)) (pe_lst pa_nil) (nomark _)))), ?_⟩
    obtain ⟨z, hz, rfl⟩ := List.mem_map.mp he
    refine ⟨_, rfl, _, rfl, ed, _, rfl, hE.get hz, _, rfl, _, rfl, z.1, z.2, d, k', rfl, hE.ent z hz, _, rfl, ?_⟩
    have fq := frc_eq hE.ok d k' he
    cases hop : isOpen d k' z.2 with
    | false =>
      refine iteT ?_
      rw [hop, Bool.false_and] at fq
      rw [fq] at q
      exact q H (Same.refl H)
    | true =>
      refine iteF ?_
      rw [hop, Bool.true_and] at fq
      refine ⟨_, rfl, _, rfl, (by show 1 ≤ sizeLine; decide), fun wa nwa => ?_⟩
      have s1 : Same H (upd H wa (.tup [.str "undone"])) := fun b o e => by rw [upd_ne (ne_of_none e nwa)]; exact e
      have e1 : (upd H wa (.tup [.str "undone"])) wa = some (.tup (([("undone" : Str)] : List Str).map V.str)) := upd_same
      generalize (upd H wa (.tup [.str "undone"])) = H1 at s1 e1
      refine ⟨ed, wa, z.2.num, ["undone"], n, zs, rfl, hE.same s1, e1, by decide, fun p ns H2 s2 np ep pm up => ?_⟩
      have s12 := s1.trans s2
      refine ⟨p, rfl, ⟨_, SqL.of ep⟩, fun D2 nD => ?_⟩
      refine lc_list (K := K) (a := p) (xs := ns.map V.int) (fun i H' => ∃ rs : List Int, H' D2 = some (.lst (rs.map V.int)) ∧ Same H2 H' ∧ rs.length ≤ i ∧ (rs = [] ↔ ∀ x ∈ ns.take i, ∀ u ∈ ens zs, u.num = x → frc (ens zs) d k' u = false)) ⟨[], upd_same, fun b o e => by rw [upd_ne (ne_of_none e nD)]; exact e, Nat.le_refl _, by simp⟩ (fun i H' _ h => ?_) ?_ ?_
      · obtain ⟨rs, _, sm, _⟩ := h
        exact SqL.of (sm _ _ ep)
      · rintro i x H' hx ⟨rs, eD, sm, hrl, hiff⟩
        rw [List.getElem?_map] at hx
        cases hn : ns[i]? with
        | none => rw [hn] at hx; cases hx
        | some m =>
          rw [hn] at hx
          injection hx with hx
          subst hx
          have hmm : m ∈ ((ens zs).filter (onAny ["undone"] z.2.num)).map (·.num) := pm.mem_iff.mp (List.mem_of_getElem? hn)
          obtain ⟨u, hu1, rfl⟩ := List.mem_map.mp hmm
          obtain ⟨hu2, hu3⟩ := List.mem_filter.mp hu1
          have hon : isOn "undone" z.2.num u = true := by
            unfold onAny at hu3
            unfold isOn
            simpa using hu3
          obtain ⟨h1, h2, h3⟩ := isOn_act (hE.ok.ok u hu2) (by decide) hon
          have lt := ((hE.ok.ok u hu2).of_lt h1).1
          have ru := hE.ok.rng u hu2
          have et := take_more hn
          have hlen : ns.length ≤ 16 := by
            rw [pm.length_eq, List.length_map]
            have a1 := List.length_filter_le (onAny ["undone"] z.2.num) (ens zs)
            rw [List.length_map] at a1
            have a2 := hE.len
            omega
          have hi : i < ns.length := (List.getElem?_eq_some_iff.mp hn).1
          refine ⟨rfl, _, rfl, _, rfl, _, rfl, _, rfl, ed, u, d, k', n, zs, rfl, (hE.same s12).same sm, hu2, by omega, fun H3 s3 => ⟨_, rfl, ?_⟩⟩
          cases hfr : frc (ens zs) d k' u with
          | true =>
            refine iteT ?_
            refine ⟨_, rfl, _, s3 _ _ eD, small1000 (by rw [List.length_map]; omega), rs ++ [u.num], ?_, fun b o e => ?_, ?_, ?_⟩
            · rw [upd_same, List.map_append]
              rfl
            · rw [upd_ne (ne_of_none e nD)]
              exact s3 _ _ (sm _ _ e)
            · rw [List.length_append]
              show rs.length + 1 ≤ i + 1
              omega
            · constructor
              · intro h
                exact absurd h (by simp)
              · intro h
                have := h u.num (by rw [et]; exact List.mem_append_right _ List.mem_cons_self) u hu2 rfl
                rw [hfr] at this
                cases this
          | false =>
            refine iteF ?_
            refine ⟨rs, s3 _ _ eD, sm.trans s3, by omega, ?_⟩
            rw [hiff, et]
            constructor
            · intro h x hx u' hu' he'
              rcases List.mem_append.mp hx with hx | hx
              · exact h x hx u' hu' he'
              · rw [List.mem_singleton.mp hx] at he'
                rw [num_inj hE.ok hu' hu2 he']
                exact hfr
            · intro h x hx u' hu' he'
              exact h x (List.mem_append_left _ hx) u' hu' he'
      · rintro H' ⟨rs, eD, sm, hrl, hiff⟩
        have el : ns.take (ns.map V.int).length = ns := List.take_of_length_le (by rw [List.length_map]; exact Nat.le_refl _)
        rw [el] at hiff
        refine ⟨Nat.zero_le _, fun g ng => ?_⟩
        have s3 : Same H' (upd H' g (.lst [])) := fun b o e => by rw [upd_ne (ne_of_none e ng)]; exact e
        have eg : (upd H' g (.lst [])) g = some (.lst []) := upd_same
        refine ⟨.list (rs.map .int), .list (([] : List Int).map .int), .lst (SqL.of (s3 _ _ eD)) (dp_ints rs), .lst (SqL.of eg) (dp_ints []), shaped_ints rs, shaped_ints [], ?_⟩
        rw [eqv_ints]
        have fin : decide (rs = []) = frc (ens zs) d k' z.2 := by
          rw [fq, Bool.eq_iff_iff, decide_eq_true_iff, hiff, List.all_eq_true]
          constructor
          · intro h u hu
            cases ho : isOn "undone" z.2.num u with
            | false => rfl
            | true =>
              have hm : u.num ∈ ns := pm.mem_iff.mpr (List.mem_map.mpr ⟨u, List.mem_filter.mpr ⟨hu, by
                unfold isOn at ho
                unfold onAny
                simpa using ho⟩, rfl⟩)
              rw [h u.num hm u hu rfl]
              rfl
          · intro h x hx u hu he'
            obtain ⟨u', hu1, hu2⟩ := List.mem_map.mp (pm.mem_iff.mp hx)
            obtain ⟨hu3, hu4⟩ := List.mem_filter.mp hu1
            have ee : u = u' := num_inj hE.ok hu hu3 (he'.trans hu2.symm)
            subst ee
            have ho : isOn "undone" z.2.num u = true := by
              unfold onAny at hu4
              unfold isOn
              simpa using hu4
            have := h u hu
            rw [ho, Bool.true_and] at this
            simpa using this
        rw [fin]
        exact q _ (s12.trans (sm.trans s3))
theorem ok_force {f : Addr} {fd : FuncData} (D : ForceD K mg f fd) (DO : OpenD K mg fOp dOp) (DF : OfD K mg fOf dOf) (ms : mg "sorted" = none) : ∀ fu : Nat, FnOk P w K mg base CX0 (fu + 1) f fd pForce (spForce fu)
  | 0 => no_force
  | fu + 1 => step_force D DO DF ms (ok_force D DO DF ms fu)
end
end Deed

namespace Deed
open PySem PySem.Spec PyProof.Rows L2 LamX
theorem putK_new {kvs : List (Key × V)} {k : Key} {v : V} (h : k ∉ kvs.map (·.1)) : putK kvs k v = kvs ++ [(k, v)] := by
  unfold putK
  rw [if_neg]
  intro z
  obtain ⟨kv, h1, h2⟩ := List.any_eq_true.mp z
  exact h (List.mem_map.mpr ⟨kv, h1, of_decide_eq_true h2⟩)
theorem mergeK_new : ∀ (more kvs : List (Key × V)), ((kvs ++ more).map (·.1)).Nodup → mergeK kvs more = kvs ++ more
  | [], kvs, _ => (List.append_nil kvs).symm
  | (k, v) :: r, kvs, h => by
    show mergeK (putK kvs k v) r = kvs ++ (k, v) :: r
    have hk : k ∉ kvs.map (·.1) := fun z => by
      rw [List.map_append, List.nodup_append] at h
      exact h.2.2 k z k List.mem_cons_self rfl
    rw [putK_new hk, mergeK_new r (kvs ++ [(k, v)]) (by rw [List.append_assoc]; exact h), List.append_assoc]
    rfl
theorem dks_nodup {zs : List (Addr × En)} (h : ((ens zs).map (·.num)).Nodup) : ((dks zs).map (·.1)).Nodup := by
  have e : (dks zs).map (·.1) = ((ens zs).map (·.num)).map (Sum.inl : Int → Key) := by
    simp [dks, ens, List.map_map, Function.comp_def]
  rw [e]
  exact List.pairwise_map.mpr (h.imp fun hne e => hne (Sum.inl.inj e))
theorem paired_mono {α β : Type} {F G : α → β → Prop} {l : List α} {m : List β} (h : Paired F l m) (i : ∀ a b, F a b → G a b) : Paired G l m := by
  induction h with
  | nil => exact .nil
  | cons a _ ih => exact .cons (i _ _ a) ih
section
variable {P : Program} {w : World} {K : PySem.W.Frag} {mg : Str → Option Value} {base : Heap} {T : List (Addr × Str)} {fDr : Addr} {dDr : FuncData}
/-! ### the entries as a dict -/
abbrev sEnts : Stmt := topS 60
abbrev nEnts : List Str := ["_law_book_here", "_law_entry_here"]
theorem scEnts : FnScope nEnts ["_law_book_here"] (defScope sEnts) := ⟨rfl, rfl, rfl, by decide +kernel, rfl, by decide +kernel, by decide +kernel⟩
def spEnts : Sp := fun vs H Q _ => ∃ (b fk t : Addr) (n : Nat) (age : Int) (zs : List (Addr × En)), vs = [.ref b] ∧ BookAt H b fk t n age zs ∧ ∀ ed H', Same H H' → H ed = none → EdAt H' ed n zs → Q (.ref ed) H'
theorem ok_ents {f : Addr} {fd : FuncData} {k : Nat} (F : Fun K "_law_entries" "_law_entries" sEnts f fd) (md : mg "dict" = none) : FnOk P w K mg base CX0 (k + 1) f fd ["_law_book_here"] spEnts := by
  refine F.ok scEnts (fun vs H Q E h => ?_) (fun cdv A outer s H vs Q E hr h => ?_)
  · obtain ⟨b, fk, t, n, age, zs, rfl, _⟩ := h
    rfl
  · obtain ⟨b, fk, t, n, age, zs, rfl, hB, q⟩ := h
    refine ⟨_, pss_one (ps_ret (pe_callTy (call_dictP rfl) (by rfl) md (by decide +kernel) (pa_cons (pe_lc (own := [("_law_entry_here", 1)]) (g := gName 1) (by rfl) scEnts.nd (pi_tup (pe_ix ix_tup (pv 0) pe_int (fun _ _ => rfl))) (blkOk_by (own := [("_law_entry_here", 1)]) (N := nEnts) (sc := defScope sEnts) (by decide +kernel)) (fun _ _ _ _ _ => pg_name (i := 1) scEnts.nd rfl (Or.inl rfl)) (fun _ _ _ _ _ => pts_nil)
      (fun _ _ _ _ _ => show PE _ _ (tTup (tCons (tOp (rIxT K) (tVar 1) (tC (.int 0))) (tCons (tVar 1) tNil))) from pe_tup (pa_cons (pe_ix ix_tup (pv 1) pe_int (fun _ _ => rfl)) (pa_cons (pv 1) pa_nil)))) pa_nil))), ?_⟩
    refine ⟨_, rfl, b, _, 2, _, rfl, rfl, SqT.of hB.at_, atI_nat (j := 2) rfl, t, rfl, ⟨_, SqT.of hB.ents⟩, fun D nD => ?_⟩
    refine lc_tup (K := K) (a := t) (xs := refs zs) (fun i H' => ∃ ps : List Addr, H' D = some (.lst (ps.map V.ref)) ∧ Same H H' ∧ ps.length = i ∧ Paired (fun p (kv : Key × V) => H' p = some (.tup [kV kv.1, kv.2])) ps (dks (zs.take i))) ⟨[], upd_same, fun b o e => by rw [upd_ne (ne_of_none e nD)]; exact e, rfl, .nil⟩ (fun i H' _ h => ?_) ?_ ?_
    · obtain ⟨_, _, sm, _⟩ := h
      exact SqT.of (sm _ _ hB.ents)
    · rintro i x H' hx ⟨ps, eD, sm, hpl, hpr⟩
      obtain ⟨z, hz, rfl⟩ := ref_at hx
      have hzm : z ∈ zs := List.mem_of_getElem? hz
      have hi : i < zs.length := (List.getElem?_eq_some_iff.mp hz).1
      obtain ⟨xs, ex, g0, _⟩ := ((hB.ent z hzm).kp (Same.tup sm)).tup
      refine ⟨rfl, ?_⟩
      unfold tYes
      dsimp only
      rw [if_pos rfl]
      refine ⟨_, rfl, z.1, xs, 0, _, rfl, rfl, SqT.of ex, g0, _, rfl, (by show 2 ≤ sizeLine; decide), fun r nr => ?_⟩
      have nrD : D ≠ r := ne_of_none eD nr
      have len := hB.len
      refine ⟨_, by rw [upd_ne nrD]; exact eD, small1000 (by rw [List.length_map]; omega), ps ++ [r], ?_, fun b o e => ?_, ?_, ?_⟩
      · rw [upd_same, List.map_append]
        rfl
      · rw [upd_ne (ne_of_none e nD), upd_ne (ne_of_none (sm _ _ e) nr)]
        exact sm _ _ e
      · rw [List.length_append, hpl]
        rfl
      · have e1 : dks (zs.take (i + 1)) = dks (zs.take i) ++ [(Sum.inl z.2.num, V.ref z.1)] := by
          rw [take_more hz]
          simp [dks]
        rw [e1]
        refine Paired.snoc (paired_mono hpr fun p kv hp => ?_) ?_
        · rw [upd_ne (fun z0 => by rw [z0, eD] at hp; cases hp), upd_ne (ne_of_none hp nr)]
          exact hp
        · rw [upd_ne nrD.symm, upd_same]
          rfl
    · rintro H' ⟨ps, eD, sm, hpl, hpr⟩
      have el : zs.take (refs zs).length = zs := List.take_of_length_le (by rw [List.length_map]; exact Nat.le_refl _)
      rw [el] at hpr
      refine ⟨D, ps, dks zs, rfl, SqL.of eD, paired_mono hpr fun p kv hp => SqT.of hp, fun ed ned => ?_⟩
      have s2 : Same H' (upd H' ed (.dK (mergeK [] (dks zs)))) := fun b o e => by rw [upd_ne (ne_of_none e ned)]; exact e
      have e2 : mergeK [] (dks zs) = dks zs := mergeK_new (dks zs) [] (by rw [List.nil_append]; exact dks_nodup hB.ok.nd)
      refine q ed _ (sm.trans s2) (sm.free ned) ⟨?_, fun z hz => (hB.ent z hz).kp (Same.tup (sm.trans s2)), hB.ok, hB.len⟩
      rw [upd_same, e2]
/-! ### a day and a known day -/
abbrev sDays : Stmt := topS 61
abbrev nDays : List Str := ["_law_pen_here", "_law_book_here", "_law_found", "_law_at", "_law_some", "_law_entry_here"]
abbrev pDays : List Str := ["_law_pen_here", "_law_book_here"]
theorem scDays : FnScope nDays pDays (defScope sDays) := ⟨rfl, rfl, rfl, by decide +kernel, rfl, by decide +kernel, by decide +kernel⟩
def spDays : Sp := fun vs H Q _ => ∃ (p b fk t : Addr) (n : Nat) (age : Int) (zs : List (Addr × En)), vs = [.ref p, .ref b] ∧ PenAt H p ∧ BookAt H b fk t n age zs ∧
  ∀ (a : Addr) (d k : Int) H', Kp p H H' → PenAt H' p → H' a = some (.tup [.int d, .int k]) → (0 ≤ d ∧ d ≤ 9999) → (0 ≤ k ∧ k ≤ 9999) → Q (.ref a) H'
theorem ok_days {f : Addr} {fd : FuncData} {k : Nat} (F : Fun K "_law_days" "_law_days" sDays f fd) (D : DrawD K mg fDr dDr) (B : Bi mg) : FnOk P w K mg base CX0 (k + 2) f fd pDays spDays := by
  have G : FnOk P w K mg base CX0 (k + 1) fDr dDr ["_law_pen_here", "_law_bound"] spDraw := ok_draw D.F
  refine F.ok scDays (fun vs H Q E h => ?_) (fun cdv A outer s H vs Q E hr h => ?_)
  · obtain ⟨p, b, fk, t, n, age, zs, rfl, _⟩ := h
    rfl
  · obtain ⟨p, b, fk, t, n, age, zs, rfl, hP, hB, q⟩ := h
    refine ⟨_, pss_cons (ps_set (i := 2) scDays.nd rfl (.inl rfl) (pe_lst pa_nil))
      (pss_cons (ps_for PassesOwn.never rfl (pi_tup (pe_tup (pa_cons pe_int (pa_cons pe_int pa_nil)))) (pg_name (i := 3) scDays.nd rfl (.inr rfl))
        (pss_cons (ps_set (i := 4) scDays.nd rfl (.inl rfl) (pe_op op_cat (pe_lc (own := [("_law_entry_here", 5)]) (g := gName 5) (by rfl) scDays.nd (pi_tup (pe_ix ix_tup (pv 1) pe_int (fun _ _ => rfl))) (blkOk_by (own := [("_law_entry_here", 5)]) (N := nDays) (sc := defScope sDays) (by decide +kernel)) (fun _ _ _ _ _ => pg_name (i := 5) scDays.nd rfl (Or.inl rfl)) (fun _ _ _ _ _ => pts_nil)
            (fun _ _ _ _ _ => show PE _ _ (tOp (rIxT K) (tVar 5) (tVar 3)) from pe_ix ix_tup (pv 5) (pv 3) (fun _ _ => rfl))) (pe_lst (pa_cons pe_int (pa_cons pe_int (pa_cons (pe_call G hr (by rfl) D.g D.F.kp D.b .nil pass0 (pa_cons (pv 0) (pa_cons pe_int pa_nil))) pa_nil))))))
        (pss_one (ps_expr (pe_bm PySem.F.plainAttrs_list PySem.F.slot_list_append PySem.F.type_list_append mt_append (pv 2) (pa_cons (pe_callB (call_max2 rfl) (by rfl) B.max (by decide +kernel) (pa_cons pe_int (pa_cons (pe_op op_sub (pe_ix ix_list (pv 4) (pe_call G hr (by rfl) D.g D.F.kp D.b .nil pass0 (pa_cons (pv 0) (pa_cons (pe_callB call_len_seq (by rfl) B.len PySem.boot_len (pa_cons (pv 4) pa_nil)) pa_nil))) (fun _ _ => rfl)) (pe_callTy call_int1 (by rfl) B.int (by decide +kernel) (pa_cons (pe_cmpR op_eq (pe_call G hr (by rfl) D.g D.F.kp D.b .nil pass0 (pa_cons (pv 0) (pa_cons pe_int pa_nil))) pe_int (nomark _)) pa_nil))) pa_nil))) pa_nil))))))
      (pss_one (ps_ret (pe_tup (pa_cons (pe_ix ix_list (pv 2) pe_int (fun _ _ => rfl)) (pa_cons (pe_ix ix_list (pv 2) pe_int (fun _ _ => rfl)) pa_nil)))))), ?_⟩
    refine ⟨Nat.zero_le _, fun l nl => ?_⟩
    have k1 : Kp p H (upd H l (.lst [])) := Kp.new nl _
    have P1 := hP.new nl (.lst [])
    have el : (upd H l (.lst [])) l = some (.lst []) := upd_same
    have npl : l ≠ p := hP.free nl
    generalize (upd H l (.lst [])) = H1 at k1 P1 el
    refine ⟨(by show 2 ≤ sizeLine; decide), fun tt ntt => ?_⟩
    have k2 : Kp p H1 (upd H1 tt (.tup [.int 1, .int 2])) := Kp.new ntt _
    have P2 := P1.new ntt (.tup [.int 1, .int 2])
    have ett : (upd H1 tt (.tup [.int 1, .int 2])) tt = some (.tup [.int 1, .int 2]) := upd_same
    have el2 := k2 _ _ npl el
    generalize (upd H1 tt (.tup [.int 1, .int 2])) = H2 at k2 P2 ett el2
    refine ⟨tt, rfl, ⟨_, SqT.of ett⟩, ?_⟩
    refine for_tup (K := K) (a := tt) (xs := [.int 1, .int 2]) (fun i σ H' => ∃ y3 y4 y5, ∃ ns : List Int, σ = [some (.ref p), some (.ref b), some (.ref l), y3, y4, y5] ∧ KpT H2 H' ∧ Kp p H H' ∧ PenAt H' p ∧ H' l = some (.lst (ns.map V.int)) ∧ ns.length = i ∧ ∀ x ∈ ns, 0 ≤ x ∧ x ≤ 9999)
      ⟨none, none, none, [], rfl, KpT.refl _, k1.trans k2, P2, el2, rfl, fun _ h => nomatch h⟩ (fun i σ H' _ h => ?_) ?_ ?_
    · obtain ⟨_, _, _, _, _, kT, _⟩ := h
      exact SqT.of (kT _ _ ett)
    · rintro i x σ H' hx ⟨y3, y4, y5, ns, rfl, kT, kH, P', el', hnl, hns⟩
      obtain ⟨at', hat, rfl⟩ : ∃ at' : Int, (at' = 1 ∨ at' = 2) ∧ x = .int at' := by
        have hm : x ∈ [V.int 1, V.int 2] := List.mem_of_getElem? hx
        rcases List.mem_cons.mp hm with e | hm
        · exact ⟨1, .inl rfl, e⟩
        · exact ⟨2, .inr rfl, List.mem_singleton.mp hm⟩
      have hi2 : i < 2 := (List.getElem?_eq_some_iff.mp hx).1
      have hB' : BookAt H' b fk t n age zs := hB.kp (fun b0 xs0 e0 => kH _ _ (hP.ne e0 fun _ z => by cases z) e0)
      -- the days of entries
      refine ⟨_, rfl, b, _, 2, _, rfl, rfl, SqT.of hB'.at_, atI_nat (j := 2) rfl, t, rfl, ⟨_, SqT.of hB'.ents⟩, fun M nM => ?_⟩
      refine lc_tup (K := K) (a := t) (xs := refs zs) (fun i H'' => ∃ ms : List Int, H'' M = some (.lst (ms.map V.int)) ∧ Same H' H'' ∧ ms.length = i ∧ ∀ x ∈ ms, 0 ≤ x ∧ x ≤ 9999) ⟨[], upd_same, fun b o e => by rw [upd_ne (ne_of_none e nM)]; exact e, rfl, fun _ h => nomatch h⟩ (fun i H' _ h => ?_) ?_ ?_
      · obtain ⟨_, _, sm, _⟩ := h
        exact SqT.of (sm _ _ hB'.ents)
      · rintro j x H3 hx ⟨ms, eM, sm, hml, hms⟩
        obtain ⟨z, hz, rfl⟩ := ref_at hx
        have hzm : z ∈ zs := List.mem_of_getElem? hz
        have hj : j < zs.length := (List.getElem?_eq_some_iff.mp hz).1
        have len := hB.len
        have oz := hB.ok.ok z.2 (List.mem_map.mpr ⟨z, hzm, rfl⟩)
        obtain ⟨xs, ex, _, g1, g2, _⟩ := ((hB'.ent z hzm).kp (Same.tup sm)).tup
        obtain ⟨v, gv, hv⟩ : ∃ v : Int, atI xs at' = some (.int v) ∧ 0 ≤ v ∧ v ≤ 9999 := by
          rcases hat with rfl | rfl
          · exact ⟨_, g1, oz.1⟩
          · exact ⟨_, g2, oz.2.1⟩
        refine ⟨rfl, ?_⟩
        unfold tYes
        dsimp only
        rw [if_pos rfl]
        refine ⟨_, rfl, _, rfl, z.1, xs, at', _, rfl, rfl, SqT.of ex, gv, _, eM, small1000 (by rw [List.length_map]; omega), ms ++ [v], ?_, fun b o e => ?_, ?_, fun y hy => ?_⟩
        · rw [upd_same, List.map_append]
          rfl
        · rw [upd_ne (ne_of_none e nM)]
          exact sm _ _ e
        · rw [List.length_append, hml]
          rfl
        · rcases List.mem_append.mp hy with hy | hy
          · exact hms y hy
          · rw [List.mem_singleton.mp hy]
            exact hv
      rintro H3 ⟨ms, eM, sm, hml, hms⟩
      have len := hB.len
      have hml' : ms.length ≤ 16 := by rw [hml, List.length_map]; exact len
      have P3 : PenAt H3 p := by
        obtain ⟨x1, x2, x3, x4, z1, z2⟩ := P'
        exact ⟨x1, x2, x3, x4, sm _ _ z1, z2⟩
      have k3 : Kp p H' H3 := Kp.same sm
      refine ⟨_, rfl, p, 50, rfl, P3, by decide, by decide, fun v4 H4 k4 P4 a4 b4 => ?_⟩
      refine ⟨(by show 3 ≤ sizeLine; decide), fun N nN => ?_⟩
      have k5 : Kp p H4 (upd H4 N (.lst [.int 0, .int 9999, .int v4])) := Kp.new nN _
      have P5 := P4.new nN (.lst [.int 0, .int 9999, .int v4])
      have eN : (upd H4 N (.lst [.int 0, .int 9999, .int v4])) N = some (.lst (([0, 9999, v4] : List Int).map V.int)) := upd_same
      have nMp : M ≠ p := P'.free nM
      have eM5 := k5 _ _ nMp (k4 _ _ nMp eM)
      generalize (upd H4 N (.lst [.int 0, .int 9999, .int v4])) = H5 at k5 P5 eN eM5
      refine ⟨M, N, _, _, rfl, rfl, eM5, eN, ?_, fun S nS => ?_⟩
      · rw [List.length_map, List.length_map]
        exact Nat.le_of_lt (small1000 (by show ms.length + 3 ≤ 1000; omega))
      have k6 : Kp p H5 (upd H5 S (.lst (ms.map V.int ++ ([0, 9999, v4] : List Int).map V.int))) := Kp.new nS _
      have P6 := P5.new nS (.lst (ms.map V.int ++ ([0, 9999, v4] : List Int).map V.int))
      have nSp : S ≠ p := P5.free nS
      have eS : (upd H5 S (.lst (ms.map V.int ++ ([0, 9999, v4] : List Int).map V.int))) S = some (.lst ((ms ++ [0, 9999, v4]).map V.int)) := by rw [upd_same, List.map_append]
      generalize (upd H5 S (.lst (ms.map V.int ++ ([0, 9999, v4] : List Int).map V.int))) = H6 at k6 P6 eS
      have hss : ∀ x ∈ ms ++ [0, 9999, v4], 0 ≤ x ∧ x ≤ 9999 := fun x hx => by
        rcases List.mem_append.mp hx with hx | hx
        · exact hms x hx
        · simp only [List.mem_cons, List.not_mem_nil, or_false] at hx
          rcases hx with rfl | rfl | rfl <;> omega
      have hsl : (ms ++ [0, 9999, v4]).length = ms.length + 3 := by simp
      generalize ms ++ [0, 9999, v4] = ss at eS hss hsl
      have k36 : Kp p H' H6 := k3.trans (k4.trans (k5.trans k6))
      have el6 := k36 _ _ npl el'
      have hslm : (ss.map V.int).length = ss.length := List.length_map _
      refine ⟨_, rfl, .inl ⟨rfl, _, SqL.of el6⟩, _, rfl, _, rfl, _, rfl, S, _, rfl, .inl (SqL.of eS), p, _, rfl, P6, by omega, by omega, fun v7 H7 k7 P7 a7 b7 => ?_⟩
      rw [hslm] at b7
      have hk7 : v7.toNat < ss.length := by omega
      refine ⟨S, _, v7, .int ss[v7.toNat], rfl, rfl, SqL.of (k7 _ _ nSp eS), at_of (j := v7.toNat) (by omega) (by rw [List.getElem?_map, List.getElem?_eq_getElem hk7] <;> rfl), ?_⟩
      have hv7 := hss _ (List.getElem_mem hk7)
      generalize ss[v7.toNat] = w7 at hv7
      refine ⟨_, rfl, p, 4, rfl, P7, by decide, by decide, fun v8 H8 k8 P8 a8 b8 => ?_⟩
      refine ⟨rfl, .inr ⟨_, rfl, _, _, rfl, rfl, _, _, rfl, ?_⟩⟩
      obtain ⟨m, em, hm⟩ : ∃ m : Int, (if w7 - (if decide (V.int v8 = V.int 0) = true then 1 else 0) > 0 then w7 - (if decide (V.int v8 = V.int 0) = true then 1 else 0) else 0) = m ∧ 0 ≤ m ∧ m ≤ 9999 := ⟨_, rfl, by split <;> split <;> omega, by split <;> split <;> omega⟩
      dsimp only
      rw [em]
      have k78 := k36.trans (k7.trans k8)
      have el8 := k78 _ _ npl el'
      refine ⟨l, _, _, rfl, rfl, el8, small1000 (by rw [List.length_map]; omega), ?_⟩
      refine ⟨_, _, _, ns ++ [m], rfl, fun b0 xs0 e0 => ?_, ?_, P8.put npl _, ?_, ?_, fun y hy => ?_⟩
      · have e1 := k78.tup P' _ _ (kT _ _ e0)
        rw [upd_ne (fun z0 => by rw [z0, el8] at e1; cases e1)]
        exact e1
      · exact (kH.trans k78).over nl _
      · rw [upd_same, List.map_append]
        rfl
      · rw [List.length_append, hnl]
        rfl
      · rcases List.mem_append.mp hy with hy | hy
        · exact hns y hy
        · rw [List.mem_singleton.mp hy]
          exact hm
    · rintro σ H' ⟨y3, y4, y5, ns, rfl, kT, kH, P', el', hnl, hns⟩
      match ns, hnl, hns, el' with
      | [d, kk], _, hns, el' =>
        refine ⟨_, rfl, l, _, 0, _, rfl, rfl, SqL.of el', atI_nat (j := 0) rfl, _, rfl, l, _, 1, _, rfl, rfl, SqL.of el', atI_nat (j := 1) rfl, (by show 2 ≤ sizeLine; decide), fun a na => ?_⟩
        exact q a d kk _ (kH.trans (Kp.new na _)) (P'.new na _) upd_same (hns d List.mem_cons_self) (hns kk (List.mem_cons_of_mem _ List.mem_cons_self))
end
end Deed

namespace Deed
open PySem PySem.Spec PyProof.Rows L2 LamX
section
variable {P : Program} {w : World} {K : PySem.W.Frag} {mg : Str → Option Value} {base : Heap} {T : List (Addr × Str)} {fW fI fY fA : Addr} {dW dI dY dA : FuncData}
/-! ### whole numbers, days: where they are such -/
abbrev sWhole : Stmt := topS 8
theorem scWhole : FnScope ["thing"] ["thing"] (defScope sWhole) := ⟨rfl, rfl, rfl, by decide +kernel, rfl, by decide +kernel, by decide +kernel⟩
def spWholeI : Sp := fun vs H Q _ => ∃ i : Int, vs = [.int i] ∧ Q (.bl true) H
theorem ok_wholeI {f : Addr} {fd : FuncData} {k : Nat} (F : Fun K "is_whole" "is_whole" sWhole f fd) (mi : mg "isinstance" = none) (mn : mg "int" = none) (mb : mg "bool" = none) : FnOk P w K mg base CX0 (k + 1) f fd ["thing"] spWholeI := by
  refine F.ok scWhole (fun vs H Q E h => ?_) (fun cdv A outer s H vs Q E hr h => ?_)
  · obtain ⟨i, rfl, _⟩ := h
    rfl
  · obtain ⟨i, rfl, q⟩ := h
    refine ⟨_, pss_one (ps_ret (pe_and (pe_callB call_isi (by rfl) mi (by decide +kernel) (pa_cons (pv 0) (pa_cons (pe_bltn (v := .ty "int") (by rfl) mn (by decide +kernel) rfl) pa_nil))) (pe_one (pe_not (pe_callB call_isi (by rfl) mi (by decide +kernel) (pa_cons (pv 0) (pa_cons (pe_bltn (v := .ty "bool") (by rfl) mb (by decide +kernel) rfl) pa_nil))))))), ?_⟩
    refine ⟨_, rfl, _, _, _, _, true, rfl, .ty "int", .base (.int i), kit_ty (by decide +kernel), _, rfl, ?_⟩
    refine iteT ?_
    exact ⟨_, rfl, _, _, _, _, false, rfl, .ty "bool", .base (.int i), kit_ty (by decide +kernel), _, rfl, q⟩
abbrev sWithin : Stmt := topS 9
theorem scWithin : FnScope ["thing", "low", "high"] ["thing", "low", "high"] (defScope sWithin) := ⟨rfl, rfl, rfl, by decide +kernel, rfl, by decide +kernel, by decide +kernel⟩
def spWithinI : Sp := fun vs H Q _ => ∃ i lo hi : Int, vs = [.int i, .int lo, .int hi] ∧ lo ≤ i ∧ i ≤ hi ∧ Q (.bl true) H
theorem ok_withinI {f : Addr} {fd : FuncData} {k : Nat} (F : Fun K "is_within" "is_within" sWithin f fd) (DW : Df K mg "is_whole" sWhole ["thing"] fW dW) (mi : mg "isinstance" = none) (mn : mg "int" = none) (mb : mg "bool" = none) : FnOk P w K mg base CX0 (k + 2) f fd ["thing", "low", "high"] spWithinI := by
  have GW : FnOk P w K mg base CX0 (k + 1) fW dW ["thing"] spWholeI := ok_wholeI DW.F mi mn mb
  refine F.ok scWithin (fun vs H Q E h => ?_) (fun cdv A outer s H vs Q E hr h => ?_)
  · obtain ⟨i, lo, hi, rfl, _⟩ := h
    rfl
  · obtain ⟨i, lo, hi, rfl, h1, h2, q⟩ := h
    refine ⟨_, pss_one (ps_ret (pe_and (pe_call GW hr (by rfl) DW.g DW.F.kp DW.b .nil pass0 (pa_cons (pv 0) pa_nil)) (pe_one (pe_chain op_le op_le (pv 1) (pv 0) (pv 2))))), ?_⟩
    refine ⟨_, rfl, i, rfl, true, rfl, ?_⟩
    refine iteT ?_
    refine ⟨_, rfl, _, rfl, _, _, rfl, rfl, _, rfl, ?_⟩
    rw [decide_eq_true h1]
    refine iteT ?_
    refine ⟨_, rfl, _, _, rfl, rfl, ?_⟩
    dsimp only
    rw [decide_eq_true h2]
    exact q
abbrev sIsDay : Stmt := topS 10
theorem scIsDay : FnScope ["thing"] ["thing"] (defScope sIsDay) := ⟨rfl, rfl, rfl, by decide +kernel, rfl, by decide +kernel, by decide +kernel⟩
def spDayI : Sp := fun vs H Q _ => ∃ i : Int, vs = [.int i] ∧ 0 ≤ i ∧ i ≤ 9999 ∧ Q (.bl true) H
theorem ok_dayI {f : Addr} {fd : FuncData} {k : Nat} (F : Fun K "is_day" "is_day" sIsDay f fd) (DI : Df K mg "is_within" sWithin ["thing", "low", "high"] fI dI) (DW : Df K mg "is_whole" sWhole ["thing"] fW dW) (mi : mg "isinstance" = none) (mn : mg "int" = none) (mb : mg "bool" = none) (mL : MgInt mg "LAST_DAY" 9999) : FnOk P w K mg base CX0 (k + 3) f fd ["thing"] spDayI := by
  have GI : FnOk P w K mg base CX0 (k + 2) fI dI ["thing", "low", "high"] spWithinI := ok_withinI DI.F DW mi mn mb
  refine F.ok scIsDay (fun vs H Q E h => ?_) (fun cdv A outer s H vs Q E hr h => ?_)
  · obtain ⟨i, rfl, _⟩ := h
    rfl
  · obtain ⟨i, rfl, h0, h1, q⟩ := h
    refine ⟨_, pss_one (ps_ret (pe_call GI hr (by rfl) DI.g DI.F.kp DI.b .nil pass0 (pa_cons (pv 0) (pa_cons pe_int (pa_cons (pe_num (by rfl) mL) pa_nil))))), ?_⟩
    exact ⟨_, rfl, i, 0, 9999, rfl, h0, h1, q⟩
abbrev sCheckDay : Stmt := topS 20
theorem scCheckDay : FnScope ["thing"] ["thing"] (defScope sCheckDay) := ⟨rfl, rfl, rfl, by decide +kernel, rfl, by decide +kernel, by decide +kernel⟩
def spCkDay : Sp := fun vs H Q _ => ∃ i : Int, vs = [.int i] ∧ 0 ≤ i ∧ i ≤ 9999 ∧ Q .non H
theorem ok_ckDay {f : Addr} {fd : FuncData} {k : Nat} (F : Fun K "check_day" "check_day" sCheckDay f fd) (DY : Df K mg "is_day" sIsDay ["thing"] fY dY) (DI : Df K mg "is_within" sWithin ["thing", "low", "high"] fI dI) (DW : Df K mg "is_whole" sWhole ["thing"] fW dW) (mi : mg "isinstance" = none) (mn : mg "int" = none) (mb : mg "bool" = none) (mL : MgInt mg "LAST_DAY" 9999) : FnOk P w K mg base CX0 (k + 4) f fd ["thing"] spCkDay := by
  have GY : FnOk P w K mg base CX0 (k + 3) fY dY ["thing"] spDayI := ok_dayI DY.F DI DW mi mn mb mL
  refine F.ok scCheckDay (fun vs H Q E h => ?_) (fun cdv A outer s H vs Q E hr h => ?_)
  · obtain ⟨i, rfl, _⟩ := h
    rfl
  · obtain ⟨i, rfl, h0, h1, q⟩ := h
    refine ⟨_, pss_one (ps_if (pt_not (pt_val (pe_call GY hr (by rfl) DY.g DY.F.kp DY.b .nil pass0 (pa_cons (pv 0) pa_nil)))) pss_never pss_nil), ?_⟩
    refine ⟨_, rfl, i, rfl, h0, h1, _, rfl, ?_⟩
    exact iteF q
end
end Deed

namespace Deed
open PySem PySem.Spec PyProof.Rows L2 LamX
section
variable {P : Program} {w : World} {K : PySem.W.Frag} {mg : Str → Option Value} {base : Heap} {T : List (Addr × Str)} {fAe fOn : Addr} {dAe dOn : FuncData}
/-! ### the open acts -/
abbrev sOpenA : Stmt := topS 24
abbrev nOpenA : List Str := ["book", "d", "k", "act"]
theorem scOpenA : FnScope nOpenA ["book", "d", "k"] (defScope sOpenA) := ⟨rfl, rfl, rfl, by decide +kernel, rfl, by decide +kernel, by decide +kernel⟩
/-- the open acts, by their numbers -/
structure OpenActs (n : Nat) (es : List En) (d k : Int) (ys : List (Addr × En)) : Prop where
  mem : ∀ z ∈ ys, z.2 ∈ es ∧ z.2.isDeed = false ∧ isOpen d k z.2 = true
  all : ∀ u ∈ es, u.isDeed = false → isOpen d k u = true → ∃ z ∈ ys, z.2 = u
  up : ys.Pairwise (fun a b => a.2.num < b.2.num)
  len : ys.length ≤ 16
def spOpenA (T : List (Addr × Str)) : Sp := fun vs H Q _ => ∃ (b fk t : Addr) (n : Nat) (age : Int) (zs : List (Addr × En)) (d k : Int), vs = [.ref b, .int d, .int k] ∧ BookAt H b fk t n age zs ∧ Tabs T H ∧
  ∀ (p : Addr) (ys : List (Addr × En)) (H' : Hp), ExtN H H' → Tabs T H' → Fresh H p → H' p = some (.lst (refs ys)) → (∀ z ∈ ys, EntAt H' z.1 z.2) → OpenActs n (ens zs) d k ys → Q (.ref p) H'
def t_openA (K : PySem.W.Frag) : TT := tAnd (tTest (tOp (rI0 fun i j => .bl (decide (i ≤ j))) (tOp (rIxT K) (tVar 3) (tC (.int 2))) (tVar 2))) (tTest (tOp (rI0 fun i j => .bl (decide (i ≤ j))) (tOp (rIxT K) (tVar 3) (tC (.int 1))) (tVar 1)))
theorem ok_openA {f : Addr} {fd : FuncData} {k : Nat} (F : Fun K "open_acts" "open_acts" sOpenA f fd) (DE : Df K mg "act_entries" sActE ["book"] fAe dAe) (GE : FnOk P w K mg base CX0 (k + 3) fAe dAe ["book"] (spPick (fun e => !e.isDeed) T)) (mW : MgInt mg "WRITTEN" 2) (mD : MgInt mg "DAY" 1) :
    FnOk P w K mg base CX0 (k + 4) f fd ["book", "d", "k"] (spOpenA T) := by
  refine F.ok scOpenA (fun vs H Q E h => ?_) (fun cdv A outer s H vs Q E hr h => ?_)
  · obtain ⟨b, fk, t, n, age, zs, d, k, rfl, _⟩ := h
    rfl
  · obtain ⟨b, fk, t, n, age, zs, d, kk, rfl, hB, hT, q⟩ := h
    refine ⟨_, pss_one (ps_ret (pe_lc (own := [("act", 3)]) (g := gName 3) (by rfl) scOpenA.nd (pi_list (pe_call GE hr (by rfl) DE.g DE.F.kp DE.b .nil pass0 (pa_cons (pv 0) pa_nil))) (blkOk_by (own := [("act", 3)]) (N := nOpenA) (sc := defScope sOpenA) (by decide +kernel)) (fun _ _ _ _ _ => pg_name (i := 3) scOpenA.nd rfl (Or.inl rfl))
      (fun _ _ _ _ _ => show PTs _ _ (t_openA K) from pts_one (PW.pt (pw_and (pt_cmpR op_le (pe_ix ix_tup (pv 3) (pe_num (by rfl) mW) (fun _ _ => rfl)) (pv 2) (nomark _)) (pw_and1 (pt_cmpR op_le (pe_ix ix_tup (pv 3) (pe_num (by rfl) mD) (fun _ _ => rfl)) (pv 1) (nomark _)))))) (fun _ _ _ _ _ => pv 3))), ?_⟩
    refine ⟨_, rfl, b, fk, t, n, age, zs, rfl, hB, hT, fun p zs' H1 eN T1 fr ep pm so => ?_⟩
    have hent : ∀ z ∈ zs', EntAt H1 z.1 z.2 := fun z hz => (hB.ent z (pm.mem_iff.mp hz)).kp (ExtN.tup eN)
    have hmem : ∀ z ∈ zs'.filter (fun z => !z.2.isDeed), z ∈ zs' := fun z hz => (List.mem_filter.mp hz).1
    have hlen : (zs'.filter fun z => !z.2.isDeed).length ≤ 16 := by
      have h1 := List.length_filter_le (fun z : Addr × En => !z.2.isDeed) zs'
      have h2 := pm.length_eq
      have h3 := hB.len
      omega
    have hso : (zs'.filter fun z => !z.2.isDeed).Pairwise (fun a b => a.2.num < b.2.num) := so.filter _
    have hact : ∀ z ∈ zs'.filter (fun z => !z.2.isDeed), z.2.isDeed = false := fun z hz => by
      have := (List.mem_filter.mp hz).2
      simpa using this
    have hall : ∀ u ∈ ens zs, u.isDeed = false → ∃ z ∈ zs'.filter (fun z => !z.2.isDeed), z.2 = u := fun u hu hd => by
      obtain ⟨z, hz, rfl⟩ := List.mem_map.mp ((ens_perm pm u).mpr hu)
      exact ⟨z, List.mem_filter.mpr ⟨hz, by rw [hd]; rfl⟩, rfl⟩
    generalize (zs'.filter fun z => !z.2.isDeed) = as at ep hmem hlen hso hact hall
    refine ⟨p, rfl, ⟨_, SqL.of ep⟩, fun D nD => ?_⟩
    refine lc_list (K := K) (a := p) (xs := refs as) (fun i H' => H' D = some (.lst (refs ((as.take i).filter fun z => isOpen d kk z.2))) ∧ Same H1 H') ⟨upd_same, fun b o e => by rw [upd_ne (ne_of_none e nD)]; exact e⟩ (fun i H' _ h => SqL.of (h.2 _ _ ep)) ?_ ?_
    · rintro i x H' hx ⟨eD, sm⟩
      obtain ⟨z, hz, rfl⟩ := ref_at hx
      have hzm := List.mem_of_getElem? hz
      obtain ⟨xs, ex, _, g1, g2, _⟩ := ((hent z (hmem z hzm)).kp (Same.tup sm)).tup
      have et := take_more hz
      have out : ∀ hno : isOpen d kk z.2 = false, H' D = some (.lst (refs ((as.take (i + 1)).filter fun z => isOpen d kk z.2))) ∧ Same H1 H' := fun hno => by
        refine ⟨?_, sm⟩
        rw [eD, et, List.filter_append]
        simp [hno]
      refine ⟨rfl, _, rfl, z.1, xs, 2, _, rfl, rfl, SqT.of ex, g2, _, rfl, _, _, rfl, rfl, _, rfl, ?_⟩
      refine ite2 (fun c1 => ?_) (fun c1 => ?_)
      · have c1' : z.2.wri ≤ kk := of_decide_eq_true c1
        refine ⟨_, rfl, z.1, xs, 1, _, rfl, rfl, SqT.of ex, g1, _, rfl, _, _, rfl, rfl, _, rfl, ?_⟩
        refine ite2 (fun c2 => ?_) (fun c2 => ?_)
        · have c2' : z.2.day ≤ d := of_decide_eq_true c2
          have hyes : isOpen d kk z.2 = true := by
            unfold isOpen
            rw [decide_eq_true c1', decide_eq_true c2']
            rfl
          refine ⟨_, rfl, _, eD, small1000 ?_, ?_, fun b o e => ?_⟩
          · have h1 := List.length_filter_le (fun z : Addr × En => isOpen d kk z.2) (as.take i)
            rw [List.length_map]
            rw [List.length_take] at h1
            omega
          · rw [upd_same, et, List.filter_append]
            simp [hyes, refs]
          · rw [upd_ne (ne_of_none e nD)]
            exact sm _ _ e
        · refine out ?_
          have c2' : ¬ z.2.day ≤ d := fun z0 => c2 (decide_eq_true z0)
          unfold isOpen
          rw [decide_eq_false c2', Bool.false_and]
      · refine iteF (out ?_)
        have c1' : ¬ z.2.wri ≤ kk := fun z0 => c1 (decide_eq_true z0)
        unfold isOpen
        rw [decide_eq_false c1', Bool.and_false]
    · rintro H' ⟨eD, sm⟩
      have el : as.take (refs as).length = as := List.take_of_length_le (by rw [List.length_map]; exact Nat.le_refl _)
      rw [el] at eD
      have esub : ∀ z ∈ as.filter (fun z => isOpen d kk z.2), z ∈ as := fun z hz => (List.mem_filter.mp hz).1
      refine q D _ H' (eN.trans (.of sm)) (T1.ext sm) (Fresh.of eN nD) eD (fun z hz => (hent z (hmem z (esub z hz))).kp (Same.tup sm)) ⟨fun z hz => ⟨?_, hact z (esub z hz), (List.mem_filter.mp hz).2⟩, fun u hu hd ho => ?_, hso.filter _, ?_⟩
      · exact (ens_perm pm _).mp (List.mem_map.mpr ⟨z, hmem z (esub z hz), rfl⟩)
      · obtain ⟨z, hz, rfl⟩ := hall u hu hd
        exact ⟨z, List.mem_filter.mpr ⟨hz, ho⟩, rfl⟩
      · have h1 := List.length_filter_le (fun z : Addr × En => isOpen d kk z.2) as
        omega
/-! ### acts of a word upon a number -/
abbrev sActsOn : Stmt := topS 25
abbrev nActsOn : List Str := ["acts", "word", "number", "act"]
abbrev pActsOn : List Str := ["acts", "word", "number"]
theorem scActsOn : FnScope nActsOn pActsOn (defScope sActsOn) := ⟨rfl, rfl, rfl, by decide +kernel, rfl, by decide +kernel, by decide +kernel⟩
def spActsOn : Sp := fun vs H Q _ => ∃ (la : Addr) (x : Str) (m : Int) (ys : List (Addr × En)), vs = [.ref la, .str x, .int m] ∧ H la = some (.lst (refs ys)) ∧ (∀ z ∈ ys, EntAt H z.1 z.2 ∧ z.2.isDeed = false) ∧ ys.length ≤ 1000 ∧
  ∀ p H', Same H H' → H p = none → H' p = some (.lst (((ys.filter fun z => isOn x m z.2).map fun z => z.2.num).map V.int)) → Q (.ref p) H'
def t_on (K : PySem.W.Frag) : TT := tAnd (tTest (tOp rEq (tOp (rIxT K) (tVar 3) (tC (.int 4))) (tVar 1))) (tTest (tOp rEq (tOp (rIxT K) (tVar 3) (tC (.int 5))) (tVar 2)))
theorem ok_actsOn {f : Addr} {fd : FuncData} {k : Nat} (F : Fun K "acts_on" "acts_on" sActsOn f fd) (mW : MgInt mg "WORD" 4) (mO : MgInt mg "OF" 5) (mN : MgInt mg "NUMBER" 0) : FnOk P w K mg base CX0 (k + 1) f fd pActsOn spActsOn := by
  refine F.ok scActsOn (fun vs H Q E h => ?_) (fun cdv A outer s H vs Q E hr h => ?_)
  · obtain ⟨la, x, m, ys, rfl, _⟩ := h
    rfl
  · obtain ⟨la, x, m, ys, rfl, hl, hys, hlen, q⟩ := h
    refine ⟨_, pss_one (ps_ret (pe_lc (own := [("act", 3)]) (g := gName 3) (by rfl) scActsOn.nd (pi_list (pv 0)) (blkOk_by (own := [("act", 3)]) (N := nActsOn) (sc := defScope sActsOn) (by decide +kernel)) (fun _ _ _ _ _ => pg_name (i := 3) scActsOn.nd rfl (Or.inl rfl))
      (fun _ _ _ _ _ => show PTs _ _ (t_on K) from pts_one (PW.pt (pw_and (pt_cmpR op_eq (pe_ix ix_tup (pv 3) (pe_num (by rfl) mW) (fun _ _ => rfl)) (pv 1) (nomark _)) (pw_and1 (pt_cmpR op_eq (pe_ix ix_tup (pv 3) (pe_num (by rfl) mO) (fun _ _ => rfl)) (pv 2) (nomark _))))))
      (fun _ _ _ _ _ => show PE _ _ (tOp (rIxT K) (tVar 3) (tC (.int 0))) from pe_ix ix_tup (pv 3) (pe_num (by rfl) mN) (fun _ _ => rfl)))), ?_⟩
    refine ⟨_, rfl, la, rfl, ⟨_, SqL.of hl⟩, fun D nD => ?_⟩
    refine lc_list (K := K) (a := la) (xs := refs ys) (fun i H' => H' D = some (.lst ((((ys.take i).filter fun z => isOn x m z.2).map fun z => z.2.num).map V.int)) ∧ Same H H') ⟨upd_same, fun b o e => by rw [upd_ne (ne_of_none e nD)]; exact e⟩ (fun i H' _ h => SqL.of (h.2 _ _ hl)) ?_ ?_
    · rintro i y H' hx ⟨eD, sm⟩
      obtain ⟨z, hz, rfl⟩ := ref_at hx
      have hzm := List.mem_of_getElem? hz
      have hi : i < ys.length := (List.getElem?_eq_some_iff.mp hz).1
      have hEz := (hys z hzm).1.kp (Same.tup sm)
      obtain ⟨xs, ex, g0, _, _, _, g4⟩ := hEz.tup
      obtain ⟨xs5, ex5, g5⟩ := hEz.five (hys z hzm).2
      have et := take_more hz
      have out : ∀ hno : isOn x m z.2 = false, H' D = some (.lst ((((ys.take (i + 1)).filter fun z => isOn x m z.2).map fun z => z.2.num).map V.int)) ∧ Same H H' := fun hno => by
        refine ⟨?_, sm⟩
        rw [eD, et, List.filter_append]
        simp [hno]
      refine ⟨rfl, _, rfl, z.1, xs, 4, _, rfl, rfl, SqT.of ex, g4, _, rfl, rfl, _, rfl, ?_⟩
      refine ite2 (fun c1 => ?_) (fun c1 => ?_)
      · have c1' : z.2.word = x := by
          have := of_decide_eq_true c1
          injection this
        refine ⟨_, rfl, z.1, xs5, 5, _, rfl, rfl, SqT.of ex5, g5, _, rfl, rfl, _, rfl, ?_⟩
        refine ite2 (fun c2 => ?_) (fun c2 => ?_)
        · have c2' : z.2.of = m := by
            have := of_decide_eq_true c2
            injection this
          have hyes : isOn x m z.2 = true := by
            unfold isOn
            rw [decide_eq_true c1', decide_eq_true c2']
            rfl
          refine ⟨_, rfl, z.1, xs, 0, _, rfl, rfl, SqT.of ex, g0, _, eD, small1000 ?_, ?_, fun b o e => ?_⟩
          · have h1 := List.length_filter_le (fun z : Addr × En => isOn x m z.2) (ys.take i)
            rw [List.length_map, List.length_map]
            rw [List.length_take] at h1
            omega
          · rw [upd_same, et, List.filter_append]
            simp [hyes]
          · rw [upd_ne (ne_of_none e nD)]
            exact sm _ _ e
        · refine out ?_
          have c2' : ¬ z.2.of = m := fun z0 => c2 (decide_eq_true (by rw [z0]))
          unfold isOn
          rw [decide_eq_false c2', Bool.and_false]
      · refine iteF (out ?_)
        have c1' : ¬ z.2.word = x := fun z0 => c1 (decide_eq_true (by rw [z0]))
        unfold isOn
        rw [decide_eq_false c1', Bool.false_and]
    · rintro H' ⟨eD, sm⟩
      have el : ys.take (refs ys).length = ys := List.take_of_length_le (by rw [List.length_map]; exact Nat.le_refl _)
      rw [el] at eD
      exact q D H' sm nD eD
/-! ### those in force -/
abbrev sForced : Stmt := topS 26
abbrev nForced : List Str := ["acts", "forced", "act"]
theorem scForced : FnScope nForced ["acts"] (defScope sForced) := ⟨rfl, rfl, rfl, by decide +kernel, rfl, by decide +kernel, by decide +kernel⟩
def spForced : Sp := fun vs H Q _ => ∃ (la : Addr) (n : Nat) (es : List En) (d k : Int) (ys : List (Addr × En)), vs = [.ref la] ∧ H la = some (.lst (refs ys)) ∧ (∀ z ∈ ys, EntAt H z.1 z.2) ∧ BkOk n es ∧ OpenActs n es d k ys ∧
  ∀ p H', Same H H' → H p = none → H' p = some (.lst (refs (ys.reverse.filter fun z => frc es d k z.2))) → Q (.ref p) H'
theorem ok_forced {f : Addr} {fd : FuncData} {k : Nat} (F : Fun K "acts_in_force" "acts_in_force" sForced f fd) (DO : Df K mg "acts_on" sActsOn pActsOn fOn dOn) (mW : MgInt mg "WORD" 4) (mO : MgInt mg "OF" 5) (mN : MgInt mg "NUMBER" 0) : FnOk P w K mg base CX0 (k + 2) f fd ["acts"] spForced := by
  have GO : FnOk P w K mg base CX0 (k + 1) fOn dOn pActsOn spActsOn := ok_actsOn DO.F mW mO mN
  refine F.ok scForced (fun vs H Q E h => ?_) (fun cdv A outer s H vs Q E hr h => ?_)
  · obtain ⟨la, n, es, d, k, ys, rfl, _⟩ := h
    rfl
  · obtain ⟨la, n, es, d, kk, ys, rfl, hl, hys, hB, hO, q⟩ := h
    refine ⟨_, pss_cons (ps_set (i := 1) scForced.nd rfl (.inl rfl) (pe_lst pa_nil))
      (pss_cons (ps_for PassesOwn.never rfl (pi_list (pe_revL (pv 0))) (pg_name (i := 2) scForced.nd rfl (.inl rfl))
        (pss_one (ps_if (pt_not (pt_truth (pe_call GO hr (by rfl) DO.g DO.F.kp DO.b .nil pass0 (pa_cons (pv 1) (pa_cons pe_str (pa_cons (pe_ix ix_tup (pv 2) (pe_num (by rfl) mN) (fun _ _ => rfl)) pa_nil)))) (by intro _; rfl)))
          (pss_one (ps_expr (pe_bm PySem.F.plainAttrs_list PySem.F.slot_list_append PySem.F.type_list_append mt_append (pv 1) (pa_cons (pv 2) pa_nil)))) pss_nil)))
      (pss_one (ps_ret (pv 1)))), ?_⟩
    refine ⟨Nat.zero_le _, fun fo nfo => ?_⟩
    have s1 : Same H (upd H fo (.lst [])) := fun b o e => by rw [upd_ne (ne_of_none e nfo)]; exact e
    have e1 : (upd H fo (.lst [])) fo = some (.lst []) := upd_same
    generalize (upd H fo (.lst [])) = H1 at s1 e1
    refine ⟨_, rfl, la, _, rfl, SqL.of (s1 _ _ hl), fun rv nrv => ?_⟩
    have s2 : Same H1 (upd H1 rv (.lst (refs ys).reverse)) := fun b o e => by rw [upd_ne (ne_of_none e nrv)]; exact e
    have erv : (upd H1 rv (.lst (refs ys).reverse)) rv = some (.lst (refs ys.reverse)) := by rw [upd_same, ← List.map_reverse]
    have e2 := s2 _ _ e1
    have nfr : fo ≠ rv := ne_of_none e1 nrv
    generalize (upd H1 rv (.lst (refs ys).reverse)) = H2 at s2 erv e2
    have s12 := s1.trans s2
    refine ⟨rv, rfl, ⟨_, SqL.of erv⟩, ?_⟩
    refine for_list (K := K) (a := rv) (xs := refs ys.reverse) (fun i σ H' => ∃ y2, σ = [some (.ref la), some (.ref fo), y2] ∧ Same H H' ∧ H' rv = some (.lst (refs ys.reverse)) ∧ H' fo = some (.lst (refs ((ys.reverse.take i).filter fun z => frc es d kk z.2)))) ⟨none, rfl, s12, erv, e2⟩ (fun i σ H' _ h => ?_) ?_ ?_
    · obtain ⟨_, _, _, e, _⟩ := h
      exact SqL.of e
    · rintro i x σ H' hx ⟨y2, rfl, sm, ev, ef⟩
      obtain ⟨z, hz, rfl⟩ := ref_at hx
      have hzr := List.mem_of_getElem? hz
      have hzm : z ∈ ys := List.mem_reverse.mp hzr
      have hi : i < ys.reverse.length := (List.getElem?_eq_some_iff.mp hz).1
      have hlr : ys.reverse.length = ys.length := List.length_reverse
      have hyl := hO.len
      obtain ⟨xs, ex, g0, _⟩ := ((hys z hzm).kp (Same.tup sm)).tup
      obtain ⟨m1, m2, m3⟩ := hO.mem z hzm
      have et := take_more hz
      have hsub : ∀ u ∈ (ys.reverse.take i).filter (fun z => frc es d kk z.2), u ∈ ys ∧ frc es d kk u.2 = true := fun u hu =>
        ⟨List.mem_reverse.mp (List.mem_of_mem_take (List.mem_filter.mp hu).1), (List.mem_filter.mp hu).2⟩
      have hfl : ((ys.reverse.take i).filter (fun z => frc es d kk z.2)).length ≤ 16 := by
        have h1 := List.length_filter_le (fun z : Addr × En => frc es d kk z.2) (ys.reverse.take i)
        rw [List.length_take] at h1
        omega
      refine ⟨_, rfl, _, rfl, z.1, xs, 0, _, rfl, rfl, SqT.of ex, g0, fo, "undone", z.2.num, _, rfl, ef, fun u hu => ⟨(hys u (hsub u hu).1).kp (Same.tup sm), (hO.mem u (hsub u hu).1).2.1⟩, by omega, fun p H3 s3 np ep => ⟨_, .inl ⟨_, SqL.of ep, rfl⟩, ?_⟩⟩
      -- none of the forced undoes it: just where it is in force
      have key : (((((ys.reverse.take i).filter fun z => frc es d kk z.2).filter fun u => isOn "undone" z.2.num u.2).map fun z => z.2.num).map V.int).isEmpty = frc es d kk z.2 := by
        rw [frc_eq hB d kk m1, m3, Bool.true_and, Bool.eq_iff_iff, List.all_eq_true]
        constructor
        · intro h u hu
          cases ho : isOn "undone" z.2.num u with
          | false => rfl
          | true =>
            cases hf : frc es d kk u with
            | false => rfl
            | true =>
              exfalso
              obtain ⟨h1, h2, h3⟩ := isOn_act (hB.ok u hu) (by decide) ho
              have lt := ((hB.ok u hu).of_lt h1).1
              obtain ⟨v, hv, rfl⟩ := hO.all u hu h1 (frc_open hB hu hf)
              -- it stands ahead in the turned list
              have hpre : v ∈ ys.reverse.take i := by
                have hv' : v ∈ ys.reverse := List.mem_reverse.mpr hv
                obtain ⟨j, hj, ej⟩ := List.mem_iff_getElem.mp hv'
                have hup : ys.reverse.Pairwise (fun a b => b.2.num < a.2.num) := List.pairwise_reverse.mpr hO.up
                have hji : j < i := by
                  rcases Nat.lt_trichotomy j i with q1 | q1 | q1
                  · exact q1
                  · subst q1
                    rw [List.getElem?_eq_getElem hj, ej] at hz
                    injection hz with hz
                    rw [hz] at lt h3
                    omega
                  · have := List.pairwise_iff_getElem.mp hup i j hi hj q1
                    have ei : ys.reverse[i] = z := by
                      rw [List.getElem?_eq_getElem hi] at hz
                      exact Option.some.inj hz
                    rw [ei, ej] at this
                    omega
                exact List.mem_take_iff_getElem.mpr ⟨j, by omega, ej⟩
              have hmem : v.2.num ∈ (((ys.reverse.take i).filter fun z => frc es d kk z.2).filter fun u => isOn "undone" z.2.num u.2).map fun z => z.2.num :=
                List.mem_map.mpr ⟨v, List.mem_filter.mpr ⟨List.mem_filter.mpr ⟨hpre, hf⟩, ho⟩, rfl⟩
              rw [List.isEmpty_iff] at h
              have h' := List.map_eq_nil_iff.mp h
              rw [h'] at hmem
              cases hmem
        · intro h
          rw [List.isEmpty_iff, List.map_eq_nil_iff, List.map_eq_nil_iff, List.filter_eq_nil_iff]
          intro u hu ho
          obtain ⟨hu1, hu2⟩ := hsub u hu
          have := h u.2 (hO.mem u hu1).1
          rw [ho, hu2] at this
          cases this
      rw [key]
      have ef3 := s3 _ _ ef
      cases hf : frc es d kk z.2 with
      | true =>
        refine iteT ?_
        refine ⟨_, rfl, .inl ⟨rfl, _, SqL.of ef3⟩, _, rfl, fo, _, _, rfl, rfl, ef3, small1000 (by rw [List.length_map]; omega), ?_⟩
        refine ⟨_, rfl, fun b o e => ?_, ?_, ?_⟩
        · rw [upd_ne (ne_of_none e nfo)]
          exact s3 _ _ (sm _ _ e)
        · rw [upd_ne nfr.symm]
          exact s3 _ _ ev
        · rw [upd_same, et, List.filter_append]
          simp [hf, refs]
      | false =>
        refine iteF ?_
        refine ⟨_, rfl, sm.trans s3, s3 _ _ ev, ?_⟩
        rw [ef3, et, List.filter_append]
        simp [hf]
    · rintro σ H' ⟨y2, rfl, sm, ev, ef⟩
      have el : ys.reverse.take (refs ys.reverse).length = ys.reverse := List.take_of_length_le (by rw [List.length_map]; exact Nat.le_refl _)
      rw [el] at ef
      exact ⟨_, rfl, q fo H' sm nfo ef⟩
end
end Deed

namespace Deed
open PySem PySem.Spec PyProof.Rows L2 LamX
/-! ### what a deed is: the mathematics -/
def En.rests (e : En) : List Int := match e.kd with
  | .deed _ _ rs _ => rs
  | .act _ _ => []
/-- some act of the word upon the number is in force -/
def anyF (es : List En) (d k : Int) (x : Str) (m : Int) : Bool := es.any fun u => isOn x m u && frc es d k u
def carries (x : Str) : Bool := decide (x ∈ ([("stands" : Str), "paid"] : List Str))
/-- by what its rests are -/
def wordBy (es : List En) (d k : Int) (e : En) (lost : Bool) : Str :=
  if k < e.wri then "unknown" else if d < e.day then "ahead" else if anyF es d k "void" e.num = true then "void" else if lost = true then "fallen" else if anyF es d k "paid" e.num = true then "paid" else "stands"
def isD (m : Int) (e : En) : Bool := e.isDeed && decide (e.num = m)
def stF (es : List En) (d k : Int) : Nat → En → Str
  | 0, _ => "unknown"
  | f + 1, e => wordBy es d k e (e.rests.any fun r => es.any fun u => isD r u && !carries (stF es d k f u))
def st (es : List En) (d k : Int) (e : En) : Str := stF es d k (e.num.toNat + 1) e
theorem EnOk.rest {n : Nat} {ds as : List Int} {e : En} (h : EnOk n ds as e) : ∀ r ∈ e.rests, r ∈ ds ∧ r < e.num := by
  intro r hr
  unfold En.rests at hr
  cases hk : e.kd with
  | deed g t rs ws =>
    rw [hk] at hr
    have h4 := h.2.2.2
    rw [hk] at h4
    exact h4.2.2.2.2.2.1 r hr
  | act x o =>
    rw [hk] at hr
    cases hr
theorem any_congr {α : Type} {l : List α} {p q : α → Bool} (h : ∀ x ∈ l, p x = q x) : l.any p = l.any q := by
  induction l with
  | nil => rfl
  | cons a r ih =>
    rw [List.any_cons, List.any_cons, h a List.mem_cons_self, ih fun x hx => h x (List.mem_cons_of_mem _ hx)]
theorem stF_one {n : Nat} {es : List En} (hB : BkOk n es) (d k : Int) : ∀ (f g : Nat) (e : En), e ∈ es → e.num.toNat + 1 ≤ f → e.num.toNat + 1 ≤ g → stF es d k f e = stF es d k g e := by
  intro f
  induction f with
  | zero =>
    intro g e he hf _
    omega
  | succ f ih =>
    intro g e he hf hg
    cases g with
    | zero => omega
    | succ g =>
      show wordBy es d k e _ = wordBy es d k e _
      congr 1
      refine any_congr fun r hr => any_congr fun u hu => ?_
      cases hd : isD r u with
      | false => rfl
      | true =>
        unfold isD at hd
        rw [Bool.and_eq_true] at hd
        have hn := of_decide_eq_true hd.2
        have lt := ((hB.ok e he).rest r hr).2
        have r1 := hB.rng e he
        have r2 := hB.rng u hu
        rw [ih g u hu (by omega) (by omega)]
theorem st_eq {n : Nat} {es : List En} (hB : BkOk n es) (d k : Int) {e : En} (he : e ∈ es) : st es d k e = wordBy es d k e (e.rests.any fun r => es.any fun u => isD r u && !carries (st es d k u)) := by
  show wordBy es d k e _ = wordBy es d k e _
  congr 1
  refine any_congr fun r hr => any_congr fun u hu => ?_
  cases hd : isD r u with
  | false => rfl
  | true =>
    unfold isD at hd
    rw [Bool.and_eq_true] at hd
    have hn := of_decide_eq_true hd.2
    have lt := ((hB.ok e he).rest r hr).2
    have r1 := hB.rng e he
    have r2 := hB.rng u hu
    rw [stF_one hB d k e.num.toNat (u.num.toNat + 1) u hu (by omega) (by omega)]
    rfl
/-- a rest is lost just where that very deed carries nothing -/
theorem lost_one {n : Nat} {es : List En} (hB : BkOk n es) (d k : Int) {r : Int} {u : En} (hu : u ∈ es) (hd : u.isDeed = true) (hn : u.num = r) : (es.any fun u => isD r u && !carries (st es d k u)) = !carries (st es d k u) := by
  rw [Bool.eq_iff_iff, List.any_eq_true]
  constructor
  · rintro ⟨u', hu', h⟩
    rw [Bool.and_eq_true] at h
    unfold isD at h
    rw [Bool.and_eq_true] at h
    have := num_inj hB hu' hu ((of_decide_eq_true h.1.2).trans hn.symm)
    rw [← this]
    exact h.2
  · intro h
    refine ⟨u, hu, ?_⟩
    unfold isD
    rw [hd, decide_eq_true hn, h]
    rfl
theorem dn_at {es : List En} {r : Int} (h : r ∈ dn es) : ∃ u ∈ es, u.isDeed = true ∧ u.num = r := mem_dn.mp h
/-- the words of deeds, as a dict's pairs -/
abbrev wds (es : List En) (d k : Int) (ys : List (Addr × En)) : List (Key × V) := ys.map fun z => (Sum.inl z.2.num, V.str (st es d k z.2))
theorem valV_map {α : Type} {f : α → Int} {g : α → V} {l : List α} (nd : (l.map f).Nodup) {z : α} (hz : z ∈ l) : valV (l.map fun z => ((Sum.inl (f z) : Key), g z)) (.inl (f z)) = some (g z) := by
  induction l with
  | nil => cases hz
  | cons y r ih =>
    have h2 := List.nodup_cons.mp (show (f y :: r.map f).Nodup from nd)
    show Option.map (·.2) (List.find? (fun kv => decide (kv.1 = (Sum.inl (f z) : Key))) ((Sum.inl (f y), g y) :: r.map fun z => ((Sum.inl (f z) : Key), g z))) = _
    rw [List.find?_cons]
    rcases List.mem_cons.mp hz with rfl | hz
    · simp
    · have hne : ¬ (Sum.inl (f y) : Key) = Sum.inl (f z) := fun q => by
        injection q with q
        exact h2.1 (List.mem_map.mpr ⟨z, hz, q.symm⟩)
      rw [decide_eq_false hne]
      exact ih h2.2 hz
theorem EntAt.seven {H : Hp} {a : Addr} {e : En} (h : EntAt H a e) (hd : e.isDeed = true) : ∃ xs r, H a = some (.tup xs) ∧ atI xs 7 = some (.ref r) ∧ H r = some (.tup (e.rests.map V.int)) := by
  unfold EntAt at h
  unfold En.isDeed at hd
  unfold En.rests
  cases hk : e.kd with
  | deed g t rs ws =>
    rw [hk] at h
    obtain ⟨r, w, h1, h2, _⟩ := h
    exact ⟨_, r, h1, atI_nat (j := 7) rfl, h2⟩
  | act x o =>
    rw [hk] at hd
    cases hd
end Deed

namespace Deed
open PySem PySem.Spec PyProof.Rows L2 LamX
/-- the acts in force, in whatever order -/
structure ForcedAt (es : List En) (d k : Int) (fs : List (Addr × En)) : Prop where
  mem : ∀ z ∈ fs, z.2 ∈ es ∧ z.2.isDeed = false ∧ frc es d k z.2 = true
  all : ∀ u ∈ es, u.isDeed = false → frc es d k u = true → ∃ z ∈ fs, z.2 = u
  len : fs.length ≤ 16
theorem ForcedAt.any {n : Nat} {es : List En} {d k : Int} {fs : List (Addr × En)} (h : ForcedAt es d k fs) (hB : BkOk n es) (x : Str) (hx : x ≠ "deed") (m : Int) : (!((((fs.filter fun z => isOn x m z.2).map fun z => z.2.num).map V.int).isEmpty)) = anyF es d k x m := by
  unfold anyF
  rw [Bool.eq_iff_iff, List.any_eq_true]
  constructor
  · intro hh
    have hne : ¬ (((fs.filter fun z => isOn x m z.2).map fun z => z.2.num).map V.int) = [] := fun z => by
      rw [z] at hh
      cases hh
    have hne2 : fs.filter (fun z => isOn x m z.2) ≠ [] := fun z => hne (by rw [z]; rfl)
    obtain ⟨z, hz⟩ := List.exists_mem_of_ne_nil _ hne2
    obtain ⟨h1, h2⟩ := List.mem_filter.mp hz
    exact ⟨z.2, (h.mem z h1).1, by rw [h2, (h.mem z h1).2.2]; rfl⟩
  · rintro ⟨u, hu, hh⟩
    rw [Bool.and_eq_true] at hh
    obtain ⟨hd, _, _⟩ := isOn_act (hB.ok u hu) hx hh.1
    obtain ⟨z, hz, rfl⟩ := h.all u hu hd hh.2
    have hm : z ∈ fs.filter fun z => isOn x m z.2 := List.mem_filter.mpr ⟨hz, hh.1⟩
    cases hl : fs.filter (fun z => isOn x m z.2) with
    | nil => rw [hl] at hm; cases hm
    | cons a r => rfl
section
variable {P : Program} {w : World} {K : PySem.W.Frag} {mg : Str → Option Value} {base : Heap} {T : List (Addr × Str)} {fOn : Addr} {dOn : FuncData}
/-- the words that carry, of the module's top -/
def CarryAt (K : PySem.W.Frag) (mg : Str → Option Value) : Prop := ∃ a : Addr, mg "CARRYING" = some (.ref a) ∧ ∀ H : Hp, SqT K H a [.str "stands", .str "paid"]
abbrev sWordOf : Stmt := topS 27
abbrev nWordOf : List Str := ["deed", "forced", "words", "d", "k", "rest"]
abbrev pWordOf : List Str := ["deed", "forced", "words", "d", "k"]
theorem scWordOf : FnScope nWordOf pWordOf (defScope sWordOf) := ⟨rfl, rfl, rfl, by decide +kernel, rfl, by decide +kernel, by decide +kernel⟩
def spWordOf : Sp := fun vs H Q _ => ∃ (a fo wd : Addr) (e : En) (n : Nat) (es : List En) (d k : Int) (fs : List (Addr × En)) (kvs : List (Key × V)), vs = [.ref a, .ref fo, .ref wd, .int d, .int k] ∧ EntAt H a e ∧ e ∈ es ∧ e.isDeed = true ∧ BkOk n es ∧ H fo = some (.lst (refs fs)) ∧ (∀ z ∈ fs, EntAt H z.1 z.2) ∧ ForcedAt es d k fs ∧
  H wd = some (.dK kvs) ∧ (∀ r ∈ e.rests, ∃ u ∈ es, u.isDeed = true ∧ u.num = r ∧ valV kvs (.inl r) = some (.str (st es d k u))) ∧ ∀ H', Same H H' → Q (.str (st es d k e)) H'
theorem ok_wordOf {f : Addr} {fd : FuncData} {k : Nat} (F : Fun K "word_of_deed" "word_of_deed" sWordOf f fd) (DO : Df K mg "acts_on" sActsOn pActsOn fOn dOn) (mW : MgInt mg "WORD" 4) (mO : MgInt mg "OF" 5) (mN : MgInt mg "NUMBER" 0) (mWr : MgInt mg "WRITTEN" 2) (mD : MgInt mg "DAY" 1) (mR : MgInt mg "RESTS" 7) (mA : mg "any" = none) (mC : CarryAt K mg) : FnOk P w K mg base CX0 (k + 2) f fd pWordOf spWordOf := by
  have GO : FnOk P w K mg base CX0 (k + 1) fOn dOn pActsOn spActsOn := ok_actsOn DO.F mW mO mN
  obtain ⟨aC, gC, sC⟩ := mC
  refine F.ok scWordOf (fun vs H Q E h => ?_) (fun cdv A outer s H vs Q E hr h => ?_)
  · obtain ⟨a, fo, wd, e, n, es, d, k, fs, kvs, rfl, _⟩ := h
    rfl
  · obtain ⟨a, fo, wd, e, n, es, d, kk, fs, kvs, rfl, hE, he, hd, hB, hfo, hfs, hF, hwd, hrs, q⟩ := h
    have hu := hu_of hr
    refine ⟨_, pss_cons (ps_if (pt_cmpR op_gt (pe_ix ix_tup (pv 0) (pe_num (by rfl) mWr) (fun _ _ => rfl)) (pv 4) (nomark _)) (pss_one (ps_ret pe_str)) pss_nil)
      (pss_cons (ps_if (pt_cmpR op_gt (pe_ix ix_tup (pv 0) (pe_num (by rfl) mD) (fun _ _ => rfl)) (pv 3) (nomark _)) (pss_one (ps_ret pe_str)) pss_nil)
      (pss_cons (ps_if (pt_truth (pe_call GO hr (by rfl) DO.g DO.F.kp DO.b .nil pass0 (pa_cons (pv 1) (pa_cons pe_str (pa_cons (pe_ix ix_tup (pv 0) (pe_num (by rfl) mN) (fun _ _ => rfl)) pa_nil)))) (by intro _; rfl)) (pss_one (ps_ret pe_str)) pss_nil)
      (pss_cons (ps_if (pt_val (pe_callB (cr_any rfl) (by rfl) mA (by decide +kernel) (pa_cons (pe_lc (own := [("rest", 5)]) (g := gName 5) (by rfl) scWordOf.nd (pi_tup (pe_ix ix_tup (pv 0) (pe_num (by rfl) mR) (fun _ _ => rfl))) (blkOk_by (own := [("rest", 5)]) (N := nWordOf) (sc := defScope sWordOf) (by decide +kernel)) (fun _ _ _ _ _ => pg_name (i := 5) scWordOf.nd rfl (Or.inl rfl)) (fun _ _ _ _ _ => pts_nil)
          (fun _ _ _ _ _ => show PE _ _ (tOp (rIn K true) (tDGet (tVar 2) (tVar 5)) (tC (.ref aC))) from pe_cmpR op_notIn_seq (pe_dget hu (pv 2) (pv 5) (fun _ _ => rfl)) (pe_glob (by rfl) gC rfl) (by rfl))) pa_nil))) (pss_one (ps_ret pe_str)) pss_nil)
      (pss_cons (ps_if (pt_truth (pe_call GO hr (by rfl) DO.g DO.F.kp DO.b .nil pass0 (pa_cons (pv 1) (pa_cons pe_str (pa_cons (pe_ix ix_tup (pv 0) (pe_num (by rfl) mN) (fun _ _ => rfl)) pa_nil)))) (by intro _; rfl)) (pss_one (ps_ret pe_str)) pss_nil)
      (pss_one (ps_ret pe_str)))))), ?_⟩
    have sq := st_eq hB d kk he
    unfold wordBy at sq
    obtain ⟨xs, ex, g0, g1, g2, _⟩ := hE.tup
    have hlen := hF.len
    refine ⟨_, rfl, a, xs, 2, _, rfl, rfl, SqT.of ex, g2, _, rfl, _, _, rfl, rfl, _, rfl, ?_⟩
    refine ite2 (fun c => ?_) (fun c => ?_)
    · have c' : kk < e.wri := of_decide_eq_true c
      rw [if_pos c'] at sq
      rw [sq] at q
      exact q H (Same.refl H)
    have c' : ¬ kk < e.wri := fun z => c (decide_eq_true z)
    rw [if_neg c'] at sq
    refine ⟨_, rfl, a, xs, 1, _, rfl, rfl, SqT.of ex, g1, _, rfl, _, _, rfl, rfl, _, rfl, ?_⟩
    refine ite2 (fun c2 => ?_) (fun c2 => ?_)
    · have c2' : d < e.day := of_decide_eq_true c2
      rw [if_pos c2'] at sq
      rw [sq] at q
      exact q H (Same.refl H)
    have c2' : ¬ d < e.day := fun z => c2 (decide_eq_true z)
    rw [if_neg c2'] at sq
    refine ⟨_, rfl, _, rfl, a, xs, 0, _, rfl, rfl, SqT.of ex, g0, fo, "void", e.num, fs, rfl, hfo, fun z hz => ⟨hfs z hz, (hF.mem z hz).2.1⟩, by omega, fun p1 H1 s1 np1 ep1 => ⟨_, .inl ⟨_, SqL.of ep1, rfl⟩, ?_⟩⟩
    rw [hF.any hB "void" (by decide) e.num]
    refine ite2 (fun c3 => ?_) (fun c3 => ?_)
    · rw [if_pos c3] at sq
      rw [sq] at q
      exact q H1 s1
    rw [if_neg c3] at sq
    -- the rests
    obtain ⟨xs7, r, ex7, g7, er⟩ := (hE.kp (Same.tup s1)).seven hd
    refine ⟨_, rfl, a, xs7, 7, _, rfl, rfl, SqT.of ex7, g7, r, rfl, ⟨_, SqT.of er⟩, fun D nD => ?_⟩
    refine lc_tup (K := K) (a := r) (xs := e.rests.map V.int) (fun i H' => H' D = some (.lst (((e.rests.take i).map fun r => es.any fun u => isD r u && !carries (st es d kk u)).map V.bl)) ∧ Same H1 H') ⟨upd_same, fun b o e => by rw [upd_ne (ne_of_none e nD)]; exact e⟩ (fun i H' _ h => SqT.of (h.2 _ _ er)) ?_ ?_
    · rintro i x H' hx ⟨eD, sm⟩
      rw [List.getElem?_map] at hx
      cases hn : e.rests[i]? with
      | none => rw [hn] at hx; cases hx
      | some m =>
        rw [hn] at hx
        injection hx with hx
        subst hx
        obtain ⟨u, hu1, hu2, hu3, hu4⟩ := hrs m (List.mem_of_getElem? hn)
        have hi : i < e.rests.length := (List.getElem?_eq_some_iff.mp hn).1
        have hrl : e.rests.length ≤ 2 := by
          have h4 := (hB.ok e he).2.2.2
          unfold En.rests
          cases hk : e.kd with
          | deed g t rs ws =>
            rw [hk] at h4
            exact h4.2.2.2.1
          | act x o => exact Nat.zero_le _
        refine ⟨rfl, ?_⟩
        unfold tYes
        dsimp only
        rw [if_pos rfl]
        have dg : DGet H' wd (.int m) (some (.str (st es d kk u))) := by
          have h1 := DGet.k (k := Sum.inl m) (sm _ _ (s1 _ _ hwd))
          rw [hu4] at h1
          exact h1
        refine ⟨_, rfl, _, rfl, wd, _, rfl, dg, aC, _, rfl, .inr (sC H'), rfl, rfl, _, eD, small1000 (by rw [List.length_map, List.length_map, List.length_take]; omega), ?_, fun b o e => ?_⟩
        · rw [upd_same, take_more hn, List.map_append, List.map_append]
          have e1 : inV (.str (st es d kk u)) [.str "stands", .str "paid"] = carries (st es d kk u) := mem_inS (ws := ["stands", "paid"])
          have e2 := lost_one hB d kk hu1 hu2 hu3
          simp [e1, e2]
        · rw [upd_ne (ne_of_none e nD)]
          exact sm _ _ e
    rintro H2 ⟨eD, sm⟩
    have el : e.rests.take (e.rests.map V.int).length = e.rests := List.take_of_length_le (by rw [List.length_map]; exact Nat.le_refl _)
    rw [el] at eD
    have s2 := s1.trans sm
    refine ⟨D, _, rfl, SqL.of eD, _, rfl, ?_⟩
    have ea : ((e.rests.map fun r => es.any fun u => isD r u && !carries (st es d kk u)).any id) = e.rests.any fun r => es.any fun u => isD r u && !carries (st es d kk u) := by
      rw [List.any_map]
      rfl
    rw [ea]
    refine ite2 (fun c4 => ?_) (fun c4 => ?_)
    · rw [if_pos c4] at sq
      rw [sq] at q
      exact q H2 s2
    rw [if_neg c4] at sq
    obtain ⟨xs2, ex2, h0, _⟩ := (hE.kp (Same.tup s2)).tup
    refine ⟨_, rfl, _, rfl, a, xs2, 0, _, rfl, rfl, SqT.of ex2, h0, fo, "paid", e.num, fs, rfl, s2 _ _ hfo, fun z hz => ⟨(hfs z hz).kp (Same.tup s2), (hF.mem z hz).2.1⟩, by omega, fun p3 H3 s3 np3 ep3 => ⟨_, .inl ⟨_, SqL.of ep3, rfl⟩, ?_⟩⟩
    rw [hF.any hB "paid" (by decide) e.num]
    refine ite2 (fun c5 => ?_) (fun c5 => ?_)
    · rw [if_pos c5] at sq
      rw [sq] at q
      exact q H3 (s2.trans s3)
    · rw [if_neg c5] at sq
      rw [sq] at q
      exact q H3 (s2.trans s3)
end
end Deed

namespace Deed
open PySem PySem.Spec PyProof.Rows L2 LamX
section
variable {P : Program} {w : World} {K : PySem.W.Frag} {mg : Str → Option Value} {base : Heap} {T : List (Addr × Str)} {fW fA : Addr} {dW dA : FuncData}
abbrev sCheckDeed : Stmt := topS 21
theorem scCheckDeed : FnScope ["book", "thing"] ["book", "thing"] (defScope sCheckDeed) := ⟨rfl, rfl, rfl, by decide +kernel, rfl, by decide +kernel, by decide +kernel⟩
def spCkDeed (T : List (Addr × Str)) : Sp := fun vs H Q _ => ∃ (b fk t : Addr) (n : Nat) (age : Int) (zs : List (Addr × En)) (e : En), vs = [.ref b, .int e.num] ∧ BookAt H b fk t n age zs ∧ Tabs T H ∧ e ∈ ens zs ∧ e.isDeed = true ∧ ∀ H', ExtN H H' → Tabs T H' → Q .non H'
theorem ok_ckDeed {f : Addr} {fd : FuncData} {k : Nat} (F : Fun K "check_deed" "check_deed" sCheckDeed f fd) (DW : Df K mg "is_whole" sWhole ["thing"] fW dW) (mi : mg "isinstance" = none) (mn : mg "int" = none) (mb : mg "bool" = none) (DA : Df K mg "deeds_of" sDeedsOf ["book"] fA dA) (GA : FnOk P w K mg base CX0 (k + 1) fA dA ["book"] (spNums (·.isDeed) T)) :
    FnOk P w K mg base CX0 (k + 2) f fd ["book", "thing"] (spCkDeed T) := by
  have GW : FnOk P w K mg base CX0 (k + 1) fW dW ["thing"] spWholeI := ok_wholeI DW.F mi mn mb
  refine F.ok scCheckDeed (fun vs H Q E h => ?_) (fun cdv A outer s H vs Q E hr h => ?_)
  · obtain ⟨b, fk, t, n, age, zs, e, rfl, _⟩ := h
    rfl
  · obtain ⟨b, fk, t, n, age, zs, e, rfl, hB, hT, he, hφ, q⟩ := h
    refine ⟨_, pss_one (ps_if (PW.pt (pw_or (pt_not (pt_val (pe_call GW hr (by rfl) DW.g DW.F.kp DW.b .nil pass0 (pa_cons (pv 1) pa_nil)))) (pw_or1 (pt_cmpR op_notIn_seq (pv 1) (pe_call GA hr (by rfl) DA.g DA.F.kp DA.b .nil pass0 (pa_cons (pv 0) pa_nil)) (by rfl))))) pss_never pss_nil), ?_⟩
    refine ⟨_, rfl, e.num, rfl, _, rfl, ?_⟩
    refine iteF ?_
    refine ⟨_, rfl, _, rfl, b, fk, t, n, age, zs, rfl, hB, hT, fun p zs' H1 eN T1 _ ep pm so => ?_⟩
    refine ⟨p, _, rfl, .inl (SqL.of ep), rfl, flat_ints _, _, rfl, ?_⟩
    have hm : e.num ∈ (zs'.filter fun z => z.2.isDeed).map fun z => z.2.num := by
      obtain ⟨z, hz, rfl⟩ := List.mem_map.mp he
      exact List.mem_map.mpr ⟨z, List.mem_filter.mpr ⟨pm.mem_iff.mpr hz, hφ⟩, rfl⟩
    rw [mem_inV, decide_eq_true hm]
    exact iteF (q H1 eN T1)
end
end Deed

namespace Deed
open PySem PySem.Spec PyProof.Rows L2 LamX
/-- the deeds of zs by their numbers -/
def DeedsUp (zs ys : List (Addr × En)) : Prop := ys.Pairwise (fun a b => a.2.num < b.2.num) ∧ (∀ x, x ∈ ens ys ↔ x ∈ ens zs ∧ x.isDeed = true) ∧ ys.length ≤ 16
theorem DeedsUp.nodup {zs ys : List (Addr × En)} (h : DeedsUp zs ys) : ((ens ys).map (·.num)).Nodup := by
  have h1 := h.1
  refine List.pairwise_map.mpr (List.pairwise_map.mpr (h1.imp fun hh => ?_))
  omega
theorem wds_one {zs ys ys' : List (Addr × En)} (h : DeedsUp zs ys) (h' : DeedsUp zs ys') : ens ys = ens ys' := by
  have key : ∀ (l m : List En), l.Pairwise (fun a b => a.num < b.num) → m.Pairwise (fun a b => a.num < b.num) → (∀ x, x ∈ l ↔ x ∈ m) → l = m := by
    intro l
    induction l with
    | nil =>
      intro m _ _ hh
      cases m with
      | nil => rfl
      | cons y r => exact absurd ((hh y).mpr List.mem_cons_self) (by simp)
    | cons x l ih =>
      intro m h1 h2 hh
      cases m with
      | nil => exact absurd ((hh x).mp List.mem_cons_self) (by simp)
      | cons y m =>
        have a1 := List.pairwise_cons.mp h1
        have a2 := List.pairwise_cons.mp h2
        have exy : x = y := by
          rcases List.mem_cons.mp ((hh x).mp List.mem_cons_self) with e | e
          · exact e
          · rcases List.mem_cons.mp ((hh y).mpr List.mem_cons_self) with e' | e'
            · exact e'.symm
            · have := a1.1 y e'
              have := a2.1 x e
              omega
        subst exy
        congr 1
        refine ih m a1.2 a2.2 fun z => ?_
        constructor
        · intro hz
          rcases List.mem_cons.mp ((hh z).mp (List.mem_cons_of_mem _ hz)) with e | e
          · have := a1.1 z hz
            rw [e] at this
            omega
          · exact e
        · intro hz
          rcases List.mem_cons.mp ((hh z).mpr (List.mem_cons_of_mem _ hz)) with e | e
          · have := a2.1 z hz
            rw [e] at this
            omega
          · exact e
  refine key _ _ (List.pairwise_map.mpr h.1) (List.pairwise_map.mpr h'.1) fun x => ?_
  rw [h.2.1 x, h'.2.1 x]
/-- the words of deeds, by entries alone -/
abbrev wdE (es : List En) (d k : Int) (ys : List En) : List (Key × V) := ys.map fun e => (Sum.inl e.num, V.str (st es d k e))
section
variable {P : Program} {w : World} {K : PySem.W.Frag} {mg : Str → Option Value} {base : Heap} {T : List (Addr × Str)} {fCD fOA fFo fDE fWo fCk fAl : Addr} {dCD dOA dFo dDE dWo dCk dAl : FuncData}
abbrev sAllSt : Stmt := topS 28
abbrev nAllSt : List Str := ["book", "d", "k", "forced", "words", "entry"]
abbrev pAllSt : List Str := ["book", "d", "k"]
theorem scAllSt : FnScope nAllSt pAllSt (defScope sAllSt) := ⟨rfl, rfl, rfl, by decide +kernel, rfl, by decide +kernel, by decide +kernel⟩
def spAllSt (T : List (Addr × Str)) : Sp := fun vs H Q _ => ∃ (b fk t : Addr) (n : Nat) (age : Int) (zs : List (Addr × En)) (d k : Int), vs = [.ref b, .int d, .int k] ∧ BookAt H b fk t n age zs ∧ Tabs T H ∧ (0 ≤ d ∧ d ≤ 9999) ∧ (0 ≤ k ∧ k ≤ 9999) ∧
  ∀ (p : Addr) (ys : List (Addr × En)) (H' : Hp), ExtN H H' → Tabs T H' → Fresh H p → H' p = some (.dK (wdE (ens zs) d k (ens ys))) → DeedsUp zs ys → Q (.ref p) H'
theorem ok_allSt {f : Addr} {fd : FuncData} {k : Nat} {dv : List V} (F : FunD K "all_standing" "all_standing" (defArgs sAllSt) (defBody sAllSt) (defScope sAllSt) dv [] f fd) (mN : MgInt mg "NUMBER" 0)
    (DCD : Df K mg "check_day" sCheckDay ["thing"] fCD dCD) (GCD : FnOk P w K mg base CX0 k fCD dCD ["thing"] spCkDay)
    (DOA : Df K mg "open_acts" sOpenA ["book", "d", "k"] fOA dOA) (GOA : FnOk P w K mg base CX0 k fOA dOA ["book", "d", "k"] (spOpenA T)) (DFo : Df K mg "acts_in_force" sForced ["acts"] fFo dFo) (GFo : FnOk P w K mg base CX0 k fFo dFo ["acts"] spForced)
    (DDE : Df K mg "deed_entries" sDeedE ["book"] fDE dDE) (GDE : FnOk P w K mg base CX0 k fDE dDE ["book"] (spPick (·.isDeed) T)) (DWo : Df K mg "word_of_deed" sWordOf pWordOf fWo dWo) (GWo : FnOk P w K mg base CX0 k fWo dWo pWordOf spWordOf) : FnOk P w K mg base CX0 (k + 1) f fd pAllSt (spAllSt T) := by
  refine F.ok scAllSt (fun vs H Q E h => ?_) (fun cdv A outer s H vs Q E hr h => ?_)
  · obtain ⟨b, fk, t, n, age, zs, d, k, rfl, _⟩ := h
    rfl
  · obtain ⟨b, fk, t, n, age, zs, d, kk, rfl, hB, hT, hd0, hk0, q⟩ := h
    have hu := hu_of hr
    refine ⟨_, PSs.nox (pss_cons (ps_expr (pe_call GCD hr (by rfl) DCD.g DCD.F.kp DCD.b .nil pass0 (pa_cons (pv 1) pa_nil)))
      (pss_cons (ps_expr (pe_call GCD hr (by rfl) DCD.g DCD.F.kp DCD.b .nil pass0 (pa_cons (pv 2) pa_nil)))
      (pss_cons (ps_set (i := 3) scAllSt.nd rfl (.inl rfl) (pe_call GFo hr (by rfl) DFo.g DFo.F.kp DFo.b .nil pass0 (pa_cons (pe_call GOA hr (by rfl) DOA.g DOA.F.kp DOA.b .nil pass0 (pa_cons (pv 0) (pa_cons (pv 1) (pa_cons (pv 2) pa_nil)))) pa_nil)))
      (pss_cons (ps_set (i := 4) scAllSt.nd rfl (.inl rfl) pe_dnewK)
      (pss_cons (ps_for PassesOwn.never rfl (pi_list (pe_call GDE hr (by rfl) DDE.g DDE.F.kp DDE.b .nil pass0 (pa_cons (pv 0) pa_nil))) (pg_name (i := 5) scAllSt.nd rfl (.inl rfl))
        (pss_one (ps_dput hu (pv 4) (pe_ix ix_tup (pv 5) (pe_num (by rfl) mN) (fun _ _ => rfl)) (pe_call GWo hr (by rfl) DWo.g DWo.F.kp DWo.b .nil pass0 (pa_cons (pv 5) (pa_cons (pv 3) (pa_cons (pv 4) (pa_cons (pv 1) (pa_cons (pv 2) pa_nil)))))) rfl)))
      (pss_one (ps_ret (pv 4)))))))), ?_⟩
    refine ⟨_, rfl, d, rfl, hd0.1, hd0.2, ?_⟩
    refine ⟨_, rfl, kk, rfl, hk0.1, hk0.2, ?_⟩
    refine ⟨_, rfl, _, rfl, _, rfl, b, fk, t, n, age, zs, d, kk, rfl, hB, hT, fun p ys H2 e2 T2 fr2 ep2 hy2 hO => ?_⟩
    refine ⟨p, n, ens zs, d, kk, ys, rfl, ep2, hy2, hB.ok, hO, fun r H3 s3 nr er => ?_⟩
    have hF : ForcedAt (ens zs) d kk (ys.reverse.filter fun z => frc (ens zs) d kk z.2) := by
      refine ⟨fun z hz => ?_, fun u hu hd ho => ?_, ?_⟩
      · have h1 := (List.mem_filter.mp hz)
        have h2 := hO.mem z (List.mem_reverse.mp h1.1)
        exact ⟨h2.1, h2.2.1, h1.2⟩
      · obtain ⟨z, hz, rfl⟩ := hO.all u hu hd (frc_open hB.ok hu ho)
        exact ⟨z, List.mem_filter.mpr ⟨List.mem_reverse.mpr hz, ho⟩, rfl⟩
      · have h1 := List.length_filter_le (fun z : Addr × En => frc (ens zs) d kk z.2) ys.reverse
        have h2 := hO.len
        rw [List.length_reverse] at h1
        omega
    have hfE : ∀ z ∈ ys.reverse.filter (fun z => frc (ens zs) d kk z.2), EntAt H3 z.1 z.2 := fun z hz => (hy2 z (List.mem_reverse.mp (List.mem_filter.mp hz).1)).kp (Same.tup s3)
    generalize (ys.reverse.filter fun z => frc (ens zs) d kk z.2) = fs at er hF hfE
    have e3 : ExtN H H3 := e2.trans (.of s3)
    have T3 : Tabs T H3 := T2.ext s3
    refine fun wd nwd => ?_
    have e4 : ExtN H3 (upd H3 wd (.dK [])) := ExtN.new nwd _
    have T4 : Tabs T (upd H3 wd (.dK [])) := Tabs.new T3 nwd _
    have ew : (upd H3 wd (.dK [])) wd = some (.dK []) := upd_same
    have frw : Fresh H wd := Fresh.of e3 nwd
    generalize (upd H3 wd (.dK [])) = H4 at e4 T4 ew
    have e04 := e3.trans e4
    have hB4 := hB.kp (ExtN.tup e04)
    have nl : ∀ xs : List V, ∀ ps, HO.lst xs ≠ .tbl ps := fun xs ps z => by cases z
    have nk : ∀ kv : List (Key × V), ∀ ps, HO.dK kv ≠ .tbl ps := fun xs ps z => by cases z
    refine ⟨_, rfl, b, fk, t, n, age, zs, rfl, hB4, T4, fun p5 zs' H5 e5 T5 fr5 ep5 pm so => ?_⟩
    have hsub : ∀ z ∈ zs'.filter (fun z => z.2.isDeed), z ∈ zs ∧ z.2.isDeed = true := fun z hz => ⟨pm.mem_iff.mp (List.mem_filter.mp hz).1, (List.mem_filter.mp hz).2⟩
    have hDU : DeedsUp zs (zs'.filter fun z => z.2.isDeed) := by
      refine ⟨so.filter _, fun x => ?_, ?_⟩
      · constructor
        · intro hx
          obtain ⟨z, hz, rfl⟩ := List.mem_map.mp hx
          exact ⟨List.mem_map.mpr ⟨z, (hsub z hz).1, rfl⟩, (hsub z hz).2⟩
        · rintro ⟨hx, hd⟩
          obtain ⟨z, hz, rfl⟩ := List.mem_map.mp hx
          exact List.mem_map.mpr ⟨z, List.mem_filter.mpr ⟨pm.mem_iff.mpr hz, hd⟩, rfl⟩
      · have h1 := List.length_filter_le (fun z : Addr × En => z.2.isDeed) zs'
        have h2 := pm.length_eq
        have h3 := hB.len
        omega
    generalize (zs'.filter fun z => z.2.isDeed) = ds at ep5 hsub hDU
    have nwp : wd ≠ p5 := fr5.ne ew (nk _)
    have nwr : wd ≠ r := fun z => by
      rw [z, er] at nwd
      cases nwd
    refine ⟨p5, rfl, ⟨_, SqL.of ep5⟩, ?_⟩
    refine for_list (K := K) (a := p5) (xs := refs ds) (fun i σ H' => ∃ y5, σ = [some (.ref b), some (.int d), some (.int kk), some (.ref r), some (.ref wd), y5] ∧ (∀ b o, b ≠ wd → H5 b = some o → H' b = some o) ∧ H' wd = some (.dK (wdE (ens zs) d kk (ens (ds.take i)))) ∧ Tabs T H') ⟨none, rfl, fun _ _ _ h => h, e5 _ _ ew (nk _), T5⟩ (fun i σ H' _ h => ?_) ?_ ?_
    · obtain ⟨_, _, kp, _⟩ := h
      exact SqL.of (kp _ _ nwp.symm ep5)
    · rintro i x σ H' hx ⟨y5, rfl, kp, ewd, T'⟩
      obtain ⟨z, hz, rfl⟩ := ref_at hx
      have hzm := List.mem_of_getElem? hz
      have hi : i < ds.length := (List.getElem?_eq_some_iff.mp hz).1
      have hdl := hDU.2.2
      obtain ⟨hz1, hz2⟩ := hsub z hzm
      have hez : z.2 ∈ ens zs := List.mem_map.mpr ⟨z, hz1, rfl⟩
      have kT : KpT H H' := fun b0 xs0 h0 => kp _ _ (frw.ne h0 fun ps z => by cases z).symm.symm (ExtN.tup (e04.trans e5) _ _ h0)
      have er' : H' r = some (.lst (refs fs)) := kp _ _ nwr.symm (e5 _ _ (e4 _ _ er (nl _)) (nl _))
      have kT3 : KpT H3 H' := fun b0 xs0 h0 => kp _ _ (ne_of_none h0 nwd) (ExtN.tup (e4.trans e5) _ _ h0)
      have hEz := (hB.ent z hz1).kp kT
      obtain ⟨xs, ex, g0, _⟩ := hEz.tup
      have hnd : ((ens ds).map (·.num)).Nodup := hDU.nodup
      have hnt : ((ds.take i).map (fun z => z.2.num)).Nodup := by
        have e1 : (ens ds).map (·.num) = ds.map (fun z => z.2.num) := by simp [ens, List.map_map, Function.comp_def]
        rw [e1] at hnd
        exact ((List.take_sublist i ds).map _).nodup hnd
      refine ⟨_, rfl, _, rfl, _, rfl, _, rfl, _, rfl, z.1, r, wd, z.2, n, ens zs, d, kk, fs, _, rfl, hEz, hez, hz2, hB.ok, er', fun u hu => (hfE u hu).kp kT3, hF, ewd, fun m hm => ?_, fun H6 s6 => ?_⟩
      · obtain ⟨h1, h2⟩ := (hB.ok.ok z.2 hez).rest m hm
        obtain ⟨u, hu1, hu2, hu3⟩ := dn_at h1
        refine ⟨u, hu1, hu2, hu3, ?_⟩
        obtain ⟨v, hv, rfl⟩ := List.mem_map.mp ((hDU.2.1 u).mpr ⟨hu1, hu2⟩)
        have hvt : v ∈ ds.take i := by
          obtain ⟨j, hj, ej⟩ := List.mem_iff_getElem.mp hv
          have hji : j < i := by
            rcases Nat.lt_or_ge j i with q1 | q1
            · exact q1
            · have ei : ds[i] = z := by
                rw [List.getElem?_eq_getElem hi] at hz
                exact Option.some.inj hz
              rcases Nat.eq_or_lt_of_le q1 with q2 | q2
              · subst q2
                rw [ei] at ej
                rw [← ej] at hu3
                omega
              · have := List.pairwise_iff_getElem.mp hDU.1 i j hi hj q2
                rw [ei, ej] at this
                omega
          exact List.mem_take_iff_getElem.mpr ⟨j, by omega, ej⟩
        have hv1 := valV_map (f := fun z : Addr × En => z.2.num) (g := fun z : Addr × En => V.str (st (ens zs) d kk z.2)) hnt hvt
        rw [← hu3, show wdE (ens zs) d kk (ens (ds.take i)) = (ds.take i).map (fun z : Addr × En => ((Sum.inl z.2.num : Key), V.str (st (ens zs) d kk z.2))) by simp [wdE, ens, List.map_map, Function.comp_def]]
        exact hv1
      · obtain ⟨xs6, ex6, g06, _⟩ := (hEz.kp (Same.tup s6)).tup
        have ewd6 := s6 _ _ ewd
        have hnew : (Sum.inl z.2.num : Key) ∉ (wdE (ens zs) d kk (ens (ds.take i))).map (·.1) := fun hm => by
          obtain ⟨kv, hkv, ekv⟩ := List.mem_map.mp hm
          obtain ⟨e', he', rfl⟩ := List.mem_map.mp hkv
          injection ekv with ekv
          obtain ⟨v, hv, rfl⟩ := List.mem_map.mp he'
          obtain ⟨j, hj, ej⟩ := List.mem_take_iff_getElem.mp hv
          have ei : ds[i] = z := by
            rw [List.getElem?_eq_getElem hi] at hz
            exact Option.some.inj hz
          have := List.pairwise_iff_getElem.mp hDU.1 j i (by omega) hi (by omega)
          rw [ei, ej] at this
          omega
        refine ⟨_, rfl, _, rfl, z.1, xs6, 0, _, rfl, rfl, SqT.of ex6, g06, wd, _, rfl, DPut.k (k := Sum.inl z.2.num) ewd6 (small1000 ?_), ?_⟩
        · rw [List.length_map, List.length_map, List.length_take]
          omega
        refine ⟨_, rfl, fun b0 o0 nb0 h0 => ?_, ?_, ?_⟩
        · rw [upd_ne nb0]
          exact s6 _ _ (kp _ _ nb0 h0)
        · rw [upd_same, putK_new hnew, take_more hz]
          simp [wdE, ens]
        · intro q0 hq0
          obtain ⟨ps, h1, h2, h3⟩ := (T'.ext s6) q0 hq0
          have n1 : q0.1 ≠ wd := fun z0 => by
            rw [z0, ewd6] at h1
            cases h1
          refine ⟨ps, by rw [upd_ne n1]; exact h1, h2, fun pos cv hcv => ?_⟩
          obtain ⟨c0, e1, e2'⟩ := h3 pos cv hcv
          refine ⟨c0, e1, ?_⟩
          have n2 : c0 ≠ wd := fun z0 => by
            rw [z0, ewd6] at e2'
            unfold CodeO at e2'
            cases e2'
          rw [upd_ne n2]
          exact e2'
    · rintro σ H' ⟨y5, rfl, kp, ewd, T'⟩
      have el : ds.take (refs ds).length = ds := List.take_of_length_le (by rw [List.length_map]; exact Nat.le_refl _)
      rw [el] at ewd
      refine ⟨_, rfl, q wd ds H' (fun b0 o0 h0 ht => ?_) T' frw ewd hDU⟩
      exact kp _ _ (frw.ne h0 ht) ((e04.trans e5) _ _ h0 ht)
end
end Deed

namespace Deed
open PySem PySem.Spec PyProof.Rows L2 LamX
/-! ### list(d.values()) -/
def tListVals (te : TE) : TE := fun σ H Q => te σ H fun x H1 => ∃ (d : Addr) (kvs : List (Key × V)), x = .ref d ∧ H1 d = some (.dK kvs) ∧ ∀ p, H1 p = none → Q (.ref p) (upd H1 p (.lst (kvs.map (·.2))))
theorem vals_snd {kvs : List (Key × V)} {vs : List (Key × Value)} (kv : KV kvs vs) : Vals (kvs.map (·.2)) (vs.map (·.2)) := by
  have kv' : Paired (fun (p : Key × V) (q : Key × Value) => p.1 = q.1 ∧ RelV p.2 q.2) kvs vs := kv
  induction kv' with
  | nil => exact .nil
  | cons h _ ih => exact .cons h.2 (ih (by assumption))
section
variable {X : Cx} {e : Expr} {te : TE} {p apos cpos pos : Pos}
theorem pe_listVals (hc : X.calm = true) (he : PE X e te) (hg : Gl X "list") (hm : X.mg "list" = none) (hbase : attributeBase e "values" X.env (eval e X.env) = eval e X.env := by rfl) (hline : (apos.endLine == cpos.line) = true := by rfl)
    (hs : starEach [.Call (.Attribute e "values" apos) [] [] cpos] X.env = (false, eval (.Call (.Attribute e "values" apos) [] [] cpos) X.env) :: starEach [] X.env := by rfl) :
    PE X (.Call (.Name "list" p) [.Call (.Attribute e "values" apos) [] [] cpos] [] pos) (tListVals te) := by
  refine ⟨fun pins s σ H Q I hq => ?_⟩
  refine wpAny_Call_Name_kw (ld_blt I hg hm (show bootBuiltins "list" = some (.type "list") by decide +kernel) ?_)
  refine PyProof.Rows.callWith_type1 (?_) hs rfl
  rw [hs]
  show wpAny _ _ (spliced ((false, eval (.Call (.Attribute e "values" apos) [] [] cpos) X.env) :: backTo pos (starEach [] X.env))) _ _ s
  refine Calls.spliced_cons (?_)
  refine wpAny_Call_method (T := "dict") (id := "dict.values") hbase rfl hline F.plainAttrs_dict F.slot_dict_values F.type_dict_values (thn (he.run pins s σ H _ I hq) fun u s1 ⟨x, H1, I1, rx, d, kvs, ex, hd, q⟩ => ?_)
  subst ex
  obtain rfl : u = Value.ref d := rx
  obtain ⟨hz, hs0, vs, kv, hdo⟩ := I1.hok d _ hd
  obtain ⟨ep, hat⟩ := hdo.dictAt
  have lk : kvs.length = vs.length := Paired.length kv
  have I2 : Inv X pins σ H1 { s1 with heap := s1.heap.push { cls := .type "dict_values", data := .fields #[.ref d] } } := I1.kept (t' := s1.toks) fun b ob q => Heap.get?_push_of_some _ q
  refine ⟨hdo.typeIs, hdo.mapOf.noDict, ?_⟩
  show wpAny _ _ (callWith cpos (.builtin "dict.values") [.ref d] [] []) _ X.xe s1
  refine method_meetsIn F.slot_dict_values F.entry_dict_values rfl (PySem.evalArgs_none ⟨rfl, hdo.typeIs, F.args_dict_values_1 _, _, meets_dict_values (mixKind X.prog X.w) d hs0, ⟨vs, hdo⟩, ?_⟩)
  refine Calls.spliced_nil (?_)
  refine PySem.W.kdl_call (PySem.W.kdl_values (knd := mixKind X.prog X.w) (kvs := vs) (ep := ep)) (I1.ok.hd hc) ⟨⟨_, Heap.get?_push_size _ rfl, rfl, rfl⟩, hat.push _⟩ (by omega) fun h' tk acc c hk hS hit => ?_
  have ea : acc.toList = vs.map (·.2) := by
    apply List.ext_getElem?
    intro i
    rw [List.getElem?_map]
    by_cases hi : i < vs.length
    · have h1 : i < acc.size := by rw [hit.1]; exact hi
      obtain ⟨k, hk'⟩ := hit.2 i acc[i] (Array.getElem?_eq_getElem h1)
      rw [hk', Array.getElem?_toList, Array.getElem?_eq_getElem h1]
      rfl
    · have h1 : acc.size ≤ i := by rw [hit.1]; omega
      have h2 : vs[i]? = none := List.getElem?_eq_none (by omega)
      rw [h2, Array.getElem?_toList, Array.getElem?_eq_none h1]
      rfl
  have hv := vals_snd kv
  rw [← ea] at hv
  exact ⟨.ref _, _, I2.laid (t' := tk) hk (Nat.le_refl _) (show ObjOk X.prog X.w _ h' _ (.lst (kvs.map (·.2))) from ⟨by rw [List.length_map]; exact hz, acc.toList, c, hv, by rw [Array.toArray_toList]; exact hS⟩), rfl, q _ (I2.hok.fresh (Nat.le_refl _))⟩
end
end Deed

namespace Deed
open PySem PySem.Spec PyProof.Rows L2 LamX
/-- a lesser number stands ahead -/
theorem mem_before {ys : List (Addr × En)} {i : Nat} {z v : Addr × En} (up : ys.Pairwise (fun a b => a.2.num < b.2.num)) (hz : ys[i]? = some z) (hv : v ∈ ys) (h : v.2.num < z.2.num) : v ∈ ys.take i := by
  obtain ⟨j, hj, ej⟩ := List.mem_iff_getElem.mp hv
  obtain ⟨hi, ei⟩ := List.getElem?_eq_some_iff.mp hz
  have hji : j < i := by
    rcases Nat.lt_or_ge j i with q1 | q1
    · exact q1
    · rcases Nat.eq_or_lt_of_le q1 with q2 | q2
      · subst q2
        rw [ei] at ej
        rw [ej] at h
        omega
      · have := List.pairwise_iff_getElem.mp up i j hi hj q2
        rw [ei, ej] at this
        omega
  exact List.mem_take_iff_getElem.mpr ⟨j, by omega, ej⟩
theorem not_before {ys : List (Addr × En)} {i : Nat} {z v : Addr × En} (up : ys.Pairwise (fun a b => a.2.num < b.2.num)) (hz : ys[i]? = some z) (hv : v ∈ ys.take i) : v.2.num < z.2.num := by
  obtain ⟨hi, ei⟩ := List.getElem?_eq_some_iff.mp hz
  obtain ⟨j, hj, ej⟩ := List.mem_take_iff_getElem.mp hv
  have := List.pairwise_iff_getElem.mp up j i (by omega) hi (by omega)
  rw [ei, ej] at this
  exact this
section
variable {P : Program} {w : World} {K : PySem.W.Frag} {mg : Str → Option Value} {base : Heap} {T : List (Addr × Str)} {fOf fFc fAn : Addr} {dOf dFc dAn : FuncData}
abbrev sAny : Stmt := topS 58
abbrev nAny : List Str := ["_law_entries_here", "_law_number", "_law_words_here", "_law_d", "_law_k", "_law_one"]
abbrev pAny : List Str := ["_law_entries_here", "_law_number", "_law_words_here", "_law_d", "_law_k"]
theorem scAny : FnScope nAny pAny (defScope sAny) := ⟨rfl, rfl, rfl, by decide +kernel, rfl, by decide +kernel, by decide +kernel⟩
def spAny : Sp := fun vs H Q _ => ∃ (ed wa : Addr) (m d k : Int) (x : Str) (n : Nat) (zs : List (Addr × En)), vs = [.ref ed, .int m, .ref wa, .int d, .int k] ∧ EdAt H ed n zs ∧ H wa = some (.tup [.str x]) ∧ x ≠ "deed" ∧ ∀ H', Same H H' → Q (.bl (anyF (ens zs) d k x m)) H'
theorem ok_any {f : Addr} {fd : FuncData} {k : Nat} (F : Fun K "_law_any" "_law_any" sAny f fd) (DF : OfD K mg fOf dOf) (ms : mg "sorted" = none) (DC : ForceD K mg fFc dFc) (GC : FnOk P w K mg base CX0 (k + 1) fFc dFc pForce (spForce 31)) : FnOk P w K mg base CX0 (k + 2) f fd pAny spAny := by
  have GF : FnOk P w K mg base CX0 (k + 1) fOf dOf pOf spOf := ok_of DF.F ms
  refine F.ok scAny (fun vs H Q E h => ?_) (fun cdv A outer s H vs Q E hr h => ?_)
  · obtain ⟨ed, wa, m, d, k, x, n, zs, rfl, _⟩ := h
    rfl
  · obtain ⟨ed, wa, m, d, k', x, n, zs, rfl, hE, hW, hx, q⟩ := h
    refine ⟨_, pss_one (ps_ret (pe_cmpR (op_neD hr.units) (pe_lc (own := [("_law_one", 5)]) (g := gName 5) (by rfl) scAny.nd (pi_list (pe_call GF hr (by rfl) DF.g DF.F.kp DF.b .nil pass0 (pa_cons (pv 0) (pa_cons (pv 1) (pa_cons (pv 2) pa_nil))))) (blkOk_by (own := [("_law_one", 5)]) (N := nAny) (sc := defScope sAny) (by decide +kernel)) (fun _ _ _ _ _ => pg_name (i := 5) scAny.nd rfl (Or.inl rfl))
        (fun _ _ _ _ _ => pts_one (pt_val (pe_call GC hr (by rfl) DC.g DC.F.kp DC.b .nil pass0 (pa_cons (pv 0) (pa_cons (pv 5) (pa_cons (pv 3) (pa_cons (pv 4) pa_nil))))))) (fun _ _ _ _ _ => pv 5)) (pe_lst pa_nil) (nomark _))), ?_⟩
    refine ⟨_, rfl, _, rfl, _, rfl, ed, wa, m, [x], n, zs, rfl, hE, hW, fun hh => hx (List.mem_singleton.mp hh).symm, fun p ns H2 s2 np ep pm up => ?_⟩
    refine ⟨p, rfl, ⟨_, SqL.of ep⟩, fun D2 nD => ?_⟩
    have on_iff : ∀ u, onAny [x] m u = isOn x m u := fun u => by
      unfold onAny isOn
      simp
    refine lc_list (K := K) (a := p) (xs := ns.map V.int) (fun i H' => ∃ rs : List Int, H' D2 = some (.lst (rs.map V.int)) ∧ Same H2 H' ∧ rs.length ≤ i ∧ (rs = [] ↔ ∀ y ∈ ns.take i, ∀ u ∈ ens zs, u.num = y → frc (ens zs) d k' u = false)) ⟨[], upd_same, fun b o e => by rw [upd_ne (ne_of_none e nD)]; exact e, Nat.le_refl _, by simp⟩ (fun i H' _ h => ?_) ?_ ?_
    · obtain ⟨rs, _, sm, _⟩ := h
      exact SqL.of (sm _ _ ep)
    · rintro i y H' hx' ⟨rs, eD, sm, hrl, hiff⟩
      rw [List.getElem?_map] at hx'
      cases hn : ns[i]? with
      | none => rw [hn] at hx'; cases hx'
      | some mm =>
        rw [hn] at hx'
        injection hx' with hx'
        subst hx'
        obtain ⟨u, hu1, rfl⟩ := List.mem_map.mp (pm.mem_iff.mp (List.mem_of_getElem? hn))
        obtain ⟨hu2, hu3⟩ := List.mem_filter.mp hu1
        have ru := hE.ok.rng u hu2
        have et := take_more hn
        have hlen : ns.length ≤ 16 := by
          rw [pm.length_eq, List.length_map]
          have a1 := List.length_filter_le (onAny [x] m) (ens zs)
          rw [List.length_map] at a1
          have a2 := hE.len
          omega
        have hi : i < ns.length := (List.getElem?_eq_some_iff.mp hn).1
        refine ⟨rfl, _, rfl, _, rfl, _, rfl, _, rfl, ed, u, d, k', n, zs, rfl, (hE.same s2).same sm, hu2, by omega, fun H3 s3 => ⟨_, rfl, ?_⟩⟩
        cases hfr : frc (ens zs) d k' u with
        | true =>
          refine iteT ?_
          refine ⟨_, rfl, _, s3 _ _ eD, small1000 (by rw [List.length_map]; omega), rs ++ [u.num], ?_, fun b o e => ?_, ?_, ?_⟩
          · rw [upd_same, List.map_append]
            rfl
          · rw [upd_ne (ne_of_none e nD)]
            exact s3 _ _ (sm _ _ e)
          · rw [List.length_append]
            show rs.length + 1 ≤ i + 1
            omega
          · constructor
            · intro h
              exact absurd h (by simp)
            · intro h
              have := h u.num (by rw [et]; exact List.mem_append_right _ List.mem_cons_self) u hu2 rfl
              rw [hfr] at this
              cases this
        | false =>
          refine iteF ?_
          refine ⟨rs, s3 _ _ eD, sm.trans s3, by omega, ?_⟩
          rw [hiff, et]
          constructor
          · intro h y hy u' hu' he'
            rcases List.mem_append.mp hy with hy | hy
            · exact h y hy u' hu' he'
            · rw [List.mem_singleton.mp hy] at he'
              rw [num_inj hE.ok hu' hu2 he']
              exact hfr
          · intro h y hy u' hu' he'
            exact h y (List.mem_append_left _ hy) u' hu' he'
    · rintro H' ⟨rs, eD, sm, hrl, hiff⟩
      have el : ns.take (ns.map V.int).length = ns := List.take_of_length_le (by rw [List.length_map]; exact Nat.le_refl _)
      rw [el] at hiff
      refine ⟨Nat.zero_le _, fun g ng => ?_⟩
      have s3 : Same H' (upd H' g (.lst [])) := fun b o e => by rw [upd_ne (ne_of_none e ng)]; exact e
      have eg : (upd H' g (.lst [])) g = some (.lst []) := upd_same
      refine ⟨.list (rs.map .int), .list (([] : List Int).map .int), .lst (SqL.of (s3 _ _ eD)) (dp_ints rs), .lst (SqL.of eg) (dp_ints []), shaped_ints rs, shaped_ints [], ?_⟩
      rw [eqv_ints]
      have fin : (!decide (rs = [])) = anyF (ens zs) d k' x m := by
        unfold anyF
        rw [Bool.eq_iff_iff, List.any_eq_true]
        have nn : (!decide (rs = [])) = true ↔ ¬ rs = [] := by simp
        rw [nn, hiff]
        constructor
        · intro h
          rcases Classical.em (∃ u ∈ ens zs, (isOn x m u && frc (ens zs) d k' u) = true) with h1 | h1
          · exact h1
          · refine absurd (fun y hy u hu he' => ?_) h
            obtain ⟨u', hu1, hu2⟩ := List.mem_map.mp (pm.mem_iff.mp hy)
            obtain ⟨hu3, hu4⟩ := List.mem_filter.mp hu1
            have ee : u = u' := num_inj hE.ok hu hu3 (he'.trans hu2.symm)
            subst ee
            rw [on_iff] at hu4
            cases hf : frc (ens zs) d k' u with
            | false => rfl
            | true => exact absurd ⟨u, hu, by rw [hu4, hf]; rfl⟩ h1
        · rintro ⟨u, hu, hh⟩ hall
          rw [Bool.and_eq_true] at hh
          have hm : u.num ∈ ns := pm.mem_iff.mpr (List.mem_map.mpr ⟨u, List.mem_filter.mpr ⟨hu, by rw [on_iff]; exact hh.1⟩, rfl⟩)
          have := hall u.num hm u hu rfl
          rw [this] at hh
          exact absurd hh.2 (by simp)
      rw [fin]
      exact q _ (s2.trans (sm.trans s3))
/-! ### what all deeds are, by itself -/
abbrev sWords : Stmt := topS 59
abbrev nWords : List Str := ["_law_entries_here", "_law_d", "_law_k", "_law_found", "_law_number", "_law_entry_here", "_law_lost", "_law_rest"]
abbrev pWords : List Str := ["_law_entries_here", "_law_d", "_law_k"]
theorem scWords : FnScope nWords pWords (defScope sWords) := ⟨rfl, rfl, rfl, by decide +kernel, rfl, by decide +kernel, by decide +kernel⟩
def spWords : Sp := fun vs H Q _ => ∃ (ed : Addr) (d k : Int) (n : Nat) (zs : List (Addr × En)), vs = [.ref ed, .int d, .int k] ∧ EdAt H ed n zs ∧
  ∀ (p : Addr) (ys : List (Addr × En)) (H' : Hp), Same H H' → H p = none → H' p = some (.dK (wdE (ens zs) d k (ens ys))) → DeedsUp zs ys → Q (.ref p) H'
def t_lost (K : PySem.W.Frag) : TT := tTest (tOp (rIn K true) (tDGet (tVar 3) (tVar 7)) (tTup (tCons (tC (.str "stands")) (tCons (tC (.str "paid")) tNil))))
theorem ok_words {f : Addr} {fd : FuncData} {k : Nat} (F : Fun K "_law_words" "_law_words" sWords f fd) (DA : Df K mg "_law_any" sAny pAny fAn dAn) (GA : FnOk P w K mg base CX0 (k + 1) fAn dAn pAny spAny) (ms : mg "sorted" = none) (mi : mg "int" = none) : FnOk P w K mg base CX0 (k + 2) f fd pWords spWords := by
  refine F.ok scWords (fun vs H Q E h => ?_) (fun cdv A outer s H vs Q E hr h => ?_)
  · obtain ⟨ed, d, k, n, zs, rfl, _⟩ := h
    rfl
  · obtain ⟨ed, d, kk, n, zs, rfl, hE, q⟩ := h
    have hu := hu_of hr
    have nd := scWords.nd
    refine ⟨_, pss_cons (ps_set (i := 3) nd rfl (.inr rfl) pe_dnewK)
      (pss_cons (ps_for PassesOwn.never rfl (pi_list (pe_callB (call_sortedDI rfl) (by rfl) ms (by decide +kernel) (pa_cons (pv 0) pa_nil))) (pg_name (i := 4) nd rfl (.inl rfl))
        (pss_cons (ps_set (i := 5) nd rfl (.inl rfl) (pe_dget hu (pv 0) (pv 4) (fun _ _ => rfl)))
        (pss_one (ps_if (pt_cmpR op_eq (pe_ix ix_tup (pv 5) pe_int (fun _ _ => rfl)) pe_str (nomark _))
          (pss_cons (ps_setLc (i := 6) (own := [("_law_rest", 7)]) (g := gName 7) (by rfl) nd rfl rfl (sw_true rfl rfl rfl (by decide +kernel)) (pi_tup (pe_ix ix_tup (pv 5) pe_int (fun _ _ => rfl))) (blkOk_by (own := [("_law_rest", 7)]) (N := nWords) (sc := defScope sWords) (by decide +kernel)) (fun _ _ _ _ _ => pg_name (i := 7) nd rfl (Or.inl rfl))
              (fun _ _ _ _ _ => show PTs _ _ (t_lost K) from pts_one (pt_cmpR op_notIn_seq (pe_dget hu (pv 3) (pv 7) (fun _ _ => rfl)) (pe_tup (pa_cons pe_str (pa_cons pe_str pa_nil))) (by rfl))) (fun _ _ _ _ _ => pv 7))
          (pss_one (ps_if (PW.pt (pw_or (pt_cmpR op_gt (pe_ix ix_tup (pv 5) pe_int (fun _ _ => rfl)) (pv 2) (nomark _)) (pw_or1 (pt_cmpR op_gt (pe_ix ix_tup (pv 5) pe_int (fun _ _ => rfl)) (pv 1) (nomark _)))))
            (pss_one (ps_dput hu (pv 3) (pv 4) (pe_ix ix_list (pe_lst (pa_cons pe_str (pa_cons pe_str pa_nil))) (pe_callTy call_int1 (by rfl) mi (by decide +kernel) (pa_cons (pe_cmpR op_gt (pe_ix ix_tup (pv 5) pe_int (fun _ _ => rfl)) (pv 2) (nomark _)) pa_nil)) (fun _ _ => rfl)) rfl))
            (pss_one (ps_if (pt_val (pe_call GA hr (by rfl) DA.g DA.F.kp DA.b .nil pass0 (pa_cons (pv 0) (pa_cons (pv 4) (pa_cons (pe_tup (pa_cons pe_str pa_nil)) (pa_cons (pv 1) (pa_cons (pv 2) pa_nil)))))))
              (pss_one (ps_dput hu (pv 3) (pv 4) pe_str rfl))
              (pss_one (ps_if (pt_cmpR (op_neD hr.units) (pv 6) (pe_lst pa_nil) (nomark _))
                (pss_one (ps_dput hu (pv 3) (pv 4) pe_str rfl))
                (pss_one (ps_dput hu (pv 3) (pv 4) (pe_ix ix_list (pe_lst (pa_cons pe_str (pa_cons pe_str pa_nil))) (pe_callTy call_int1 (by rfl) mi (by decide +kernel) (pa_cons (pe_call GA hr (by rfl) DA.g DA.F.kp DA.b .nil pass0 (pa_cons (pv 0) (pa_cons (pv 4) (pa_cons (pe_tup (pa_cons pe_str pa_nil)) (pa_cons (pv 1) (pa_cons (pv 2) pa_nil)))))) pa_nil)) (fun _ _ => rfl)) rfl)))))))))
          pss_nil))))
      (pss_one (ps_ret (pv 3)))), ?_⟩
    refine fun fo nfo => ?_
    have s1 : Same H (upd H fo (.dK [])) := fun b o e => by rw [upd_ne (ne_of_none e nfo)]; exact e
    have e1 : (upd H fo (.dK [])) fo = some (.dK []) := upd_same
    generalize (upd H fo (.dK [])) = H1 at s1 e1
    have hE1 := hE.same s1
    refine ⟨_, rfl, ed, dks zs, (ens zs).map (·.num), rfl, .inl hE1.at_, by simp [dks, ens], by rw [List.length_map, List.length_map]; have := hE.len; omega, fun ns sl pm up nsl => ?_⟩
    have s2 : Same H1 (upd H1 sl (.lst (ns.map V.int))) := fun b o e => by rw [upd_ne (ne_of_none e nsl)]; exact e
    have esl : (upd H1 sl (.lst (ns.map V.int))) sl = some (.lst (ns.map V.int)) := upd_same
    have e2 := s2 _ _ e1
    have nfs : fo ≠ sl := ne_of_none e1 nsl
    generalize (upd H1 sl (.lst (ns.map V.int))) = H2 at s2 esl e2
    have s12 := s1.trans s2
    obtain ⟨zs2, rfl, pz⟩ := perm_pairs (fun z : Addr × En => z.2.num) (ys := ns) (xs := (ens zs).map (·.num)) pm zs (by simp [ens])
    have nd2 : (zs2.map fun z => z.2.num).Nodup := by
      have e : (ens zs).map (·.num) = zs.map (fun z => z.2.num) := by simp [ens]
      have := hE.ok.nd
      rw [e] at this
      exact (pz.map _).nodup_iff.mpr this
    have up2 : zs2.Pairwise (fun a b => a.2.num < b.2.num) := List.pairwise_map.mp (rising_of nd2 up)
    have l2 : zs2.length ≤ 16 := by rw [pz.length_eq]; exact hE.len
    refine ⟨sl, rfl, ⟨_, SqL.of esl⟩, ?_⟩
    refine for_list (K := K) (a := sl) (xs := (zs2.map fun z => z.2.num).map V.int) (fun i σ H' => ∃ y4 y5 y6 y7, σ = [some (.ref ed), some (.int d), some (.int kk), some (.ref fo), y4, y5, y6, y7] ∧ Same H H' ∧ H' sl = some (.lst ((zs2.map fun z => z.2.num).map V.int)) ∧ H' fo = some (.dK (wdE (ens zs) d kk (ens ((zs2.take i).filter fun z => z.2.isDeed))))) ⟨none, none, none, none, rfl, s12, esl, e2⟩ (fun i σ H' _ h => ?_) ?_ ?_
    · obtain ⟨_, _, _, _, _, _, e, _⟩ := h
      exact SqL.of e
    · rintro i x σ H' hx ⟨y4, y5, y6, y7, rfl, sm, es', ef⟩
      rw [List.getElem?_map, List.getElem?_map] at hx
      cases hz : zs2[i]? with
      | none => rw [hz] at hx; cases hx
      | some z =>
        rw [hz] at hx
        injection hx with hx
        subst hx
        have hzm2 := List.mem_of_getElem? hz
        have hzm : z ∈ zs := pz.mem_iff.mp hzm2
        have hez : z.2 ∈ ens zs := List.mem_map.mpr ⟨z, hzm, rfl⟩
        have hi : i < zs2.length := (List.getElem?_eq_some_iff.mp hz).1
        have hE' := hE.same sm
        have et := take_more hz
        have wd := (hE.ok.ok z.2 hez).word
        obtain ⟨xs, ex, g0, g1, g2, _, g4⟩ := (hE'.ent z hzm).tup
        refine ⟨_, rfl, _, rfl, ed, _, rfl, hE'.get hzm, ?_⟩
        refine ⟨_, rfl, z.1, xs, 4, _, rfl, rfl, SqT.of ex, g4, rfl, _, rfl, ?_⟩
        refine ite2 (fun c => ?_) (fun c => ?_)
        · have hd : z.2.isDeed = true := wd.mp (by
            have := of_decide_eq_true c
            injection this)
          -- the put, whatever way leads there
          have hnew : (Sum.inl z.2.num : Key) ∉ (wdE (ens zs) d kk (ens ((zs2.take i).filter fun z => z.2.isDeed))).map (·.1) := fun hm => by
            obtain ⟨kv, hkv, ekv⟩ := List.mem_map.mp hm
            obtain ⟨e', he', rfl⟩ := List.mem_map.mp hkv
            injection ekv with ekv
            obtain ⟨v, hv, rfl⟩ := List.mem_map.mp he'
            have := not_before up2 hz (List.mem_filter.mp hv).1
            omega
          have hlk : (wdE (ens zs) d kk (ens ((zs2.take i).filter fun z => z.2.isDeed))).length < sizeLine := small1000 (by
            have h1 := List.length_filter_le (fun z : Addr × En => z.2.isDeed) (zs2.take i)
            rw [List.length_take] at h1
            rw [List.length_map, List.length_map]
            omega)
          have eput : putK (wdE (ens zs) d kk (ens ((zs2.take i).filter fun z => z.2.isDeed))) (.inl z.2.num) (.str (st (ens zs) d kk z.2)) = wdE (ens zs) d kk (ens ((zs2.take (i + 1)).filter fun z => z.2.isDeed)) := by
            rw [putK_new hnew, et, List.filter_append]
            simp [wdE, ens, hd]
          have done : ∀ (y6 y7 : Option V) (H9 : Hp), Same H' H9 → ∃ H10, DPut H9 fo (.int z.2.num) (.str (st (ens zs) d kk z.2)) H10 ∧ ∃ a4 a5 a6 a7, [some (.ref ed), some (.int d), some (.int kk), some (.ref fo), some (V.int z.2.num), some (V.ref z.1), y6, y7] = [some (.ref ed), some (.int d), some (.int kk), some (.ref fo), a4, a5, a6, a7] ∧ Same H H10 ∧ H10 sl = some (.lst ((zs2.map fun z => z.2.num).map V.int)) ∧ H10 fo = some (.dK (wdE (ens zs) d kk (ens ((zs2.take (i + 1)).filter fun z => z.2.isDeed)))) := fun y6 y7 H9 s9 => by
            refine ⟨_, DPut.k (k := Sum.inl z.2.num) (s9 _ _ ef) hlk, _, _, _, _, rfl, fun b o e => ?_, ?_, ?_⟩
            · rw [upd_ne (ne_of_none e nfo)]
              exact s9 _ _ (sm _ _ e)
            · rw [upd_ne nfs.symm]
              exact s9 _ _ es'
            · rw [upd_same, eput]
          have sq := st_eq hE.ok d kk hez
          unfold wordBy at sq
          -- lost
          obtain ⟨xs7, r, ex7, g7, er⟩ := (hE'.ent z hzm).seven hd
          have hrl : z.2.rests.length ≤ 2 := by
            have h4 := (hE.ok.ok z.2 hez).2.2.2
            unfold En.rests
            cases hk : z.2.kd with
            | deed g t rs ws =>
              rw [hk] at h4
              exact h4.2.2.2.1
            | act x o => exact Nat.zero_le _
          refine ⟨_, rfl, z.1, xs7, 7, _, rfl, rfl, SqT.of ex7, g7, r, rfl, ⟨_, SqT.of er⟩, fun D nD => ?_⟩
          refine lc_tup (K := K) (a := r) (xs := z.2.rests.map V.int) (fun i H3 => ∃ rs : List Int, H3 D = some (.lst (rs.map V.int)) ∧ Same H' H3 ∧ rs.length ≤ i ∧ ((!decide (rs = [])) = (z.2.rests.take i).any fun r => (ens zs).any fun u => isD r u && !carries (st (ens zs) d kk u))) ⟨[], upd_same, fun b o e => by rw [upd_ne (ne_of_none e nD)]; exact e, Nat.le_refl _, rfl⟩ (fun i H3 _ h => ?_) ?_ ?_
          · obtain ⟨_, _, s3, _⟩ := h
            exact SqT.of (s3 _ _ er)
          · rintro j y H3 hy ⟨rs, eD, s3, hrsl, hiff⟩
            rw [List.getElem?_map] at hy
            cases hn : z.2.rests[j]? with
            | none => rw [hn] at hy; cases hy
            | some m =>
              rw [hn] at hy
              injection hy with hy
              subst hy
              have hj : j < z.2.rests.length := (List.getElem?_eq_some_iff.mp hn).1
              obtain ⟨h1, h2⟩ := (hE.ok.ok z.2 hez).rest m (List.mem_of_getElem? hn)
              obtain ⟨u, hu1, hu2, hu3⟩ := dn_at h1
              obtain ⟨v, hv, rfl⟩ := List.mem_map.mp hu1
              have hvb : v ∈ zs2.take i := mem_before up2 hz (pz.mem_iff.mpr hv) (by omega)
              have hvf : v.2 ∈ ens ((zs2.take i).filter fun z => z.2.isDeed) := List.mem_map.mpr ⟨v, List.mem_filter.mpr ⟨hvb, hu2⟩, rfl⟩
              have ndf : ((ens ((zs2.take i).filter fun z => z.2.isDeed)).map (fun e => e.num)).Nodup := by
                have e : (ens ((zs2.take i).filter fun z => z.2.isDeed)).map (fun e => e.num) = ((zs2.take i).filter fun z => z.2.isDeed).map (fun z => z.2.num) := by simp [ens]
                rw [e]
                exact ((List.filter_sublist.trans (List.take_sublist i zs2)).map _).nodup nd2
              have dg : DGet H3 fo (.int m) (some (.str (st (ens zs) d kk v.2))) := by
                have g1' := DGet.k (k := Sum.inl m) (s3 _ _ ef)
                rw [← hu3, valV_map (f := fun e : En => e.num) (g := fun e : En => V.str (st (ens zs) d kk e)) ndf hvf] at g1'
                rw [← hu3]
                exact g1'
              have etj := take_more hn
              have lo := lost_one hE.ok d kk (r := m) hu1 hu2 hu3
              refine ⟨rfl, _, rfl, _, rfl, fo, _, rfl, dg, (by show 2 ≤ sizeLine; decide), fun tp ntp => ?_⟩
              have s4 : Same H3 (upd H3 tp (.tup [.str "stands", .str "paid"])) := fun b o e => by rw [upd_ne (ne_of_none e ntp)]; exact e
              have etp : (upd H3 tp (.tup [.str "stands", .str "paid"])) tp = some (.tup [.str "stands", .str "paid"]) := upd_same
              generalize (upd H3 tp (.tup [.str "stands", .str "paid"])) = H4 at s4 etp
              have ei : inV (.str (st (ens zs) d kk v.2)) [.str "stands", .str "paid"] = carries (st (ens zs) d kk v.2) := mem_inS (ws := ["stands", "paid"])
              refine ⟨tp, _, rfl, .inr (SqT.of etp), rfl, rfl, _, rfl, ?_⟩
              rw [ei]
              cases hc : carries (st (ens zs) d kk v.2) with
              | false =>
                refine iteT ?_
                refine ⟨_, rfl, _, s4 _ _ eD, small1000 (by rw [List.length_map]; omega), rs ++ [m], ?_, fun b o e => ?_, ?_, ?_⟩
                · rw [upd_same, List.map_append]
                  rfl
                · rw [upd_ne (ne_of_none e nD)]
                  exact s4 _ _ (s3 _ _ e)
                · rw [List.length_append]
                  show rs.length + 1 ≤ j + 1
                  omega
                · rw [etj, List.any_append, List.any_cons, lo, hc]
                  simp
              | true =>
                refine iteF ?_
                refine ⟨rs, s4 _ _ eD, s3.trans s4, by omega, ?_⟩
                rw [etj, List.any_append, List.any_cons, lo, hc, hiff]
                simp
          rintro H3 ⟨rs, eD, s3, hrsl, hiff⟩
          have elr : z.2.rests.take (z.2.rests.map V.int).length = z.2.rests := List.take_of_length_le (by rw [List.length_map]; exact Nat.le_refl _)
          rw [elr] at hiff
          have hE3 := hE'.same s3
          obtain ⟨xs3, ex3, _, h1, h2, _⟩ := (hE3.ent z hzm).tup
          -- unknown, ahead
          refine ⟨_, rfl, z.1, xs3, 2, _, rfl, rfl, SqT.of ex3, h2, _, rfl, _, _, rfl, rfl, _, rfl, ?_⟩
          refine ite2 (fun c1 => ?ua1) (fun c1 => (⟨_, rfl, z.1, xs3, 1, _, rfl, rfl, SqT.of ex3, h1, _, rfl, _, _, rfl, rfl, _, rfl, ite2 (fun c2 => ?ua2) (fun c2 => ?nx)⟩))
          case nx =>
            have c1' : ¬ kk < z.2.wri := fun q0 => c1 (decide_eq_true q0)
            have c2' : ¬ d < z.2.day := fun q0 => c2 (decide_eq_true q0)
            rw [if_neg c1', if_neg c2'] at sq
            refine ⟨_, rfl, _, rfl, (by show 1 ≤ sizeLine; decide), fun wa nwa => ?_⟩
            have s4 : Same H3 (upd H3 wa (.tup [.str "void"])) := fun b o e => by rw [upd_ne (ne_of_none e nwa)]; exact e
            have ewa : (upd H3 wa (.tup [.str "void"])) wa = some (.tup [.str "void"]) := upd_same
            generalize (upd H3 wa (.tup [.str "void"])) = H4 at s4 ewa
            refine ⟨_, rfl, _, rfl, ed, wa, z.2.num, d, kk, "void", n, zs, rfl, hE3.same s4, ewa, by decide, fun H5 s5 => ⟨_, rfl, ?_⟩⟩
            have s35 := s3.trans (s4.trans s5)
            refine ite2 (fun c3 => ?_) (fun c3 => ?_)
            · rw [if_pos c3] at sq
              obtain ⟨H10, dp, fin⟩ := done (some (.ref D)) _ H5 s35
              rw [sq] at dp
              exact ⟨_, rfl, _, rfl, fo, H10, rfl, dp, fin⟩
            rw [if_neg c3] at sq
            refine ⟨_, rfl, Nat.zero_le _, fun g ng => ?_⟩
            have s6 : Same H5 (upd H5 g (.lst [])) := fun b o e => by rw [upd_ne (ne_of_none e ng)]; exact e
            have eg : (upd H5 g (.lst [])) g = some (.lst []) := upd_same
            generalize (upd H5 g (.lst [])) = H6 at s6 eg
            have s36 := s35.trans s6
            refine ⟨.list (rs.map .int), .list (([] : List Int).map .int), .lst (SqL.of ((s4.trans (s5.trans s6)) _ _ eD)) (dp_ints rs), .lst (SqL.of eg) (dp_ints []), shaped_ints rs, shaped_ints [], _, rfl, ?_⟩
            rw [eqv_ints, hiff]
            refine ite2 (fun c4 => ?_) (fun c4 => ?_)
            · rw [if_pos c4] at sq
              obtain ⟨H10, dp, fin⟩ := done (some (.ref D)) _ H6 s36
              rw [sq] at dp
              exact ⟨_, rfl, _, rfl, fo, H10, rfl, dp, fin⟩
            rw [if_neg c4] at sq
            refine ⟨(by show 2 ≤ sizeLine; decide), fun m2 nm2 => ?_⟩
            have s7 : Same H6 (upd H6 m2 (.lst [.str "stands", .str "paid"])) := fun b o e => by rw [upd_ne (ne_of_none e nm2)]; exact e
            have em2 : (upd H6 m2 (.lst [.str "stands", .str "paid"])) m2 = some (.lst [.str "stands", .str "paid"]) := upd_same
            generalize (upd H6 m2 (.lst [.str "stands", .str "paid"])) = H7 at s7 em2
            refine ⟨_, rfl, _, rfl, (by show 1 ≤ sizeLine; decide), fun wb nwb => ?_⟩
            have s8 : Same H7 (upd H7 wb (.tup [.str "paid"])) := fun b o e => by rw [upd_ne (ne_of_none e nwb)]; exact e
            have ewb : (upd H7 wb (.tup [.str "paid"])) wb = some (.tup [.str "paid"]) := upd_same
            generalize (upd H7 wb (.tup [.str "paid"])) = H8 at s8 ewb
            have s38 := s36.trans (s7.trans s8)
            refine ⟨_, rfl, _, rfl, ed, wb, z.2.num, d, kk, "paid", n, zs, rfl, hE'.same s38, ewb, by decide, fun H9 s9 => ?_⟩
            refine .inr ⟨_, rfl, ?_⟩
            obtain ⟨H10, dp, fin⟩ := done (some (.ref D)) _ H9 (s38.trans s9)
            have ga : atI [V.str "stands", V.str "paid"] (if anyF (ens zs) d kk "paid" z.2.num = true then 1 else 0) = some (.str (st (ens zs) d kk z.2)) := by
              rw [sq]
              cases anyF (ens zs) d kk "paid" z.2.num with
              | true => exact atI_nat (j := 1) rfl
              | false => exact atI_nat (j := 0) rfl
            exact ⟨m2, _, _, _, rfl, rfl, SqL.of (s9 _ _ (s8 _ _ em2)), ga, _, rfl, _, rfl, fo, H10, rfl, dp, fin⟩
          all_goals
            refine ⟨(by show 2 ≤ sizeLine; decide), fun m2 nm2 => ?_⟩
            have s4 : Same H3 (upd H3 m2 (.lst [.str "ahead", .str "unknown"])) := fun b o e => by rw [upd_ne (ne_of_none e nm2)]; exact e
            have em2 : (upd H3 m2 (.lst [.str "ahead", .str "unknown"])) m2 = some (.lst [.str "ahead", .str "unknown"]) := upd_same
            generalize (upd H3 m2 (.lst [.str "ahead", .str "unknown"])) = H4 at s4 em2
            obtain ⟨xs4, ex4, _, _, h24, _⟩ := ((hE3.same s4).ent z hzm).tup
            refine ⟨_, rfl, z.1, xs4, 2, _, rfl, rfl, SqT.of ex4, h24, _, rfl, _, _, rfl, rfl, .inr ⟨_, rfl, ?_⟩⟩
            obtain ⟨H10, dp, fin⟩ := done (some (.ref D)) _ H4 (s3.trans s4)
            have ga : atI [V.str "ahead", V.str "unknown"] (if decide (kk < z.2.wri) = true then 1 else 0) = some (.str (st (ens zs) d kk z.2)) := by
              rw [sq]
              by_cases cw : kk < z.2.wri
              · rw [if_pos cw, decide_eq_true cw]
                exact atI_nat (j := 1) rfl
              · have cd : d < z.2.day := by
                  first
                    | exact of_decide_eq_true c2
                    | exact absurd (of_decide_eq_true c1) cw
                rw [if_neg cw, if_pos cd, decide_eq_false cw]
                exact atI_nat (j := 0) rfl
            exact ⟨m2, _, _, _, rfl, rfl, SqL.of em2, ga, _, rfl, _, rfl, fo, H10, rfl, dp, fin⟩
        · have hd : z.2.isDeed = false := by
            cases hh : z.2.isDeed with
            | false => rfl
            | true =>
              refine absurd (decide_eq_true ?_) c
              rw [wd.mpr hh]
          refine ⟨_, _, _, _, rfl, sm, es', ?_⟩
          rw [ef, et, List.filter_append]
          simp [hd]
    · rintro σ H' ⟨y4, y5, y6, y7, rfl, sm, es', ef⟩
      have el : zs2.take ((zs2.map fun z => z.2.num).map V.int).length = zs2 := List.take_of_length_le (by rw [List.length_map, List.length_map]; exact Nat.le_refl _)
      rw [el] at ef
      refine ⟨_, rfl, q fo _ H' sm nfo ef ⟨up2.filter _, fun x => ?_, ?_⟩⟩
      · constructor
        · intro hx
          obtain ⟨z, hz, rfl⟩ := List.mem_map.mp hx
          obtain ⟨h1, h2⟩ := List.mem_filter.mp hz
          exact ⟨List.mem_map.mpr ⟨z, pz.mem_iff.mp h1, rfl⟩, h2⟩
        · rintro ⟨hx, hd⟩
          obtain ⟨z, hz, rfl⟩ := List.mem_map.mp hx
          exact List.mem_map.mpr ⟨z, List.mem_filter.mpr ⟨pz.mem_iff.mpr hz, hd⟩, rfl⟩
      · have h1 := List.length_filter_le (fun z : Addr × En => z.2.isDeed) zs2
        omega
end
end Deed

namespace Deed
open PySem PySem.Spec PyProof.Rows L2 LamX
/-- all but the pen and the tables is as it was -/
def XP (p : Addr) (H H' : Hp) : Prop := ∀ b o, b ≠ p → H b = some o → (∀ ps, o ≠ .tbl ps) → H' b = some o
theorem XP.refl (p : Addr) (H : Hp) : XP p H H := fun _ _ _ h _ => h
theorem XP.trans {p : Addr} {H H1 H2 : Hp} (a : XP p H H1) (b : XP p H1 H2) : XP p H H2 := fun c o n h t => b c o n (a c o n h t) t
theorem XP.ofN {p : Addr} {H H' : Hp} (e : ExtN H H') : XP p H H' := fun b o _ h t => e b o h t
theorem XP.ofK {p : Addr} {H H' : Hp} (k : Kp p H H') : XP p H H' := fun b o n h _ => k b o n h
theorem XP.ofS {p : Addr} {H H' : Hp} (s : Same H H') : XP p H H' := fun b o _ h _ => s b o h
theorem XP.tup {p : Addr} {H H' : Hp} (x : XP p H H') (P : PenAt H p) : KpT H H' := fun b xs e => x _ _ (P.ne e fun _ z => by cases z) e fun ps z => by cases z
theorem XP.toN {p : Addr} {H0 H H' : Hp} (e : ExtN H0 H) (n : H0 p = none) (x : XP p H H') : ExtN H0 H' := fun b o h t => x b o (ne_of_none h n) (e b o h t) t
theorem EdAt.xp {p : Addr} {H H' : Hp} {ed : Addr} {n : Nat} {zs : List (Addr × En)} (h : EdAt H ed n zs) (x : XP p H H') (P : PenAt H p) : EdAt H' ed n zs :=
  ⟨x _ _ (P.ne h.at_ fun _ z => by cases z) h.at_ fun ps z => (by cases z), fun z hz => (h.ent z hz).kp (x.tup P), h.ok, h.len⟩
theorem EdAt.extN {H H' : Hp} {ed : Addr} {n : Nat} {zs : List (Addr × En)} (h : EdAt H ed n zs) (e : ExtN H H') : EdAt H' ed n zs :=
  ⟨e _ _ h.at_ fun ps z => (by cases z), fun z hz => (h.ent z hz).kp (ExtN.tup e), h.ok, h.len⟩
section
variable (K : PySem.W.Frag) (mg : Str → Option Value)
abbrev CellD := Df K mg "_law_cell_at" sCell ["_law_script", "_law_k"]
abbrev PenD := Df K mg "_law_pen" sPen ["_law_cell"]
abbrev BookD := Df K mg "_law_book" sBook ["_law_pen_here", "_law_most"]
end
/-- how many cells are looked at -/
theorem turns3 (m : Nat) : ∃ tn : Int, (if (if 3 < (m : Int) then 3 else (m : Int)) > 1 then (if 3 < (m : Int) then 3 else (m : Int)) else 1) = tn ∧ 0 ≤ tn ∧ tn ≤ 3 := ⟨_, rfl, by split <;> split <;> omega, by split <;> split <;> omega⟩
end Deed

namespace Deed
open PySem PySem.Spec PyProof.Rows L2 LamX
theorem dp_strs {K : PySem.W.Frag} {H : Hp} : ∀ ns : List Str, DpAll K H (ns.map V.str) (ns.map PyData.str)
  | [] => .nil
  | n :: r => .cons (.str n) (dp_strs r)
theorem lay_strs : ∀ ns : List Str, (∀ x ∈ ns, PyData.strOk x = true) → PyData.canLayAll0 (ns.map PyData.str) = true
  | [], _ => by simp [PyData.canLayAll0]
  | n :: r, h => by simp [PyData.canLayAll0, PyData.canLay0, h n List.mem_cons_self, lay_strs r fun x hx => h x (List.mem_cons_of_mem _ hx)]
theorem depth_strs : ∀ ns : List Str, PyData.depthAll (ns.map PyData.str) ≤ 1
  | [] => by simp [PyData.depthAll]
  | n :: r => by
    have h := depth_strs r
    simp only [List.map_cons, PyData.depthAll, PyData.depth]
    omega
theorem shaped_strs (ns : List Str) (hok : ∀ x ∈ ns, PyData.strOk x = true) : SeqAt.shaped (.list (ns.map PyData.str)) = true := by
  have h1 := depth_strs ns
  have h2 : PyData.depth (.list (ns.map PyData.str)) ≤ 64 := by
    simp only [PyData.depth]
    omega
  show (PyData.canLay0 (.list (ns.map PyData.str)) && decide (PyData.depth (.list (ns.map PyData.str)) ≤ 64)) = true
  rw [Bool.and_eq_true]
  exact ⟨by simp only [PyData.canLay0]; exact lay_strs ns hok, decide_eq_true h2⟩
theorem eqvAll_strs : ∀ ns : List Str, PyData.eqvAll (ns.map PyData.str) (ns.map PyData.str) = true
  | [] => by simp [PyData.eqvAll]
  | n :: r => by simp [PyData.eqvAll, PyData.eqv, eqvAll_strs r]
theorem eqv_strs (ns : List Str) : PyData.eqv (.list (ns.map PyData.str)) (.list (ns.map PyData.str)) = true := by
  simp only [PyData.eqv]
  exact eqvAll_strs ns
theorem st_ok (es : List En) (d k : Int) (e : En) : PyData.strOk (st es d k e) = true := by
  unfold st stF wordBy
  split
  · decide +kernel
  · split
    · decide +kernel
    · split
      · decide +kernel
      · split
        · decide +kernel
        · split
          · decide +kernel
          · decide +kernel
theorem Tabs.lock {T : List (Addr × Str)} {H : Hp} (t : Tabs T H) {d : Addr} {kvs : List (Key × V)} (e : H d = some (.dK kvs)) (o : HO) : Tabs T (upd H d o) := fun q0 hq0 => by
  obtain ⟨ps, h1, h2, h3⟩ := t q0 hq0
  have n1 : q0.1 ≠ d := fun z0 => by
    rw [z0, e] at h1
    cases h1
  refine ⟨ps, by rw [upd_ne n1]; exact h1, h2, fun pos cv hcv => ?_⟩
  obtain ⟨c0, e1, e2⟩ := h3 pos cv hcv
  refine ⟨c0, e1, ?_⟩
  have n2 : c0 ≠ d := fun z0 => by
    rw [z0, e] at e2
    unfold CodeO at e2
    cases e2
  rw [upd_ne n2]
  exact e2
theorem Tabs.unlock {T : List (Addr × Str)} {H : Hp} (t : Tabs T H) {d : Addr} {ob : Obj} {kvs : List (Key × V)} (e : H d = some (.frz ob (.dK kvs))) (o : HO) : Tabs T (upd H d o) := fun q0 hq0 => by
  obtain ⟨ps, h1, h2, h3⟩ := t q0 hq0
  have n1 : q0.1 ≠ d := fun z0 => by
    rw [z0, e] at h1
    cases h1
  refine ⟨ps, by rw [upd_ne n1]; exact h1, h2, fun pos cv hcv => ?_⟩
  obtain ⟨c0, e1, e2⟩ := h3 pos cv hcv
  refine ⟨c0, e1, ?_⟩
  have n2 : c0 ≠ d := fun z0 => by
    rw [z0, e] at e2
    unfold CodeO at e2
    cases e2
  rw [upd_ne n2]
  exact e2
end Deed

namespace Deed
open PySem PySem.Spec PyProof.Rows L2 LamX
/-! ### things, as data -/
inductive Dat where
  | non
  | bl (b : Bool)
  | int (i : Int)
  | str (x : Str)
  | tup (xs : List Dat)
  | oth
mutual
def Dat.py : Dat → PyData
  | .non => .none
  | .bl b => .bool b
  | .int i => .int i
  | .str x => .str x
  | .tup xs => .tuple (Dat.pyAll xs)
  | .oth => .none
def Dat.pyAll : List Dat → List PyData
  | [] => []
  | x :: r => x.py :: Dat.pyAll r
end
mutual
/-- no list, no dict; the texts are texts -/
def Dat.okD : Dat → Bool
  | .str x => PyData.strOk x
  | .tup xs => Dat.okAll xs
  | .oth => false
  | _ => true
def Dat.okAll : List Dat → Bool
  | [] => true
  | x :: r => x.okD && Dat.okAll r
end
mutual
def Dat.dep : Dat → Nat
  | .tup xs => Dat.depAll xs + 1
  | _ => 0
def Dat.depAll : List Dat → Nat
  | [] => 0
  | x :: r => max x.dep (Dat.depAll r)
end
mutual
inductive Da (H : Hp) : V → Dat → Prop
  | non : Da H .non .non
  | bl (b : Bool) : Da H (.bl b) (.bl b)
  | int (i : Int) : Da H (.int i) (.int i)
  | str (x : Str) : Da H (.str x) (.str x)
  | tup {a : Addr} {xs : List V} {ds : List Dat} : H a = some (.tup xs) → DaAll H xs ds → Da H (.ref a) (.tup ds)
  | lst {a : Addr} {xs : List V} : H a = some (.lst xs) → Da H (.ref a) .oth
  | dct {a : Addr} {kvs : List (Key × V)} : H a = some (.dK kvs) → Da H (.ref a) .oth
inductive DaAll (H : Hp) : List V → List Dat → Prop
  | nil : DaAll H [] []
  | cons {v : V} {vs : List V} {d : Dat} {ds : List Dat} : Da H v d → DaAll H vs ds → DaAll H (v :: vs) (d :: ds)
end
mutual
theorem Da.dp (K : PySem.W.Frag) {H : Hp} : ∀ {d : Dat} {v : V}, Da H v d → d.okD = true → Dp K H v d.py
  | .non, _, h, _ => by cases h; exact .non
  | .bl b, _, h, _ => by cases h; exact .bl b
  | .int i, _, h, _ => by cases h; exact .int i
  | .str x, _, h, _ => by cases h; exact .str x
  | .tup ds, _, h, o => by
    cases h with
    | tup e h => exact .tup (SqT.of e) (DaAll.dp K h (by unfold Dat.okD at o; exact o))
  | .oth, _, h, o => by unfold Dat.okD at o; cases o
theorem DaAll.dp (K : PySem.W.Frag) {H : Hp} : ∀ {ds : List Dat} {vs : List V}, DaAll H vs ds → Dat.okAll ds = true → DpAll K H vs (Dat.pyAll ds)
  | [], _, h, _ => by cases h; exact .nil
  | d :: r, _, h, o => by
    unfold Dat.okAll at o
    rw [Bool.and_eq_true] at o
    cases h with
    | cons h1 h2 => exact .cons (Da.dp K h1 o.1) (DaAll.dp K h2 o.2)
end
mutual
theorem Da.ext {H H' : Hp} (e : ExtN H H') : ∀ {d : Dat} {v : V}, Da H v d → Da H' v d
  | .non, _, h => by cases h; exact .non
  | .bl b, _, h => by cases h; exact .bl b
  | .int i, _, h => by cases h; exact .int i
  | .str x, _, h => by cases h; exact .str x
  | .tup ds, _, h => by
    cases h with
    | tup z h => exact .tup (e _ _ z fun ps z => by cases z) (DaAll.ext e h)
  | .oth, _, h => by
    cases h with
    | lst z => exact .lst (e _ _ z fun ps z => by cases z)
    | dct z => exact .dct (e _ _ z fun ps z => by cases z)
theorem DaAll.ext {H H' : Hp} (e : ExtN H H') : ∀ {ds : List Dat} {vs : List V}, DaAll H vs ds → DaAll H' vs ds
  | [], _, h => by cases h; exact .nil
  | d :: r, _, h => by
    cases h with
    | cons h1 h2 => exact .cons (Da.ext e h1) (DaAll.ext e h2)
end
mutual
theorem Da.kpT {H H' : Hp} (e : KpT H H') : ∀ {d : Dat} {v : V}, Da H v d → d.okD = true → Da H' v d
  | .non, _, h, _ => by cases h; exact .non
  | .bl b, _, h, _ => by cases h; exact .bl b
  | .int i, _, h, _ => by cases h; exact .int i
  | .str x, _, h, _ => by cases h; exact .str x
  | .tup ds, _, h, o => by
    cases h with
    | tup z h => exact .tup (e _ _ z) (DaAll.kpT e h (by unfold Dat.okD at o; exact o))
  | .oth, _, h, o => by unfold Dat.okD at o; cases o
theorem DaAll.kpT {H H' : Hp} (e : KpT H H') : ∀ {ds : List Dat} {vs : List V}, DaAll H vs ds → Dat.okAll ds = true → DaAll H' vs ds
  | [], _, h, _ => by cases h; exact .nil
  | d :: r, _, h, o => by
    unfold Dat.okAll at o
    rw [Bool.and_eq_true] at o
    cases h with
    | cons h1 h2 => exact .cons (Da.kpT e h1 o.1) (DaAll.kpT e h2 o.2)
end
theorem DaAll.len {H : Hp} : ∀ {vs : List V} {ds : List Dat}, DaAll H vs ds → vs.length = ds.length
  | _, _, .nil => rfl
  | _, _, .cons _ h => by rw [List.length_cons, List.length_cons, h.len]
theorem DaAll.at {H : Hp} : ∀ {vs : List V} {ds : List Dat} {i : Nat} {v : V}, DaAll H vs ds → vs[i]? = some v → ∃ d, ds[i]? = some d ∧ Da H v d
  | _, _, i, _, .nil, h => by simp at h
  | _, _, 0, v, .cons h1 _, h => by
    simp at h
    exact ⟨_, rfl, h ▸ h1⟩
  | _, _, i + 1, v, .cons _ h2, h => by
    obtain ⟨d, e, q⟩ := h2.at (i := i) (by simpa using h)
    exact ⟨d, by simpa using e, q⟩
theorem DaAll.at' {H : Hp} : ∀ {vs : List V} {ds : List Dat} {i : Nat} {d : Dat}, DaAll H vs ds → ds[i]? = some d → ∃ v, vs[i]? = some v ∧ Da H v d
  | _, _, i, _, .nil, h => by simp at h
  | _, _, 0, v, .cons h1 _, h => by
    simp at h
    exact ⟨_, rfl, h ▸ h1⟩
  | _, _, i + 1, v, .cons _ h2, h => by
    obtain ⟨d, e, q⟩ := h2.at' (i := i) (by simpa using h)
    exact ⟨d, by simpa using e, q⟩
theorem DaAll.map {α : Type} {H : Hp} {f : α → V} {g : α → Dat} : ∀ {l : List α}, (∀ x ∈ l, Da H (f x) (g x)) → DaAll H (l.map f) (l.map g)
  | [], _ => .nil
  | a :: r, h => .cons (h a List.mem_cons_self) (DaAll.map fun x hx => h x (List.mem_cons_of_mem _ hx))
theorem okAll_of : ∀ {l : List Dat}, (∀ x ∈ l, x.okD = true) → Dat.okAll l = true
  | [], _ => rfl
  | a :: r, h => by
    unfold Dat.okAll
    rw [h a List.mem_cons_self, okAll_of fun x hx => h x (List.mem_cons_of_mem _ hx)]
    rfl
theorem depAll_of {m : Nat} : ∀ {l : List Dat}, (∀ x ∈ l, x.dep ≤ m) → Dat.depAll l ≤ m
  | [], _ => Nat.zero_le _
  | a :: r, h => by
    unfold Dat.depAll
    have h1 := h a List.mem_cons_self
    have h2 := depAll_of (l := r) fun x hx => h x (List.mem_cons_of_mem _ hx)
    omega
mutual
theorem Dat.lay : ∀ {d : Dat}, d.okD = true → PyData.canLay0 d.py = true
  | .non, _ => rfl
  | .bl b, _ => rfl
  | .int i, _ => by simp [Dat.py, PyData.canLay0]
  | .str x, o => by
    unfold Dat.okD at o
    simp [Dat.py, PyData.canLay0, o]
  | .tup ds, o => by
    unfold Dat.okD at o
    simp [Dat.py, PyData.canLay0, Dat.layAll o]
  | .oth, o => by unfold Dat.okD at o; cases o
theorem Dat.layAll : ∀ {ds : List Dat}, Dat.okAll ds = true → PyData.canLayAll0 (Dat.pyAll ds) = true
  | [], _ => by simp [Dat.pyAll, PyData.canLayAll0]
  | d :: r, o => by
    unfold Dat.okAll at o
    rw [Bool.and_eq_true] at o
    simp [Dat.pyAll, PyData.canLayAll0, Dat.lay o.1, Dat.layAll o.2]
end
mutual
theorem Dat.depth : ∀ (d : Dat), PyData.depth d.py ≤ 2 * d.dep + 1
  | .non => by simp [Dat.py, PyData.depth]
  | .bl b => by simp [Dat.py, PyData.depth]
  | .int i => by simp [Dat.py, PyData.depth]
  | .str x => by simp [Dat.py, PyData.depth]
  | .tup ds => by
    have h := Dat.depthAll ds
    simp only [Dat.py, PyData.depth, Dat.dep]
    omega
  | .oth => by simp [Dat.py, PyData.depth]
theorem Dat.depthAll : ∀ (ds : List Dat), PyData.depthAll (Dat.pyAll ds) ≤ 2 * Dat.depAll ds + 1
  | [] => by simp [Dat.pyAll, PyData.depthAll]
  | d :: r => by
    have h1 := Dat.depth d
    have h2 := Dat.depthAll r
    simp only [Dat.pyAll, PyData.depthAll, Dat.depAll]
    omega
end
theorem Dat.shaped {d : Dat} (o : d.okD = true) (h : d.dep ≤ 31) : SeqAt.shaped d.py = true := by
  show (PyData.canLay0 d.py && decide (PyData.depth d.py ≤ 64)) = true
  rw [Bool.and_eq_true]
  have := Dat.depth d
  exact ⟨Dat.lay o, decide_eq_true (by omega)⟩
end Deed
namespace Deed
open PySem PySem.Spec PyProof.Rows L2 LamX
mutual
/-- a list that is no part is written -/
theorem Da.putL {H : Hp} {l : Addr} {xs : List V} (e : H l = some (.lst xs)) (ys : List V) : ∀ {d : Dat} {v : V}, Da H v d → Da (upd H l (.lst ys)) v d
  | .non, _, h => by cases h; exact .non
  | .bl b, _, h => by cases h; exact .bl b
  | .int i, _, h => by cases h; exact .int i
  | .str x, _, h => by cases h; exact .str x
  | .tup ds, _, h => by
    cases h with
    | tup z h => exact .tup (by rw [upd_ne fun q => by rw [q, e] at z; cases z]; exact z) (DaAll.putL e ys h)
  | .oth, v, h => by
    cases h with
    | @lst a xs' z =>
      by_cases ha : a = l
      · exact .lst (by rw [ha, upd_same])
      · exact .lst (by rw [upd_ne ha]; exact z)
    | @dct a kvs z => exact .dct (by rw [upd_ne fun q => by rw [q, e] at z; cases z]; exact z)
theorem DaAll.putL {H : Hp} {l : Addr} {xs : List V} (e : H l = some (.lst xs)) (ys : List V) : ∀ {ds : List Dat} {vs : List V}, DaAll H vs ds → DaAll (upd H l (.lst ys)) vs ds
  | [], _, h => by cases h; exact .nil
  | d :: r, _, h => by
    cases h with
    | cons h1 h2 => exact .cons (Da.putL e ys h1) (DaAll.putL e ys h2)
end
mutual
theorem Da.putD {H : Hp} {l : Addr} {xs : List (Key × V)} (e : H l = some (.dK xs)) (ys : List (Key × V)) : ∀ {d : Dat} {v : V}, Da H v d → Da (upd H l (.dK ys)) v d
  | .non, _, h => by cases h; exact .non
  | .bl b, _, h => by cases h; exact .bl b
  | .int i, _, h => by cases h; exact .int i
  | .str x, _, h => by cases h; exact .str x
  | .tup ds, _, h => by
    cases h with
    | tup z h => exact .tup (by rw [upd_ne fun q => by rw [q, e] at z; cases z]; exact z) (DaAll.putD e ys h)
  | .oth, v, h => by
    cases h with
    | @lst a xs' z => exact .lst (by rw [upd_ne fun q => by rw [q, e] at z; cases z]; exact z)
    | @dct a kvs z =>
      by_cases ha : a = l
      · exact .dct (by rw [ha, upd_same])
      · exact .dct (by rw [upd_ne ha]; exact z)
theorem DaAll.putD {H : Hp} {l : Addr} {xs : List (Key × V)} (e : H l = some (.dK xs)) (ys : List (Key × V)) : ∀ {ds : List Dat} {vs : List V}, DaAll H vs ds → DaAll (upd H l (.dK ys)) vs ds
  | [], _, h => by cases h; exact .nil
  | d :: r, _, h => by
    cases h with
    | cons h1 h2 => exact .cons (Da.putD e ys h1) (DaAll.putD e ys h2)
end
end Deed

namespace Deed
open PySem PySem.Spec PyProof.Rows L2 LamX
/-! ### papers -/
def isYesD : Dat → Bool
  | .tup (.str w :: _) => decide (w = "yes")
  | _ => false
def papO (n : Int) (ps : List Dat) : Dat := match ps.filter isYesD with
  | y :: _ => .tup [.str "no", .int n, y]
  | [] => .tup [.str "yes", .int n, .tup ps]
def papF (ys : List En) : Nat → En → Dat
  | 0, _ => .non
  | f + 1, e => papO e.num ((ys.filter (isOn "undone" e.num)).map (papF ys f))
def pap (ys : List En) (e : En) : Dat := papF ys (31 - e.num).toNat e
/-- the open acts of es by their numbers -/
structure Oa (n : Nat) (es : List En) (d k : Int) (ys : List En) : Prop where
  bk : BkOk n es
  mem : ∀ u ∈ ys, u ∈ es ∧ u.isDeed = false ∧ isOpen d k u = true
  all : ∀ u ∈ es, u.isDeed = false → isOpen d k u = true → u ∈ ys
  up : ys.Pairwise (fun a b => a.num < b.num)
theorem OpenActs.oa {n : Nat} {es : List En} {d k : Int} {ys : List (Addr × En)} (h : OpenActs n es d k ys) (hB : BkOk n es) : Oa n es d k (ens ys) := by
  refine ⟨hB, fun u hu => ?_, fun u hu h1 h2 => ?_, ?_⟩
  · obtain ⟨z, hz, rfl⟩ := List.mem_map.mp hu
    exact h.mem z hz
  · obtain ⟨z, hz, e⟩ := h.all u hu h1 h2
    exact List.mem_map.mpr ⟨z, hz, e⟩
  · rw [List.pairwise_map]
    exact h.up
theorem en_one : ∀ {l m : List En}, l.Pairwise (fun a b => a.num < b.num) → m.Pairwise (fun a b => a.num < b.num) → (∀ x, x ∈ l ↔ x ∈ m) → l = m
  | [], [], _, _, _ => rfl
  | [], b :: m, _, _, h => absurd ((h b).mpr List.mem_cons_self) (by simp)
  | a :: l, [], _, _, h => absurd ((h a).mp List.mem_cons_self) (by simp)
  | a :: l, b :: m, h1, h2, h => by
    rw [List.pairwise_cons] at h1 h2
    have e : a = b := by
      rcases List.mem_cons.mp ((h a).mp List.mem_cons_self) with e | ha
      · exact e
      · rcases List.mem_cons.mp ((h b).mpr List.mem_cons_self) with e | hb
        · exact e.symm
        · have := h2.1 a ha
          have := h1.1 b hb
          omega
    subst e
    have := en_one h1.2 h2.2 fun x => by
      constructor
      · intro hx
        rcases List.mem_cons.mp ((h x).mp (List.mem_cons_of_mem _ hx)) with e | hm
        · have := h1.1 x hx
          rw [e] at this
          omega
        · exact hm
      · intro hx
        rcases List.mem_cons.mp ((h x).mpr (List.mem_cons_of_mem _ hx)) with e | hm
        · have := h2.1 x hx
          rw [e] at this
          omega
        · exact hm
    rw [this]
theorem Oa.one {n n' : Nat} {es : List En} {d k : Int} {ys ys' : List En} (h : Oa n es d k ys) (h' : Oa n' es d k ys') : ys = ys' :=
  en_one h.up h'.up fun x => ⟨fun hx => have a := h.mem x hx; h'.all x a.1 a.2.1 a.2.2, fun hx => have a := h'.mem x hx; h.all x a.1 a.2.1 a.2.2⟩
theorem Oa.undo {n : Nat} {es : List En} {d k : Int} {ys : List En} (h : Oa n es d k ys) {e u : En} (hu : u ∈ ys.filter (isOn "undone" e.num)) : u ∈ ys ∧ e.num < u.num ∧ 0 ≤ u.num ∧ u.num ≤ 30 := by
  obtain ⟨h1, h2⟩ := List.mem_filter.mp hu
  have hm := h.mem u h1
  have hok := h.bk.ok u hm.1
  obtain ⟨a1, a2, a3⟩ := isOn_act hok (by decide) h2
  have := hok.of_lt hm.2.1
  have hr := h.bk.rng u hm.1
  exact ⟨h1, by rw [← a3]; exact this.1, hr.1, hr.2⟩
theorem papF_one {n : Nat} {es : List En} {d k : Int} {ys : List En} (h : Oa n es d k ys) : ∀ (f g : Nat) (e : En), (31 - e.num).toNat ≤ f → (31 - e.num).toNat ≤ g → e.num ≤ 30 → papF ys f e = papF ys g e
  | 0, _, e, h1, _, h3 => by omega
  | _ + 1, 0, e, _, h2, h3 => by omega
  | f + 1, g + 1, e, h1, h2, h3 => by
    unfold papF
    congr 1
    refine List.map_congr_left fun u hu => ?_
    obtain ⟨_, a2, a3, a4⟩ := h.undo hu
    exact papF_one h f g u (by omega) (by omega) a4
theorem pap_eq {n : Nat} {es : List En} {d k : Int} {ys : List En} (h : Oa n es d k ys) {e : En} (he : e ∈ ys) : pap ys e = papO e.num ((ys.filter (isOn "undone" e.num)).map (pap ys)) := by
  have hr := h.bk.rng e (h.mem e he).1
  unfold pap
  obtain ⟨f, hf⟩ : ∃ f, (31 - e.num).toNat = f + 1 := ⟨(31 - e.num).toNat - 1, by omega⟩
  rw [hf]
  show papO e.num _ = _
  congr 1
  refine List.map_congr_left fun u hu => ?_
  obtain ⟨_, a2, a3, a4⟩ := h.undo hu
  exact papF_one h _ _ u (by omega) (Nat.le_refl _) a4
theorem yes_papO (n : Int) (ps : List Dat) : isYesD (papO n ps) = (ps.filter isYesD).isEmpty := by
  unfold papO
  cases ps.filter isYesD with
  | nil => rfl
  | cons y r => rfl
theorem pap_yesF {n : Nat} {es : List En} {d k : Int} {ys : List En} (h : Oa n es d k ys) : ∀ (f : Nat) (e : En), e ∈ ys → (31 - e.num).toNat ≤ f → isYesD (pap ys e) = frc es d k e
  | 0, e, he, hf => by
    have hr := h.bk.rng e (h.mem e he).1
    omega
  | f + 1, e, he, hf => by
    have hm := h.mem e he
    rw [pap_eq h he, yes_papO, frc_eq h.bk d k hm.1, hm.2.2, Bool.true_and]
    have ih : ∀ u ∈ ys.filter (isOn "undone" e.num), isYesD (pap ys u) = frc es d k u := fun u hu => by
      obtain ⟨a1, a2, a3, a4⟩ := h.undo hu
      exact pap_yesF h f u a1 (by omega)
    rw [Bool.eq_iff_iff, List.isEmpty_iff, List.filter_eq_nil_iff, List.all_eq_true]
    constructor
    · intro hn u hu
      cases ho : isOn "undone" e.num u with
      | false => rfl
      | true =>
        cases hfu : frc es d k u with
        | false => rfl
        | true =>
          have hop := frc_open h.bk hu hfu
          have hok := h.bk.ok u hu
          obtain ⟨a1, _, _⟩ := isOn_act hok (by decide) ho
          have huy := h.all u hu a1 hop
          have hmf : u ∈ ys.filter (isOn "undone" e.num) := List.mem_filter.mpr ⟨huy, ho⟩
          have := hn (pap ys u) (List.mem_map.mpr ⟨u, hmf, rfl⟩)
          rw [ih u hmf, hfu] at this
          exact absurd rfl this
    · intro ha x hx
      obtain ⟨u, hu, rfl⟩ := List.mem_map.mp hx
      rw [ih u hu]
      obtain ⟨h1, h2⟩ := List.mem_filter.mp hu
      have := ha u (h.mem u h1).1
      rw [h2, Bool.true_and] at this
      simpa using this
theorem pap_yes {n : Nat} {es : List En} {d k : Int} {ys : List En} (h : Oa n es d k ys) {e : En} (he : e ∈ ys) : isYesD (pap ys e) = frc es d k e := pap_yesF h _ e he (Nat.le_refl _)
/-- in force: all papers of the undones are noes -/
theorem pap_is {n : Nat} {es : List En} {d k : Int} {ys : List En} (h : Oa n es d k ys) {e : En} (he : e ∈ ys) (hf : frc es d k e = true) : pap ys e = .tup [.str "yes", .int e.num, .tup ((ys.filter (isOn "undone" e.num)).map (pap ys))] := by
  have h1 := pap_yes h he
  rw [hf, pap_eq h he, yes_papO, List.isEmpty_iff] at h1
  rw [pap_eq h he]
  unfold papO
  rw [h1]
theorem pap_not {n : Nat} {es : List En} {d k : Int} {ys : List En} (h : Oa n es d k ys) {e : En} (he : e ∈ ys) (hf : frc es d k e = false) : ∃ u r, (ys.filter (isOn "undone" e.num)).filter (frc es d k) = u :: r ∧ pap ys e = .tup [.str "no", .int e.num, pap ys u] := by
  have h1 := pap_yes h he
  rw [hf, pap_eq h he, yes_papO] at h1
  have ef : ((ys.filter (isOn "undone" e.num)).map (pap ys)).filter isYesD = ((ys.filter (isOn "undone" e.num)).filter (frc es d k)).map (pap ys) := by
    rw [List.filter_map]
    congr 1
    refine List.filter_congr fun u hu => ?_
    exact pap_yes h (List.mem_filter.mp hu).1
  rw [ef] at h1
  cases hc : (ys.filter (isOn "undone" e.num)).filter (frc es d k) with
  | nil => rw [hc] at h1; cases h1
  | cons u r =>
    refine ⟨u, r, rfl, ?_⟩
    rw [pap_eq h he]
    unfold papO
    rw [ef, hc]
    rfl
/-! ### whether a thing is a yes, a no -/
def Dat.at (x : Dat) (i : Nat) : Dat := match x with
  | .tup xs => xs.getD i .non
  | _ => .non
def headD (x : Dat) (sz : Nat) (w : Str) (m : Int) : Bool := match x with
  | .tup (.str a :: .int b :: r) => decide (r.length + 2 = sz) && (decide (a = w) && decide (b = m))
  | _ => false
def holdF (ys : List En) : Nat → Bool → En → Dat → Bool
  | 0, _, _, _ => false
  | f + 1, true, e, x => headD x 3 "yes" e.num && (match x.at 2 with
    | .tup ps => decide (ps.length = (ys.filter (isOn "undone" e.num)).length) && ((ys.filter (isOn "undone" e.num)).zip ps).all fun z => holdF ys f false z.1 z.2
    | _ => false)
  | f + 1, false, e, x => headD x 3 "no" e.num && (ys.filter (isOn "undone" e.num)).any fun u => holdF ys f true u (x.at 2)
def hold (ys : List En) (b : Bool) (e : En) (x : Dat) : Bool := holdF ys (31 - e.num).toNat b e x
theorem zip_all_congr {α β : Type} {p q : α × β → Bool} : ∀ {l : List α} {m : List β}, (∀ a ∈ l, ∀ b, p (a, b) = q (a, b)) → (l.zip m).all p = (l.zip m).all q
  | [], _, _ => rfl
  | _ :: _, [], _ => rfl
  | a :: l, b :: m, h => by
    rw [List.zip_cons_cons, List.all_cons, List.all_cons, h a List.mem_cons_self b, zip_all_congr fun x hx b => h x (List.mem_cons_of_mem _ hx) b]
theorem holdF_one {n : Nat} {es : List En} {d k : Int} {ys : List En} (h : Oa n es d k ys) : ∀ (f g : Nat) (b : Bool) (e : En) (x : Dat), (31 - e.num).toNat ≤ f → (31 - e.num).toNat ≤ g → e.num ≤ 30 → holdF ys f b e x = holdF ys g b e x
  | 0, _, _, e, _, h1, _, h3 => by omega
  | _ + 1, 0, _, e, _, _, h2, h3 => by omega
  | f + 1, g + 1, true, e, x, h1, h2, h3 => by
    unfold holdF
    congr 1
    cases x.at 2 with
    | tup ps =>
      dsimp only
      congr 1
      refine zip_all_congr fun u hu b => ?_
      obtain ⟨_, a2, a3, a4⟩ := h.undo hu
      exact holdF_one h f g _ u _ (by omega) (by omega) a4
    | _ => rfl
  | f + 1, g + 1, false, e, x, h1, h2, h3 => by
    unfold holdF
    congr 1
    refine any_congr fun u hu => ?_
    obtain ⟨_, a2, a3, a4⟩ := h.undo hu
    exact holdF_one h f g _ u _ (by omega) (by omega) a4
/-- rows of noes -/
def nosD (ys us : List En) (x : Dat) : Bool := match x with
  | .tup ps => decide (ps.length = us.length) && (us.zip ps).all fun z => hold ys false z.1 z.2
  | _ => false
def someYes (ys us : List En) (x : Dat) : Bool := us.any fun u => hold ys true u x
theorem hold_yes {n : Nat} {es : List En} {d k : Int} {ys : List En} (h : Oa n es d k ys) {e : En} (he : e ∈ ys) (x : Dat) : hold ys true e x = (headD x 3 "yes" e.num && nosD ys (ys.filter (isOn "undone" e.num)) (x.at 2)) := by
  have hr := h.bk.rng e (h.mem e he).1
  unfold hold
  obtain ⟨f, hf⟩ : ∃ f, (31 - e.num).toNat = f + 1 := ⟨(31 - e.num).toNat - 1, by omega⟩
  rw [hf]
  unfold holdF nosD
  congr 1
  cases x.at 2 with
  | tup ps =>
    dsimp only
    congr 1
    refine zip_all_congr fun u hu b => ?_
    obtain ⟨_, a2, a3, a4⟩ := h.undo hu
    exact holdF_one h _ _ _ u _ (by omega) (Nat.le_refl _) a4
  | _ => rfl
theorem hold_no {n : Nat} {es : List En} {d k : Int} {ys : List En} (h : Oa n es d k ys) {e : En} (he : e ∈ ys) (x : Dat) : hold ys false e x = (headD x 3 "no" e.num && someYes ys (ys.filter (isOn "undone" e.num)) (x.at 2)) := by
  have hr := h.bk.rng e (h.mem e he).1
  unfold hold
  obtain ⟨f, hf⟩ : ∃ f, (31 - e.num).toNat = f + 1 := ⟨(31 - e.num).toNat - 1, by omega⟩
  rw [hf]
  unfold holdF someYes
  congr 1
  refine any_congr fun u hu => ?_
  obtain ⟨_, a2, a3, a4⟩ := h.undo hu
  exact holdF_one h _ _ _ u _ (by omega) (Nat.le_refl _) a4
theorem zip_map_all {α β : Type} {f : α → β} {p : α × β → Bool} : ∀ {l : List α}, (∀ a ∈ l, p (a, f a) = true) → (l.zip (l.map f)).all p = true
  | [], _ => rfl
  | a :: l, h => by
    rw [List.map_cons, List.zip_cons_cons, List.all_cons, h a List.mem_cons_self, zip_map_all fun x hx => h x (List.mem_cons_of_mem _ hx)]
    rfl
/-- the told papers hold -/
theorem hold_papF {n : Nat} {es : List En} {d k : Int} {ys : List En} (h : Oa n es d k ys) : ∀ (f : Nat) (e : En), e ∈ ys → (31 - e.num).toNat ≤ f → hold ys (frc es d k e) e (pap ys e) = true
  | 0, e, he, hf => by
    have hr := h.bk.rng e (h.mem e he).1
    omega
  | f + 1, e, he, hf => by
    cases hc : frc es d k e with
    | true =>
      rw [hold_yes h he, pap_is h he hc]
      show ((decide (1 + 2 = 3) && (decide (("yes" : Str) = "yes") && decide (e.num = e.num))) && _) = true
      rw [decide_eq_true rfl, decide_eq_true rfl, decide_eq_true rfl]
      show nosD ys _ (.tup _) = true
      unfold nosD
      dsimp only
      rw [List.length_map, decide_eq_true rfl, Bool.true_and]
      refine zip_map_all fun u hu => ?_
      obtain ⟨a1, a2, a3, a4⟩ := h.undo hu
      have := hold_papF h f u a1 (by omega)
      have hnf : frc es d k u = false := by
        have h1 := pap_yes h he
        rw [hc, pap_eq h he, yes_papO, List.isEmpty_iff, List.filter_eq_nil_iff] at h1
        have := h1 _ (List.mem_map.mpr ⟨u, hu, rfl⟩)
        rw [pap_yes h a1] at this
        simpa using this
      rw [hnf] at this
      exact this
    | false =>
      obtain ⟨u, r, hu, e1⟩ := pap_not h he hc
      rw [hold_no h he, e1]
      show ((decide (1 + 2 = 3) && (decide (("no" : Str) = "no") && decide (e.num = e.num))) && _) = true
      rw [decide_eq_true rfl, decide_eq_true rfl, decide_eq_true rfl]
      show someYes ys _ (pap ys u) = true
      unfold someYes
      have hm : u ∈ (ys.filter (isOn "undone" e.num)).filter (frc es d k) := by rw [hu]; exact List.mem_cons_self
      obtain ⟨h1, h2⟩ := List.mem_filter.mp hm
      obtain ⟨a1, a2, a3, a4⟩ := h.undo h1
      have := hold_papF h f u a1 (by omega)
      rw [h2] at this
      exact List.any_eq_true.mpr ⟨u, h1, this⟩
theorem hold_pap {n : Nat} {es : List En} {d k : Int} {ys : List En} (h : Oa n es d k ys) {e : En} (he : e ∈ ys) : hold ys (frc es d k e) e (pap ys e) = true := hold_papF h _ e he (Nat.le_refl _)
/-- what holds is so -/
theorem hold_soundF {n : Nat} {es : List En} {d k : Int} {ys : List En} (h : Oa n es d k ys) : ∀ (f : Nat) (b : Bool) (e : En) (x : Dat), e ∈ ys → (31 - e.num).toNat ≤ f → hold ys b e x = true → frc es d k e = b
  | 0, b, e, x, he, hf, _ => by
    have hr := h.bk.rng e (h.mem e he).1
    omega
  | f + 1, true, e, x, he, hf, hh => by
    rw [hold_yes h he, Bool.and_eq_true] at hh
    have hm := h.mem e he
    rw [frc_eq h.bk d k hm.1, hm.2.2, Bool.true_and, List.all_eq_true]
    intro u hu
    cases ho : isOn "undone" e.num u with
    | false => rfl
    | true =>
      cases hfu : frc es d k u with
      | false => rfl
      | true =>
        exfalso
        have hop := frc_open h.bk hu hfu
        obtain ⟨a1, _, _⟩ := isOn_act (h.bk.ok u hu) (by decide) ho
        have hmf : u ∈ ys.filter (isOn "undone" e.num) := List.mem_filter.mpr ⟨h.all u hu a1 hop, ho⟩
        obtain ⟨b1, b2, b3, b4⟩ := h.undo hmf
        have h2 := hh.2
        unfold nosD at h2
        cases hx : x.at 2 with
        | tup ps =>
          rw [hx] at h2
          dsimp only at h2
          rw [Bool.and_eq_true, List.all_eq_true] at h2
          have hl := of_decide_eq_true h2.1
          obtain ⟨i, hi⟩ := List.getElem?_of_mem hmf
          have hil : i < ps.length := by
            have := (List.getElem?_eq_some_iff.mp hi).1
            omega
          have hz : (u, ps[i]) ∈ (ys.filter (isOn "undone" e.num)).zip ps := List.mem_of_getElem? (i := i) (by
            rw [List.getElem?_zip_eq_some]
            exact ⟨hi, List.getElem?_eq_getElem hil⟩)
          have := hold_soundF h f false u _ b1 (by omega) (h2.2 _ hz)
          rw [hfu] at this
          cases this
        | non => rw [hx] at h2; cases h2
        | bl _ => rw [hx] at h2; cases h2
        | int _ => rw [hx] at h2; cases h2
        | str _ => rw [hx] at h2; cases h2
        | oth => rw [hx] at h2; cases h2
  | f + 1, false, e, x, he, hf, hh => by
    rw [hold_no h he, Bool.and_eq_true] at hh
    have hm := h.mem e he
    obtain ⟨u, hu, hy⟩ := List.any_eq_true.mp hh.2
    obtain ⟨b1, b2, b3, b4⟩ := h.undo hu
    have h1 := hold_soundF h f true u _ b1 (by omega) hy
    obtain ⟨_, ho⟩ := List.mem_filter.mp hu
    rw [frc_eq h.bk d k hm.1, hm.2.2, Bool.true_and, List.all_eq_false]
    exact ⟨u, (h.mem u b1).1, by rw [ho, h1]; decide⟩
theorem hold_sound {n : Nat} {es : List En} {d k : Int} {ys : List En} (h : Oa n es d k ys) {b : Bool} {e : En} {x : Dat} (he : e ∈ ys) (hh : hold ys b e x = true) : frc es d k e = b := hold_soundF h _ b e x he (Nat.le_refl _) hh
/-! ### texts, depth -/
theorem pap_okF {n : Nat} {es : List En} {d k : Int} {ys : List En} (h : Oa n es d k ys) : ∀ (f : Nat) (e : En), e ∈ ys → (31 - e.num).toNat ≤ f → (pap ys e).okD = true
  | 0, e, he, hf => by
    have hr := h.bk.rng e (h.mem e he).1
    omega
  | f + 1, e, he, hf => by
    have ih : ∀ u ∈ ys.filter (isOn "undone" e.num), (pap ys u).okD = true := fun u hu => by
      obtain ⟨a1, a2, a3, a4⟩ := h.undo hu
      exact pap_okF h f u a1 (by omega)
    cases hc : frc es d k e with
    | true =>
      rw [pap_is h he hc]
      have h1 : Dat.okAll ((ys.filter (isOn "undone" e.num)).map (pap ys)) = true := okAll_of fun x hx => by
        obtain ⟨u, hu, rfl⟩ := List.mem_map.mp hx
        exact ih u hu
      simp only [Dat.okD, Dat.okAll, h1, Bool.and_true]
      decide +kernel
    | false =>
      obtain ⟨u, r, hu, e1⟩ := pap_not h he hc
      have hm : u ∈ (ys.filter (isOn "undone" e.num)).filter (frc es d k) := by rw [hu]; exact List.mem_cons_self
      have h1 := ih u (List.mem_filter.mp hm).1
      rw [e1]
      simp only [Dat.okD, Dat.okAll, h1, Bool.and_true]
      decide +kernel
theorem pap_ok {n : Nat} {es : List En} {d k : Int} {ys : List En} (h : Oa n es d k ys) {e : En} (he : e ∈ ys) : (pap ys e).okD = true := pap_okF h _ e he (Nat.le_refl _)
/-- how many of them stand from e on -/
def from_ (ys : List En) (e : En) : Nat := (ys.filter fun u => decide (e.num ≤ u.num)).length
theorem from_lt {ys : List En} {e u : En} (he : e ∈ ys) (hlt : e.num < u.num) : from_ ys u + 1 ≤ from_ ys e := by
  unfold from_
  have h1 : (ys.filter fun x => decide (u.num ≤ x.num)).Sublist (ys.filter fun x => decide (e.num ≤ x.num)) := by
    have : (ys.filter fun x => decide (u.num ≤ x.num)) = (ys.filter fun x => decide (e.num ≤ x.num)).filter fun x => decide (u.num ≤ x.num) := by
      rw [List.filter_filter]
      refine List.filter_congr fun x _ => ?_
      by_cases hx : u.num ≤ x.num
      · simp [hx, show e.num ≤ x.num by omega]
      · simp [hx]
    rw [this]
    exact List.filter_sublist
  rcases Nat.lt_or_ge (ys.filter fun x => decide (u.num ≤ x.num)).length (ys.filter fun x => decide (e.num ≤ x.num)).length with hl | hl
  · exact hl
  · have e2 := h1.eq_of_length_le hl
    have hm : e ∈ ys.filter fun x => decide (e.num ≤ x.num) := List.mem_filter.mpr ⟨he, decide_eq_true (Int.le_refl _)⟩
    rw [← e2] at hm
    have := of_decide_eq_true (List.mem_filter.mp hm).2
    omega
theorem pap_depF {n : Nat} {es : List En} {d k : Int} {ys : List En} (h : Oa n es d k ys) : ∀ (f : Nat) (e : En), e ∈ ys → (31 - e.num).toNat ≤ f → (pap ys e).dep ≤ 2 * from_ ys e
  | 0, e, he, hf => by
    have hr := h.bk.rng e (h.mem e he).1
    omega
  | f + 1, e, he, hf => by
    have ih : ∀ u ∈ ys.filter (isOn "undone" e.num), (pap ys u).dep + 2 ≤ 2 * from_ ys e := fun u hu => by
      obtain ⟨a1, a2, a3, a4⟩ := h.undo hu
      have := pap_depF h f u a1 (by omega)
      have := from_lt he a2
      omega
    have hp : 1 ≤ from_ ys e := List.length_pos_of_mem (List.mem_filter.mpr ⟨he, decide_eq_true (Int.le_refl _)⟩)
    cases hc : frc es d k e with
    | true =>
      rw [pap_is h he hc]
      have h1 : Dat.depAll ((ys.filter (isOn "undone" e.num)).map (pap ys)) ≤ 2 * from_ ys e - 2 := depAll_of fun x hx => by
        obtain ⟨u, hu, rfl⟩ := List.mem_map.mp hx
        have := ih u hu
        omega
      simp only [Dat.dep, Dat.depAll]
      omega
    | false =>
      obtain ⟨u, r, hu, e1⟩ := pap_not h he hc
      have hm : u ∈ (ys.filter (isOn "undone" e.num)).filter (frc es d k) := by rw [hu]; exact List.mem_cons_self
      have h1 := ih u (List.mem_filter.mp hm).1
      rw [e1]
      simp only [Dat.dep, Dat.depAll]
      omega
theorem pap_dep {n : Nat} {es : List En} {d k : Int} {ys : List En} (h : Oa n es d k ys) {e : En} (he : e ∈ ys) : (pap ys e).dep ≤ 2 * ys.length := by
  have h1 := pap_depF h _ e he (Nat.le_refl _)
  have h2 : from_ ys e ≤ ys.length := List.length_filter_le _ _
  omega
end Deed

namespace Deed
open PySem PySem.Spec PyProof.Rows L2 LamX
/-! ### whys -/
def fy (ys us : List En) : Dat := ((us.map (pap ys)).filter isYesD).headD .non
def lostD : Dat → Bool
  | .tup (.str w :: _) => !carries w
  | _ => true
abbrev voids (ys : List En) (e : En) : List En := ys.filter (isOn "void" e.num)
abbrev paids (ys : List En) (e : En) : List En := ys.filter (isOn "paid" e.num)
abbrev both (ys : List En) (e : En) : List En := ys.filter fun u => isOn "void" e.num u || isOn "paid" e.num u
def whyO (ys : List En) (w : Str) (e : En) (below : List Dat) : Dat :=
  if w = "void" then .tup [.str "void", .int e.num, fy ys (voids ys e)]
  else if w = "fallen" then .tup [.str "fallen", .int e.num, (below.filter lostD).headD .non]
  else if w = "paid" then .tup [.str "paid", .int e.num, .tup ((voids ys e).map (pap ys)), .tup below, fy ys (paids ys e)]
  else if w = "stands" then .tup [.str "stands", .int e.num, .tup ((both ys e).map (pap ys)), .tup below]
  else .tup [.str w, .int e.num]
def whyN (es ys : List En) (d k : Int) : Nat → Int → Dat
  | 0, _ => .non
  | f + 1, m => match es.find? (isD m) with
    | some e => whyO ys (st es d k e) e (e.rests.map (whyN es ys d k f))
    | none => .non
def why (es ys : List En) (d k : Int) (m : Int) : Dat := whyN es ys d k (m.toNat + 1) m
theorem find_deed {n : Nat} {es : List En} (hB : BkOk n es) {e : En} (he : e ∈ es) (hd : e.isDeed = true) : es.find? (isD e.num) = some e := by
  cases hf : es.find? (isD e.num) with
  | none =>
    rw [List.find?_eq_none] at hf
    exact absurd (show isD e.num e = true by unfold isD; rw [hd]; simp) (hf e he)
  | some u =>
    have h1 := List.find?_some hf
    have h2 := List.mem_of_find?_eq_some hf
    unfold isD at h1
    rw [Bool.and_eq_true] at h1
    rw [num_inj hB h2 he (of_decide_eq_true h1.2)]
theorem rest_deed {n : Nat} {es : List En} (hB : BkOk n es) {e : En} (he : e ∈ es) {r : Int} (hr : r ∈ e.rests) : ∃ u ∈ es, u.isDeed = true ∧ u.num = r ∧ r < e.num := by
  obtain ⟨h1, h2⟩ := (hB.ok e he).rest r hr
  obtain ⟨u, a, b, c⟩ := dn_at h1
  exact ⟨u, a, b, c, h2⟩
theorem whyN_one {n : Nat} {es : List En} (hB : BkOk n es) (ys : List En) (d k : Int) : ∀ (f g : Nat) (m : Int), m.toNat + 1 ≤ f → m.toNat + 1 ≤ g → whyN es ys d k f m = whyN es ys d k g m
  | 0, _, m, h, _ => by omega
  | _ + 1, 0, m, _, h => by omega
  | f + 1, g + 1, m, h1, h2 => by
    unfold whyN
    cases hf : es.find? (isD m) with
    | none => rfl
    | some e =>
      have he := List.mem_of_find?_eq_some hf
      have hm := List.find?_some hf
      unfold isD at hm
      rw [Bool.and_eq_true] at hm
      have hn : e.num = m := of_decide_eq_true hm.2
      dsimp only
      congr 1
      refine List.map_congr_left fun r hr => ?_
      obtain ⟨u, hu, _, hun, hlt⟩ := rest_deed hB he hr
      have := hB.rng u hu
      exact whyN_one hB ys d k f g r (by omega) (by omega)
theorem why_eq {n : Nat} {es : List En} (hB : BkOk n es) (ys : List En) (d k : Int) {e : En} (he : e ∈ es) (hd : e.isDeed = true) : why es ys d k e.num = whyO ys (st es d k e) e (e.rests.map (why es ys d k)) := by
  show (match es.find? (isD e.num) with
    | some e' => whyO ys (st es d k e') e' (e'.rests.map (whyN es ys d k e.num.toNat))
    | none => .non) = _
  rw [find_deed hB he hd]
  dsimp only
  congr 1
  refine List.map_congr_left fun r hr => ?_
  obtain ⟨u, hu, _, hun, hlt⟩ := rest_deed hB he hr
  have := hB.rng u hu
  exact whyN_one hB ys d k _ _ r (by omega) (Nat.le_refl _)
theorem whyO_head (ys : List En) (w : Str) (e : En) (below : List Dat) : ∃ r, whyO ys w e below = .tup (.str w :: .int e.num :: r) := by
  unfold whyO
  by_cases h1 : w = "void"
  · rw [if_pos h1, h1]; exact ⟨_, rfl⟩
  rw [if_neg h1]
  by_cases h2 : w = "fallen"
  · rw [if_pos h2, h2]; exact ⟨_, rfl⟩
  rw [if_neg h2]
  by_cases h3 : w = "paid"
  · rw [if_pos h3, h3]; exact ⟨_, rfl⟩
  rw [if_neg h3]
  by_cases h4 : w = "stands"
  · rw [if_pos h4, h4]; exact ⟨_, rfl⟩
  rw [if_neg h4]
  exact ⟨_, rfl⟩
theorem why_lost {n : Nat} {es : List En} (hB : BkOk n es) (ys : List En) (d k : Int) {e : En} (he : e ∈ es) (hd : e.isDeed = true) : lostD (why es ys d k e.num) = !carries (st es d k e) := by
  rw [why_eq hB ys d k he hd]
  obtain ⟨r, h⟩ := whyO_head ys (st es d k e) e (e.rests.map (why es ys d k))
  rw [h]
  rfl
/-! ### what a word tells -/
def restLost (es : List En) (d k : Int) (r : Int) : Bool := es.any fun u => isD r u && !carries (st es d k u)
theorem st_cases {n : Nat} {es : List En} (hB : BkOk n es) (d k : Int) {e : En} (he : e ∈ es) :
    (st es d k e = "unknown" ∧ e.wri > k) ∨ (st es d k e = "ahead" ∧ e.wri ≤ k ∧ e.day > d) ∨ (st es d k e = "void" ∧ anyF es d k "void" e.num = true) ∨
    (st es d k e = "fallen" ∧ anyF es d k "void" e.num = false ∧ e.rests.any (restLost es d k) = true) ∨
    (st es d k e = "paid" ∧ anyF es d k "void" e.num = false ∧ e.rests.any (restLost es d k) = false ∧ anyF es d k "paid" e.num = true) ∨
    (st es d k e = "stands" ∧ anyF es d k "void" e.num = false ∧ e.rests.any (restLost es d k) = false ∧ anyF es d k "paid" e.num = false) := by
  rw [st_eq hB d k he]
  unfold wordBy
  by_cases h1 : e.wri > k
  · rw [if_pos h1]; exact .inl ⟨rfl, h1⟩
  rw [if_neg h1]
  by_cases h2 : e.day > d
  · rw [if_pos h2]; exact .inr (.inl ⟨rfl, by omega, h2⟩)
  rw [if_neg h2]
  show _ ∨ _ ∨ _ ∨ (_ ∧ _ ∧ (e.rests.any fun r => es.any fun u => isD r u && !carries (st es d k u)) = true) ∨ (_ ∧ _ ∧ (e.rests.any fun r => es.any fun u => isD r u && !carries (st es d k u)) = false ∧ _) ∨ (_ ∧ _ ∧ (e.rests.any fun r => es.any fun u => isD r u && !carries (st es d k u)) = false ∧ _)
  cases h3 : anyF es d k "void" e.num with
  | true => exact .inr (.inr (.inl ⟨rfl, rfl⟩))
  | false =>
    cases h4 : (e.rests.any fun r => es.any fun u => isD r u && !carries (st es d k u)) with
    | true => exact .inr (.inr (.inr (.inl ⟨rfl, rfl, rfl⟩)))
    | false =>
      cases h5 : anyF es d k "paid" e.num with
      | true => exact .inr (.inr (.inr (.inr (.inl ⟨rfl, rfl, rfl, rfl⟩))))
      | false => exact .inr (.inr (.inr (.inr (.inr ⟨rfl, rfl, rfl, rfl⟩))))
theorem Oa.any {n : Nat} {es : List En} {d k : Int} {ys : List En} (h : Oa n es d k ys) {x : Str} (hx : x ≠ "deed") (m : Int) : anyF es d k x m = (ys.filter (isOn x m)).any (frc es d k) := by
  unfold anyF
  rw [Bool.eq_iff_iff, List.any_eq_true, List.any_eq_true]
  constructor
  · rintro ⟨u, hu, hh⟩
    rw [Bool.and_eq_true] at hh
    obtain ⟨a1, _, _⟩ := isOn_act (h.bk.ok u hu) hx hh.1
    exact ⟨u, List.mem_filter.mpr ⟨h.all u hu a1 (frc_open h.bk hu hh.2), hh.1⟩, hh.2⟩
  · rintro ⟨u, hu, hh⟩
    obtain ⟨h1, h2⟩ := List.mem_filter.mp hu
    exact ⟨u, (h.mem u h1).1, by rw [h2, hh]; rfl⟩
theorem yes_filter {n : Nat} {es : List En} {d k : Int} {ys : List En} (h : Oa n es d k ys) {us : List En} (hs : ∀ u ∈ us, u ∈ ys) : (us.map (pap ys)).filter isYesD = (us.filter (frc es d k)).map (pap ys) := by
  rw [List.filter_map]
  congr 1
  exact List.filter_congr fun u hu => pap_yes h (hs u hu)
theorem fy_is {n : Nat} {es : List En} {d k : Int} {ys : List En} (h : Oa n es d k ys) {us : List En} (hs : ∀ u ∈ us, u ∈ ys) (ha : us.any (frc es d k) = true) : ∃ u r, us.filter (frc es d k) = u :: r ∧ u ∈ us ∧ u ∈ ys ∧ frc es d k u = true ∧ fy ys us = pap ys u := by
  cases hc : us.filter (frc es d k) with
  | nil =>
    obtain ⟨u, hu, hh⟩ := List.any_eq_true.mp ha
    have : u ∈ us.filter (frc es d k) := List.mem_filter.mpr ⟨hu, hh⟩
    rw [hc] at this
    cases this
  | cons u r =>
    have hm : u ∈ us.filter (frc es d k) := by rw [hc]; exact List.mem_cons_self
    obtain ⟨h1, h2⟩ := List.mem_filter.mp hm
    refine ⟨u, r, rfl, h1, hs u h1, h2, ?_⟩
    unfold fy
    rw [yes_filter h hs, hc]
    rfl
theorem restLost_at {n : Nat} {es : List En} (hB : BkOk n es) (d k : Int) {u : En} (hu : u ∈ es) (hd : u.isDeed = true) : restLost es d k u.num = !carries (st es d k u) := lost_one hB d k hu hd rfl
theorem lost_filter {n : Nat} {es : List En} (hB : BkOk n es) (ys : List En) (d k : Int) {e : En} (he : e ∈ es) : (e.rests.map (why es ys d k)).filter lostD = (e.rests.filter (restLost es d k)).map (why es ys d k) := by
  rw [List.filter_map]
  congr 1
  refine List.filter_congr fun r hr => ?_
  obtain ⟨u, hu, hd, hn, _⟩ := rest_deed hB he hr
  subst hn
  show lostD (why es ys d k u.num) = _
  rw [why_lost hB ys d k hu hd, restLost_at hB d k hu hd]
/-! ### whether a thing is a why -/
def sizeW (w : Str) : Nat := if w = "void" ∨ w = "fallen" then 3 else if w = "paid" then 5 else if w = "stands" then 4 else 2
def whysD (p : Int → Dat → Bool) (rs : List Int) (x : Dat) : Bool := match x with
  | .tup ps => decide (ps.length = rs.length) && (rs.zip ps).all fun z => p z.1 z.2
  | _ => false
def whyB (es ys : List En) (d k : Int) (p : Int → Dat → Bool) (w : Str) (e : En) (x : Dat) : Bool :=
  headD x (sizeW w) w e.num &&
    (if w = "void" then someYes ys (voids ys e) (x.at 2)
     else if w = "fallen" then (e.rests.filter (restLost es d k)).any fun r => p r (x.at 2)
     else if w = "paid" then nosD ys (voids ys e) (x.at 2) && (whysD p e.rests (x.at 3) && someYes ys (paids ys e) (x.at 4))
     else if w = "stands" then nosD ys (both ys e) (x.at 2) && whysD p e.rests (x.at 3)
     else true)
def whyHN (es ys : List En) (d k : Int) : Nat → Int → Dat → Bool
  | 0, _, _ => false
  | f + 1, m, x => match es.find? (isD m) with
    | some e => whyB es ys d k (whyHN es ys d k f) (st es d k e) e x
    | none => false
def whyH (es ys : List En) (d k : Int) (m : Int) (x : Dat) : Bool := whyHN es ys d k (m.toNat + 1) m x
theorem whysD_congr {p q : Int → Dat → Bool} {rs : List Int} (h : ∀ r ∈ rs, ∀ x, p r x = q r x) (x : Dat) : whysD p rs x = whysD q rs x := by
  unfold whysD
  cases x with
  | tup ps =>
    dsimp only
    congr 1
    exact zip_all_congr fun r hr b => h r hr b
  | _ => rfl
theorem whyB_congr {es ys : List En} {d k : Int} {p q : Int → Dat → Bool} {w : Str} {e : En} (h : ∀ r ∈ e.rests, ∀ x, p r x = q r x) (x : Dat) : whyB es ys d k p w e x = whyB es ys d k q w e x := by
  unfold whyB
  rw [whysD_congr h, any_congr (p := fun r => p r (x.at 2)) (q := fun r => q r (x.at 2)) (l := e.rests.filter (restLost es d k)) fun r hr => h r (List.mem_filter.mp hr).1 _]
theorem whyHN_one {n : Nat} {es : List En} (hB : BkOk n es) (ys : List En) (d k : Int) : ∀ (f g : Nat) (m : Int) (x : Dat), m.toNat + 1 ≤ f → m.toNat + 1 ≤ g → whyHN es ys d k f m x = whyHN es ys d k g m x
  | 0, _, m, _, h, _ => by omega
  | _ + 1, 0, m, _, _, h => by omega
  | f + 1, g + 1, m, x, h1, h2 => by
    unfold whyHN
    cases hf : es.find? (isD m) with
    | none => rfl
    | some e =>
      have he := List.mem_of_find?_eq_some hf
      have hm := List.find?_some hf
      unfold isD at hm
      rw [Bool.and_eq_true] at hm
      have hn : e.num = m := of_decide_eq_true hm.2
      refine whyB_congr (fun r hr y => ?_) x
      obtain ⟨u, hu, _, hun, hlt⟩ := rest_deed hB he hr
      have := hB.rng u hu
      exact whyHN_one hB ys d k f g r y (by omega) (by omega)
theorem whyH_eq {n : Nat} {es : List En} (hB : BkOk n es) (ys : List En) (d k : Int) {e : En} (he : e ∈ es) (hd : e.isDeed = true) (x : Dat) : whyH es ys d k e.num x = whyB es ys d k (whyH es ys d k) (st es d k e) e x := by
  show (match es.find? (isD e.num) with
    | some e' => whyB es ys d k (whyHN es ys d k e.num.toNat) (st es d k e') e' x
    | none => false) = _
  rw [find_deed hB he hd]
  refine whyB_congr (fun r hr y => ?_) x
  obtain ⟨u, hu, _, hun, hlt⟩ := rest_deed hB he hr
  have := hB.rng u hu
  exact whyHN_one hB ys d k _ _ r y (by omega) (Nat.le_refl _)
theorem nosD_pap {n : Nat} {es : List En} {d k : Int} {ys : List En} (h : Oa n es d k ys) {us : List En} (hs : ∀ u ∈ us, u ∈ ys) (hn : ∀ u ∈ us, frc es d k u = false) : nosD ys us (.tup (us.map (pap ys))) = true := by
  unfold nosD
  dsimp only
  rw [List.length_map, decide_eq_true rfl, Bool.true_and]
  refine zip_map_all fun u hu => ?_
  have := hold_pap h (hs u hu)
  rw [hn u hu] at this
  exact this
theorem someYes_fy {n : Nat} {es : List En} {d k : Int} {ys : List En} (h : Oa n es d k ys) {us : List En} (hs : ∀ u ∈ us, u ∈ ys) (ha : us.any (frc es d k) = true) : someYes ys us (fy ys us) = true := by
  obtain ⟨u, r, _, h1, h2, h3, h4⟩ := fy_is h hs ha
  rw [h4]
  unfold someYes
  have := hold_pap h h2
  rw [h3] at this
  exact List.any_eq_true.mpr ⟨u, h1, this⟩
theorem any_false {α : Type} {l : List α} {p : α → Bool} (h : l.any p = false) : ∀ x ∈ l, p x = false := fun x hx => by
  rw [List.any_eq_false] at h
  simpa using h x hx
theorem neW : ¬ (("unknown" : Str) = "void") ∧ ¬ (("unknown" : Str) = "fallen") ∧ ¬ (("unknown" : Str) = "paid") ∧ ¬ (("unknown" : Str) = "stands") ∧ ¬ (("ahead" : Str) = "void") ∧ ¬ (("ahead" : Str) = "fallen") ∧ ¬ (("ahead" : Str) = "paid") ∧ ¬ (("ahead" : Str) = "stands") ∧ ¬ (("void" : Str) = "fallen") ∧ ¬ (("void" : Str) = "paid") ∧ ¬ (("void" : Str) = "stands") ∧ ¬ (("fallen" : Str) = "void") ∧ ¬ (("fallen" : Str) = "paid") ∧ ¬ (("fallen" : Str) = "stands") ∧ ¬ (("paid" : Str) = "void") ∧ ¬ (("paid" : Str) = "fallen") ∧ ¬ (("paid" : Str) = "stands") ∧ ¬ (("stands" : Str) = "void") ∧ ¬ (("stands" : Str) = "fallen") ∧ ¬ (("stands" : Str) = "paid") := by decide
theorem whyH_whyF {n : Nat} {es : List En} {d k : Int} {ys : List En} (h : Oa n es d k ys) : ∀ (f : Nat) (e : En), e ∈ es → e.isDeed = true → e.num.toNat + 1 ≤ f → whyH es ys d k e.num (why es ys d k e.num) = true
  | 0, e, _, _, hf => by omega
  | f + 1, e, he, hd, hf => by
    have hB := h.bk
    have hsv : ∀ u ∈ voids ys e, u ∈ ys := fun u hu => (List.mem_filter.mp hu).1
    have hsp : ∀ u ∈ paids ys e, u ∈ ys := fun u hu => (List.mem_filter.mp hu).1
    have ih : ∀ r ∈ e.rests, whyH es ys d k r (why es ys d k r) = true := fun r hr => by
      obtain ⟨u, hu, hud, hun, hlt⟩ := rest_deed hB he hr
      subst hun
      have := hB.rng u hu
      have := hB.rng e he
      exact whyH_whyF h f u hu hud (by omega)
    have hw : whysD (whyH es ys d k) e.rests (.tup (e.rests.map (why es ys d k))) = true := by
      unfold whysD
      dsimp only
      rw [List.length_map, decide_eq_true rfl, Bool.true_and]
      exact zip_map_all fun r hr => ih r hr
    rw [whyH_eq hB ys d k he hd, why_eq hB ys d k he hd]
    rcases st_cases hB d k he with ⟨h1, h2⟩ | ⟨h1, h2⟩ | ⟨h1, h2⟩ | ⟨h1, h2, h3⟩ | ⟨h1, h2, h3, h4⟩ | ⟨h1, h2, h3, h4⟩
    · rw [h1]
      simp [neW, whyB, whyO, headD, sizeW, Dat.at]
    · rw [h1]
      simp [neW, whyB, whyO, headD, sizeW, Dat.at]
    · rw [h1]
      rw [h.any (by decide)] at h2
      have := someYes_fy h hsv h2
      simp [neW, whyB, whyO, headD, sizeW, Dat.at, this]
    · rw [h1]
      cases hc : e.rests.filter (restLost es d k) with
      | nil =>
        obtain ⟨r, hr, hh⟩ := List.any_eq_true.mp h3
        have : r ∈ e.rests.filter (restLost es d k) := List.mem_filter.mpr ⟨hr, hh⟩
        rw [hc] at this
        cases this
      | cons r t =>
        have hm : r ∈ e.rests.filter (restLost es d k) := by rw [hc]; exact List.mem_cons_self
        have h5 := ih r (List.mem_filter.mp hm).1
        simp [neW, whyB, whyO, headD, sizeW, Dat.at, lost_filter hB ys d k he, hc, h5]
    · rw [h1]
      rw [h.any (by decide)] at h2 h4
      have a1 := nosD_pap h hsv (any_false h2)
      have a2 := someYes_fy h hsp h4
      simp [neW, whyB, whyO, headD, sizeW, Dat.at, a1, a2, hw]
    · rw [h1]
      rw [h.any (by decide)] at h2 h4
      have a1 := nosD_pap h (us := both ys e) (fun u hu => (List.mem_filter.mp hu).1) fun u hu => by
        obtain ⟨b1, b2⟩ := List.mem_filter.mp hu
        rw [Bool.or_eq_true] at b2
        rcases b2 with b2 | b2
        · exact any_false h2 u (List.mem_filter.mpr ⟨b1, b2⟩)
        · exact any_false h4 u (List.mem_filter.mpr ⟨b1, b2⟩)
      simp [neW, whyB, whyO, headD, sizeW, Dat.at, a1, hw]
theorem whyH_why {n : Nat} {es : List En} {d k : Int} {ys : List En} (h : Oa n es d k ys) {e : En} (he : e ∈ es) (hd : e.isDeed = true) : whyH es ys d k e.num (why es ys d k e.num) = true := whyH_whyF h _ e he hd (Nat.le_refl _)
/-! ### texts, depth -/
def upTo (es : List En) (e : En) : Nat := (es.filter fun u => decide (u.num ≤ e.num)).length
theorem upTo_lt {es : List En} {e u : En} (he : e ∈ es) (hlt : u.num < e.num) : upTo es u + 1 ≤ upTo es e := by
  unfold upTo
  have h1 : (es.filter fun x => decide (x.num ≤ u.num)).Sublist (es.filter fun x => decide (x.num ≤ e.num)) := by
    have : (es.filter fun x => decide (x.num ≤ u.num)) = (es.filter fun x => decide (x.num ≤ e.num)).filter fun x => decide (x.num ≤ u.num) := by
      rw [List.filter_filter]
      refine List.filter_congr fun x _ => ?_
      by_cases hx : x.num ≤ u.num
      · simp [hx, show x.num ≤ e.num by omega]
      · simp [hx]
    rw [this]
    exact List.filter_sublist
  rcases Nat.lt_or_ge (es.filter fun x => decide (x.num ≤ u.num)).length (es.filter fun x => decide (x.num ≤ e.num)).length with hl | hl
  · exact hl
  · have e2 := h1.eq_of_length_le hl
    have hm : e ∈ es.filter fun x => decide (x.num ≤ e.num) := List.mem_filter.mpr ⟨he, decide_eq_true (Int.le_refl _)⟩
    rw [← e2] at hm
    have := of_decide_eq_true (List.mem_filter.mp hm).2
    omega
/-- right texts, and no deeper than m -/
def Fine (m : Nat) (x : Dat) : Prop := x.okD = true ∧ x.dep ≤ m
theorem Fine.mono {m m' : Nat} {x : Dat} (h : Fine m x) (hm : m ≤ m') : Fine m' x := ⟨h.1, Nat.le_trans h.2 hm⟩
theorem Fine.tup {m : Nat} {l : List Dat} (h : ∀ x ∈ l, Fine m x) : Fine (m + 1) (.tup l) := by
  refine ⟨?_, ?_⟩
  · unfold Dat.okD
    exact okAll_of fun x hx => (h x hx).1
  · unfold Dat.dep
    have := depAll_of (l := l) fun x hx => (h x hx).2
    omega
theorem Fine.str {m : Nat} {x : Str} (h : PyData.strOk x = true) : Fine m (.str x) := ⟨by unfold Dat.okD; exact h, by unfold Dat.dep; omega⟩
theorem Fine.int {m : Nat} {i : Int} : Fine m (.int i) := ⟨rfl, by unfold Dat.dep; omega⟩
theorem pap_fine {n : Nat} {es : List En} {d k : Int} {ys : List En} (h : Oa n es d k ys) {e : En} (he : e ∈ ys) : Fine (2 * ys.length) (pap ys e) := ⟨pap_ok h he, pap_dep h he⟩
theorem two_len {α : Type} (p : α → Bool) : ∀ l : List α, (l.filter p).length + (l.filter fun x => !p x).length = l.length
  | [] => rfl
  | a :: r => by
    have ih := two_len p r
    cases h : p a <;> simp [List.filter_cons, h] <;> omega
theorem why_fineF {n : Nat} {es : List En} {d k : Int} {ys : List En} (h : Oa n es d k ys) : ∀ (f : Nat) (e : En), e ∈ es → e.isDeed = true → e.num.toNat + 1 ≤ f → Fine (2 * upTo (es.filter (·.isDeed)) e + 2 * ys.length) (why es ys d k e.num)
  | 0, e, _, _, hf => by omega
  | f + 1, e, he, hd, hf => by
    have hB := h.bk
    have hp : 1 ≤ upTo (es.filter (·.isDeed)) e := List.length_pos_of_mem (List.mem_filter.mpr ⟨List.mem_filter.mpr ⟨he, hd⟩, decide_eq_true (Int.le_refl _)⟩)
    have ih : ∀ r ∈ e.rests, Fine (2 * upTo (es.filter (·.isDeed)) e + 2 * ys.length - 2) (why es ys d k r) := fun r hr => by
      obtain ⟨u, hu, hud, hun, hlt⟩ := rest_deed hB he hr
      subst hun
      have := hB.rng u hu
      have := hB.rng e he
      have h9 : upTo (es.filter (·.isDeed)) u + 1 ≤ upTo (es.filter (·.isDeed)) e := upTo_lt (List.mem_filter.mpr ⟨he, hd⟩) hlt
      exact (why_fineF h f u hu hud (by omega)).mono (by omega)
    have hpp : ∀ us : List En, (∀ u ∈ us, u ∈ ys) → Fine (2 * upTo (es.filter (·.isDeed)) e + 2 * ys.length - 1) (.tup (us.map (pap ys))) := fun us hus => by
      refine (Fine.tup (m := 2 * ys.length) fun x hx => ?_).mono (by omega)
      obtain ⟨u, hu, rfl⟩ := List.mem_map.mp hx
      exact pap_fine h (hus u hu)
    have hbl : Fine (2 * upTo (es.filter (·.isDeed)) e + 2 * ys.length - 1) (.tup (e.rests.map (why es ys d k))) := by
      refine (Fine.tup (m := 2 * upTo (es.filter (·.isDeed)) e + 2 * ys.length - 2) fun x hx => ?_).mono (by omega)
      obtain ⟨r, hr, rfl⟩ := List.mem_map.mp hx
      exact ih r hr
    have hsv : ∀ u ∈ voids ys e, u ∈ ys := fun u hu => (List.mem_filter.mp hu).1
    have hsp : ∀ u ∈ paids ys e, u ∈ ys := fun u hu => (List.mem_filter.mp hu).1
    have hfy : ∀ us : List En, (∀ u ∈ us, u ∈ ys) → us.any (frc es d k) = true → Fine (2 * upTo (es.filter (·.isDeed)) e + 2 * ys.length - 1) (fy ys us) := fun us hus ha => by
      obtain ⟨u, r, _, h1, h2, h3, h4⟩ := fy_is h hus ha
      rw [h4]
      exact (pap_fine h h2).mono (by omega)
    have hfin : ∀ l : List Dat, (∀ x ∈ l, Fine (2 * upTo (es.filter (·.isDeed)) e + 2 * ys.length - 1) x) → Fine (2 * upTo (es.filter (·.isDeed)) e + 2 * ys.length) (.tup l) := fun l hl => (Fine.tup hl).mono (by omega)
    have q0 : ∀ x : Dat, x ∈ ([] : List Dat) → Fine (2 * upTo (es.filter (·.isDeed)) e + 2 * ys.length - 1) x := fun _ hx => nomatch hx
    have qc : ∀ {a : Dat} {l : List Dat}, Fine (2 * upTo (es.filter (·.isDeed)) e + 2 * ys.length - 1) a → (∀ x ∈ l, Fine (2 * upTo (es.filter (·.isDeed)) e + 2 * ys.length - 1) x) → ∀ x ∈ a :: l, Fine (2 * upTo (es.filter (·.isDeed)) e + 2 * ys.length - 1) x := fun ha hl x hx => by
      rcases List.mem_cons.mp hx with rfl | hx
      · exact ha
      · exact hl x hx
    rw [why_eq hB ys d k he hd]
    rcases st_cases hB d k he with ⟨h1, h2⟩ | ⟨h1, h2⟩ | ⟨h1, h2⟩ | ⟨h1, h2, h3⟩ | ⟨h1, h2, h3, h4⟩ | ⟨h1, h2, h3, h4⟩
    · rw [h1]
      exact hfin _ (qc (.str (by decide +kernel)) (qc .int q0))
    · rw [h1]
      exact hfin _ (qc (.str (by decide +kernel)) (qc .int q0))
    · rw [h1]
      rw [h.any (by decide)] at h2
      exact hfin _ (qc (.str (by decide +kernel)) (qc .int (qc (hfy _ hsv h2) q0)))
    · rw [h1]
      refine hfin _ (qc (.str (by decide +kernel)) (qc .int (qc ?_ q0)))
      rw [lost_filter hB ys d k he]
      cases hc : e.rests.filter (restLost es d k) with
      | nil =>
        obtain ⟨r, hr, hh⟩ := List.any_eq_true.mp h3
        have : r ∈ e.rests.filter (restLost es d k) := List.mem_filter.mpr ⟨hr, hh⟩
        rw [hc] at this
        cases this
      | cons r t =>
        have hm : r ∈ e.rests.filter (restLost es d k) := by rw [hc]; exact List.mem_cons_self
        exact (ih r (List.mem_filter.mp hm).1).mono (by omega)
    · rw [h1]
      rw [h.any (by decide)] at h4
      exact hfin _ (qc (.str (by decide +kernel)) (qc .int (qc (hpp _ hsv) (qc hbl (qc (hfy _ hsp h4) q0)))))
    · rw [h1]
      exact hfin _ (qc (.str (by decide +kernel)) (qc .int (qc (hpp _ fun u hu => (List.mem_filter.mp hu).1) (qc hbl q0))))
theorem Oa.len {n : Nat} {es : List En} {d k : Int} {ys : List En} (h : Oa n es d k ys) : (es.filter (·.isDeed)).length + ys.length ≤ es.length := by
  have h1 : (ys.map (·.num)).length ≤ ((es.filter fun e => !e.isDeed).map (·.num)).length := nodup_len (by
    rw [List.nodup_iff_pairwise_ne, List.pairwise_map]
    exact h.up.imp fun h => by omega) fun x hx => by
      obtain ⟨u, hu, rfl⟩ := List.mem_map.mp hx
      have := h.mem u hu
      exact List.mem_map.mpr ⟨u, List.mem_filter.mpr ⟨this.1, by rw [this.2.1]; rfl⟩, rfl⟩
  rw [List.length_map, List.length_map] at h1
  have h2 := two_len (·.isDeed) es
  omega
theorem why_fine {n : Nat} {es : List En} {d k : Int} {ys : List En} (h : Oa n es d k ys) {e : En} (he : e ∈ es) (hd : e.isDeed = true) : Fine (2 * es.length) (why es ys d k e.num) := by
  have h1 := why_fineF h _ e he hd (Nat.le_refl _)
  have h2 := h.len
  have h3 : upTo (es.filter (·.isDeed)) e ≤ (es.filter (·.isDeed)).length := List.length_filter_le _ _
  exact h1.mono (by omega)
theorem pap_fine2 {n : Nat} {es : List En} {d k : Int} {ys : List En} (h : Oa n es d k ys) {e : En} (he : e ∈ ys) : Fine (2 * es.length) (pap ys e) := (pap_fine h he).mono (by have := h.len; omega)
end Deed

namespace Deed
open PySem PySem.Spec PyProof.Rows L2 LamX
mutual
theorem Dat.self : ∀ d : Dat, PyData.eqv d.py d.py = true
  | .non => by simp [Dat.py, PyData.eqv]
  | .bl b => by simp [Dat.py, PyData.eqv]
  | .int i => by simp [Dat.py, PyData.eqv]
  | .str x => by simp [Dat.py, PyData.eqv]
  | .oth => by simp [Dat.py, PyData.eqv]
  | .tup xs => by
    have := Dat.selfAll xs
    simp [Dat.py, PyData.eqv, this]
theorem Dat.selfAll : ∀ ds : List Dat, PyData.eqvAll (Dat.pyAll ds) (Dat.pyAll ds) = true
  | [] => by simp [Dat.pyAll, PyData.eqvAll]
  | d :: r => by
    have h1 := Dat.self d
    have h2 := Dat.selfAll r
    simp [Dat.pyAll, PyData.eqvAll, h1, h2]
end
theorem oa_some {n : Nat} {es : List En} (hB : BkOk n es) (d k : Int) : ∃ ys, Oa n es d k ys := by
  let l := es.filter fun u => !u.isDeed && isOpen d k u
  let ys := l.mergeSort fun a b => decide (a.num ≤ b.num)
  have pm : ys.Perm l := List.mergeSort_perm _ _
  have up : ys.Pairwise (fun a b => decide (a.num ≤ b.num) = true) := List.pairwise_mergeSort (le := fun a b : En => decide (a.num ≤ b.num)) (fun a b c h1 h2 => decide_eq_true (Int.le_trans (of_decide_eq_true h1) (of_decide_eq_true h2))) (fun a b => by
    rcases Int.le_total a.num b.num with h | h
    · rw [decide_eq_true h]; rfl
    · rw [decide_eq_true h, Bool.or_true]) l
  have nd : (ys.map (·.num)).Nodup := by
    rw [(pm.map _).nodup_iff]
    exact (List.filter_sublist.map _).nodup hB.nd
  refine ⟨ys, hB, fun u hu => ?_, fun u hu h1 h2 => ?_, ?_⟩
  · obtain ⟨a1, a2⟩ := List.mem_filter.mp (pm.mem_iff.mp hu)
    rw [Bool.and_eq_true] at a2
    exact ⟨a1, by simpa using a2.1, a2.2⟩
  · exact pm.mem_iff.mpr (List.mem_filter.mpr ⟨hu, by rw [h1, h2]; rfl⟩)
  · rw [List.nodup_iff_pairwise_ne, List.pairwise_map] at nd
    exact (up.and nd).imp fun h => by
      have := of_decide_eq_true h.1
      have := h.2
      omega
end Deed

namespace Deed
open PySem PySem.Spec PyProof.Rows L2 LamX
/-- a list of papers -/
def DatsAt (H : Hp) (as : List (Addr × Dat)) : Prop := ∀ z ∈ as, Da H (.ref z.1) z.2 ∧ ∃ w r, z.2 = .tup (.str w :: r)
theorem DatsAt.same {H H' : Hp} {as : List (Addr × Dat)} (h : DatsAt H as) (s : Same H H') : DatsAt H' as := fun z hz => ⟨(h z hz).1.ext (.of s), (h z hz).2⟩
theorem Da.head {H : Hp} {a : Addr} {w : Str} {r : List Dat} (h : Da H (.ref a) (.tup (.str w :: r))) : ∃ xs, H a = some (.tup (.str w :: xs)) ∧ DaAll H xs r := by
  cases h with
  | tup e h =>
    cases h with
    | cons h1 h2 =>
      cases h1
      exact ⟨_, e, h2⟩
theorem papO_head (n : Int) (ps : List Dat) : ∃ w r, papO n ps = .tup (.str w :: .int n :: r) := by
  unfold papO
  cases ps.filter isYesD with
  | nil => exact ⟨_, _, rfl⟩
  | cons y r => exact ⟨_, _, rfl⟩
theorem pap_head {n : Nat} {es : List En} {d k : Int} {ys : List En} (h : Oa n es d k ys) {e : En} (he : e ∈ ys) : ∃ w r, pap ys e = .tup (.str w :: r) := by
  rw [pap_eq h he]
  obtain ⟨w, r, e⟩ := papO_head e.num ((ys.filter (isOn "undone" e.num)).map (pap ys))
  exact ⟨w, _, e⟩
/-- the papers of us, as a dict -/
def PapD (H : Hp) (pd : Addr) (ys us : List En) : Prop := ∃ ps : List (En × Addr), ps.map (·.1) = us ∧ H pd = some (.dK (ps.map fun z => (Sum.inl z.1.num, V.ref z.2))) ∧ ∀ z ∈ ps, Da H (.ref z.2) (pap ys z.1)
theorem PapD.ext {H H' : Hp} {pd : Addr} {ys us : List En} (h : PapD H pd ys us) (e : ExtN H H') : PapD H' pd ys us := by
  obtain ⟨ps, h1, h2, h3⟩ := h
  exact ⟨ps, h1, e _ _ h2 (fun ps z => by cases z), fun z hz => (h3 z hz).ext e⟩
theorem PapD.get {H : Hp} {pd : Addr} {ys us : List En} (h : PapD H pd ys us) (nd : (us.map (·.num)).Nodup) {u : En} (hu : u ∈ us) : ∃ a, DGet H pd (.int u.num) (some (.ref a)) ∧ Da H (.ref a) (pap ys u) := by
  obtain ⟨ps, rfl, h2, h3⟩ := h
  obtain ⟨z, hz, rfl⟩ := List.mem_map.mp hu
  refine ⟨z.2, ?_, h3 z hz⟩
  have h4 := DGet.k (k := Sum.inl z.1.num) h2
  rw [valV_map (f := fun z : En × Addr => z.1.num) (g := fun z : En × Addr => V.ref z.2) (by rw [List.map_map] at nd; exact nd) hz] at h4
  exact h4
theorem valV_none {kvs : List (Key × V)} {k : Key} (h : ∀ q ∈ kvs, q.1 ≠ k) : valV kvs k = none := by
  unfold valV
  rw [List.find?_eq_none.mpr fun q hq => by simpa using h q hq]
  rfl
section
variable {P : Program} {w : World} {K : PySem.W.Frag} {mg : Str → Option Value} {base : Heap} {T : List (Addr × Str)}
abbrev sPapOver : Stmt := topS 31
abbrev nPapOver : List Str := ["number", "undones", "yeses", "paper"]
abbrev pPapOver : List Str := ["number", "undones"]
theorem scPapOver : FnScope nPapOver pPapOver (defScope sPapOver) := ⟨rfl, rfl, rfl, by decide +kernel, rfl, by decide +kernel, by decide +kernel⟩
def spPapOver : Sp := fun vs H Q _ => ∃ (n : Int) (l : Addr) (as : List (Addr × Dat)), vs = [.int n, .ref l] ∧ H l = some (.lst (as.map fun z => V.ref z.1)) ∧ DatsAt H as ∧ as.length ≤ 1000 ∧ ∀ t H', Same H H' → H t = none → Da H' (.ref t) (papO n (as.map (·.2))) → Q (.ref t) H'
theorem ok_papOver {f : Addr} {fd : FuncData} {k : Nat} (F : Fun K "paper_over" "paper_over" sPapOver f fd) (m_tuple : mg "tuple" = none) : FnOk P w K mg base CX0 (k + 1) f fd pPapOver spPapOver := by
  refine F.ok scPapOver (fun vs H Q E h => ?_) (fun cdv A outer s H vs Q E hr h => ?_)
  · obtain ⟨n, l, as, rfl, _⟩ := h
    rfl
  · obtain ⟨n, l, as, rfl, el, hA, hln, q⟩ := h
    have nd := scPapOver.nd
    refine ⟨_, pss_cons (ps_setLc (i := 2) (own := [("paper", 3)]) (g := gName 3) (by rfl) nd rfl rfl (sw_true rfl rfl rfl (by decide +kernel)) (pi_list (pv 1)) (blkOk_by (own := [("paper", 3)]) (N := nPapOver) (sc := defScope sPapOver) (by decide +kernel)) (fun _ _ _ _ _ => (pg_name (i := 3) nd rfl (.inl rfl))) (fun _ _ _ _ _ => (pts_one (pt_cmpR op_eq (pe_ix (ix_tupK (K := K) (by rfl)) (pv 3) pe_int (fun _ _ => rfl)) pe_str (nomark _))))
          (fun _ _ _ _ _ => (pv 3)))
      (pss_cons (ps_if (pt_truth (pv 2) (fun _ => rfl)) (pss_one (ps_ret (pe_tup (pa_cons pe_str (pa_cons (pv 0) (pa_cons (pe_ix ix_list (pv 2) pe_int (fun _ _ => rfl)) pa_nil)))))) pss_nil)
      (pss_one (ps_ret (pe_tup (pa_cons pe_str (pa_cons (pv 0) (pa_cons (pe_callTy call_tuple_of (by rfl) m_tuple (by decide +kernel) (pa_cons (pv 1) pa_nil)) pa_nil))))))), ?_⟩
    refine ⟨_, rfl, l, rfl, ⟨_, SqL.of el⟩, fun M1 nM1 => ?_⟩
    refine lc_sameV (walk_list (xs := as.map fun z => V.ref z.1)) as (fun y => isYesD y.2) (fun y => .ref y.1) (by rw [List.length_map]) hln nM1 (fun H s => SqL.of (s _ _ el)) ?_ ?_
    · rintro i y x H3 H4 hy s3 ⟨rfl, hx⟩ Q1 Q0 q1 q0
      rw [List.getElem?_map, hy] at hx
      injection hx with hx
      subst hx
      obtain ⟨hd, w, r, e⟩ := hA.same s3 y (List.mem_of_getElem? hy)
      rw [e] at hd
      obtain ⟨xs, ex, _⟩ := hd.head
      refine ⟨rfl, _, rfl, y.1, _, _, _, rfl, rfl, SqT.of ex, (atI_nat (j := 0) rfl), rfl, _, rfl, ?_⟩
      refine ite2 (fun c => ?_) (fun c => ?_)
      · refine ⟨_, rfl, q1 ?_ _ (same_refl _)⟩
        rw [e]
        exact decide_eq_true (by have := of_decide_eq_true c; injection this)
      · refine q0 ?_ _ (same_refl _)
        rw [e]
        exact decide_eq_false fun z => c (decide_eq_true (by rw [z]))
    intro H2 s2 eM
    have eyes : (as.map (·.2)).filter isYesD = (as.filter fun y => isYesD y.2).map (·.2) := by
      rw [List.filter_map]
      rfl
    refine ⟨_, rfl, _, .inl ⟨_, SqL.of eM, rfl⟩, ?_⟩
    cases hc : as.filter fun y => isYesD y.2 with
    | nil =>
      rw [hc] at eyes
      refine iteF ?_
      refine ⟨_, rfl, _, rfl, l, _, rfl, .inl ⟨SqL.of (s2 _ _ el), fun t3 nt3 => ?_⟩⟩
      have s3 := same_new nt3 (.tup (as.map fun z => V.ref z.1))
      have e3 : (upd H2 t3 (.tup (as.map fun z => V.ref z.1))) t3 = some (.tup (as.map fun z => V.ref z.1)) := upd_same
      generalize upd H2 t3 (.tup (as.map fun z => V.ref z.1)) = H3 at s3 e3
      refine ⟨(by show 3 ≤ sizeLine; decide), fun t4 nt4 => ?_⟩
      have s4 := same_new nt4 (.tup [.str "yes", .int n, .ref t3])
      have e4 : (upd H3 t4 (.tup [.str "yes", .int n, .ref t3])) t4 = some (.tup [.str "yes", .int n, .ref t3]) := upd_same
      have sA := s2.trans (s3.trans s4)
      refine q t4 _ sA (none_back (s2.trans s3) nt4) ?_
      unfold papO
      rw [eyes]
      refine .tup e4 (.cons (.str _) (.cons (.int _) (.cons (.tup (s4 _ _ e3) ?_) .nil)))
      exact DaAll.map fun z hz => (hA z hz).1.ext (.of sA)
    | cons y r =>
      rw [hc] at eyes eM
      refine iteT ?_
      refine ⟨_, rfl, _, rfl, M1, _, _, _, rfl, rfl, SqL.of eM, (atI_nat (j := 0) rfl), (by show 3 ≤ sizeLine; decide), fun t4 nt4 => ?_⟩
      have s4 := same_new nt4 (.tup [.str "no", .int n, .ref y.1])
      have e4 : (upd H2 t4 (.tup [.str "no", .int n, .ref y.1])) t4 = some (.tup [.str "no", .int n, .ref y.1]) := upd_same
      have sA := s2.trans s4
      refine q t4 _ sA (none_back s2 nt4) ?_
      unfold papO
      rw [eyes]
      have hm : y ∈ as := (List.mem_filter.mp (show y ∈ as.filter fun y => isYesD y.2 by rw [hc]; exact List.mem_cons_self)).1
      exact .tup e4 (.cons (.str _) (.cons (.int _) (.cons ((hA y hm).1.ext (.of sA)) .nil)))
abbrev sPapersOf : Stmt := topS 32
abbrev nPapersOf : List Str := ["acts", "papers", "act", "undones", "undone"]
abbrev pPapersOf : List Str := ["acts"]
theorem scPapersOf : FnScope nPapersOf pPapersOf (defScope sPapersOf) := ⟨rfl, rfl, rfl, by decide +kernel, rfl, by decide +kernel, by decide +kernel⟩
def spPapersOf : Sp := fun vs H Q _ => ∃ (la : Addr) (n : Nat) (es : List En) (d k : Int) (ys : List (Addr × En)), vs = [.ref la] ∧ H la = some (.lst (refs ys)) ∧ (∀ z ∈ ys, EntAt H z.1 z.2) ∧ Oa n es d k (ens ys) ∧ ys.length ≤ 1000 ∧
  ∀ pd H', Same H H' → H pd = none → PapD H' pd (ens ys) (ens ys).reverse → Q (.ref pd) H'
theorem ok_papersOf {f : Addr} {fd : FuncData} {k : Nat} (F : Fun K "papers_of" "papers_of" sPapersOf f fd) (C_acts_on : CallOk P w K mg base k "acts_on" pActsOn spActsOn) (C_paper_over : CallOk P w K mg base k "paper_over" pPapOver spPapOver) (iNUMBER : MgInt mg "NUMBER" 0) : FnOk P w K mg base CX0 (k + 1) f fd pPapersOf spPapersOf := by
  refine F.ok scPapersOf (fun vs H Q E h => ?_) (fun cdv A outer s H vs Q E hr h => ?_)
  · obtain ⟨la, n, es, d, k, ys, rfl, _⟩ := h
    rfl
  · obtain ⟨la, n, es, d, kk, ys, rfl, el, hE, hO, hln, q⟩ := h
    have nd := scPapersOf.nd
    have hu := hu_of hr
    refine ⟨_, pss_cons (ps_set (i := 1) nd rfl (.inr rfl) pe_dnewK)
      (pss_cons (ps_for PassesOwn.never rfl (pi_list (pe_revL (pv 0))) (pg_name (i := 2) nd rfl (.inl rfl))
        (pss_cons (ps_set (i := 3) nd rfl (.inl rfl) (pe_call C_acts_on.ok hr (by rfl) C_acts_on.g C_acts_on.kp C_acts_on.b .nil pass0 (pa_cons (pv 0) (pa_cons pe_str (pa_cons (pe_ix ix_tup (pv 2) (pe_num (by rfl) iNUMBER) (fun _ _ => rfl)) pa_nil)))))
      (pss_one (ps_dput hu (pv 1) (pe_ix ix_tup (pv 2) (pe_num (by rfl) iNUMBER) (fun _ _ => rfl)) (pe_call C_paper_over.ok hr (by rfl) C_paper_over.g C_paper_over.kp C_paper_over.b .nil pass0 (pa_cons (pe_ix ix_tup (pv 2) (pe_num (by rfl) iNUMBER) (fun _ _ => rfl)) (pa_cons (pe_lc (own := [("undone", 4)]) (g := gName 4) (by rfl) nd (pi_list (pv 3)) (blkOk_by (own := [("undone", 4)]) (N := nPapersOf) (sc := defScope sPapersOf) (by decide +kernel)) (fun _ _ _ _ _ => (pg_name (i := 4) nd rfl (.inl rfl))) (fun _ _ _ _ _ => pts_nil)
          (fun _ _ _ _ _ => (pe_dget hu (pv 1) (pv 4) (fun _ _ => rfl)))) pa_nil))) rfl))))
      (pss_one (ps_ret (pv 1)))), ?_⟩
    refine fun pd npd => ?_
    have s0 := same_new npd (.dK [])
    have e0 : (upd H pd (.dK [])) pd = some (.dK []) := upd_same
    generalize upd H pd (.dK []) = H0 at s0 e0
    refine ⟨_, rfl, la, _, rfl, SqL.of (s0 _ _ el), fun rv nrv => ?_⟩
    have s1 := same_new nrv (.lst (refs ys).reverse)
    have erv : (upd H0 rv (.lst (refs ys).reverse)) rv = some (.lst (refs ys.reverse)) := by rw [upd_same, ← List.map_reverse]
    have nrp : rv ≠ pd := fun z => by rw [z, e0] at nrv; cases nrv
    generalize upd H0 rv (.lst (refs ys).reverse) = H1 at s1 erv
    have hnd : (((ens ys).reverse).map (·.num)).Nodup := by
      rw [List.nodup_iff_pairwise_ne, List.pairwise_map, List.pairwise_reverse]
      exact hO.up.imp fun h => by omega
    have er : (ys.reverse).map (·.2) = (ens ys).reverse := List.map_reverse
    refine ⟨rv, rfl, ⟨_, SqL.of erv⟩, ?_⟩
    refine for_list (K := K) (a := rv) (xs := refs ys.reverse) (fun i σ H' => ∃ y2 y3 y4, σ = [some (.ref la), some (.ref pd), y2, y3, y4] ∧ Same H H' ∧ H' rv = some (.lst (refs ys.reverse)) ∧ PapD H' pd (ens ys) ((ens ys).reverse.take i)) ⟨_, _, _, rfl, s0.trans s1, erv, [], rfl, s1 _ _ e0, fun _ h => nomatch h⟩ (fun i σ H' _ h => ?_) ?_ ?_
    · obtain ⟨_, _, _, _, _, e, _⟩ := h
      exact SqL.of e
    · rintro i x σ H2 hx ⟨y2, y3, y4, rfl, sm, ev, hP⟩
      obtain ⟨z, hz, rfl⟩ := ref_at hx
      have hzm : z ∈ ys := List.mem_reverse.mp (List.mem_of_getElem? hz)
      have hze : z.2 ∈ ens ys := List.mem_map.mpr ⟨z, hzm, rfl⟩
      obtain ⟨xs, ex, g0, _⟩ := ((hE z hzm).kp (Same.tup sm)).tup
      have hE2 : ∀ z ∈ ys, EntAt H2 z.1 z.2 ∧ z.2.isDeed = false := fun z hz => ⟨(hE z hz).kp (Same.tup sm), (hO.mem z.2 (List.mem_map.mpr ⟨z, hz, rfl⟩)).2.1⟩
      refine ⟨_, rfl, _, rfl, z.1, _, _, _, rfl, rfl, SqT.of ex, g0, la, "undone", z.2.num, ys, rfl, sm _ _ el, hE2, hln, fun ul H3 s3 nul eul => ?_⟩
      -- the undones' papers stand in the dict
      have hP3 := hP.ext (.of s3)
      have huz : (ys.filter fun y => isOn "undone" z.2.num y.2).map (fun y => y.2.num) = ((ens ys).filter (isOn "undone" z.2.num)).map (·.num) := by
        unfold ens
        rw [List.filter_map, List.map_map]
        rfl
      rw [huz] at eul
      generalize hus : (ens ys).filter (isOn "undone" z.2.num) = us at eul
      have hzi : (ens ys).reverse[i]? = some z.2 := by
        rw [← er, List.getElem?_map, hz]
        rfl
      have hin : ∀ u ∈ us, u ∈ (ens ys).reverse.take i := fun u hu => by
        rw [← hus] at hu
        obtain ⟨a1, a2, _, _⟩ := hO.undo hu
        obtain ⟨j, hj⟩ := List.getElem?_of_mem (List.mem_reverse.mpr a1)
        have hji : j < i := by
          rcases Nat.lt_or_ge j i with h | h
          · exact h
          · exfalso
            have hup : ((ens ys).reverse).Pairwise (fun a b => b.num < a.num) := List.pairwise_reverse.mpr hO.up
            rcases Nat.eq_or_lt_of_le h with h | h
            · subst h
              rw [hzi] at hj
              injection hj with hj
              rw [hj] at a2
              omega
            · obtain ⟨hj1, hj2⟩ := List.getElem?_eq_some_iff.mp hj
              obtain ⟨hi1, hi2⟩ := List.getElem?_eq_some_iff.mp hzi
              have := List.pairwise_iff_getElem.mp hup i j hi1 hj1 h
              rw [hj2, hi2] at this
              omega
        exact List.mem_of_getElem? (i := j) (by rw [List.getElem?_take, if_pos hji]; exact hj)
      have hndi : (((ens ys).reverse.take i).map (·.num)).Nodup := by
        rw [List.map_take]
        exact hnd.sublist (List.take_sublist _ _)
      have hul : us.length ≤ 1000 := by
        rw [← hus]
        have := List.length_filter_le (isOn "undone" z.2.num) (ens ys)
        rw [List.length_map] at this
        omega
      obtain ⟨xs3, ex3, g3, _⟩ := ((hE z hzm).kp (Same.tup (sm.trans s3))).tup
      refine ⟨_, rfl, z.1, _, _, _, rfl, rfl, SqT.of ex3, g3, ?_⟩
      refine ⟨_, rfl, ul, rfl, ⟨_, SqL.of eul⟩, fun M nM => ?_⟩
      refine lc_gen (walk_list (xs := (us.map (·.num)).map V.int)) us (fun _ => true) (fun H => Same H3 H) Same (fun H y u => ∃ a, u = .ref a ∧ Da H (.ref a) (pap (ens ys) y)) (by rw [List.length_map, List.length_map]) hul (same_new nM _) (fun H s => SqL.of (s _ _ eul)) (fun H H' h1 h2 => ⟨h1.trans h2, fun xs e => h2 _ _ e⟩) (fun H xs l h1 _ => same_put nM h1 _) (fun H H' y u _ h2 e => ?_) (fun H xs l y u h1 h2 e => ?_) ?_ ?_
      · obtain ⟨a, e1, e2⟩ := e
        exact ⟨a, e1, e2.ext (.of h2)⟩
      · obtain ⟨a, e1, e2⟩ := e
        exact ⟨a, e1, e2.putL h2 _⟩
      · rintro j y x H4 H5 hy s4 ⟨rfl, hx⟩ Q1 Q0 q1 q0
        rw [List.getElem?_map, List.getElem?_map, hy] at hx
        injection hx with hx
        subst hx
        obtain ⟨a, hg, hd⟩ := (hP3.ext (.of s4)).get hndi (hin y (List.mem_of_getElem? hy))
        exact ⟨rfl, _, rfl, _, rfl, pd, _, rfl, hg, q1 rfl _ _ (same_refl _) ⟨a, rfl, hd⟩⟩
      intro H4 vs s4 eM evs hvs
      rw [List.filter_eq_self.mpr fun _ _ => rfl] at evs
      -- as addresses
      obtain ⟨as, e1, e2, e3⟩ : ∃ as : List (Addr × Dat), vs.map (·.1) = as.map (fun z => V.ref z.1) ∧ as.map (·.2) = us.map (pap (ens ys)) ∧ DatsAt H4 as := by
        have key : ∀ vs : List (V × En), (∀ z ∈ vs, (∃ a, z.1 = .ref a ∧ Da H4 (.ref a) (pap (ens ys) z.2)) ∧ z.2 ∈ ens ys) → ∃ as : List (Addr × Dat), vs.map (·.1) = as.map (fun z => V.ref z.1) ∧ as.map (·.2) = (vs.map (·.2)).map (pap (ens ys)) ∧ DatsAt H4 as := by
          intro vs
          induction vs with
          | nil => exact fun _ => ⟨[], rfl, rfl, fun _ h => nomatch h⟩
          | cons v r ih =>
            intro h
            obtain ⟨as, a1, a2, a3⟩ := ih fun x hx => h x (List.mem_cons_of_mem _ hx)
            obtain ⟨⟨a, b1, b2⟩, b3⟩ := h v List.mem_cons_self
            refine ⟨(a, pap (ens ys) v.2) :: as, ?_, ?_, fun x hx => ?_⟩
            · rw [List.map_cons, List.map_cons, a1, b1]
            · rw [List.map_cons, List.map_cons, List.map_cons, a2]
            · rcases List.mem_cons.mp hx with h | h
              · rw [h]
                exact ⟨b2, pap_head hO b3⟩
              · exact a3 x h
        obtain ⟨as, a1, a2, a3⟩ := key vs fun z hz => ⟨hvs z hz, by
          have : z.2 ∈ us := by rw [← evs]; exact List.mem_map.mpr ⟨z, hz, rfl⟩
          rw [← hus] at this
          exact (List.mem_filter.mp this).1⟩
        exact ⟨as, a1, by rw [a2, evs], a3⟩
      rw [e1] at eM
      have hal : as.length ≤ 1000 := by
        have := congrArg List.length e2
        rw [List.length_map, List.length_map] at this
        omega
      refine ⟨z.2.num, M, as, rfl, eM, e3, hal, fun t H5 s5 nt hDt => ?_⟩
      rw [e2, ← hus, ← pap_eq hO hze] at hDt
      have hP5 := hP3.ext (.of (s4.trans s5))
      obtain ⟨xs5, ex5, g5, _⟩ := ((hE z hzm).kp (Same.tup (sm.trans (s3.trans (s4.trans s5))))).tup
      obtain ⟨ps, f1, f2, f3⟩ := hP5
      have hpl : ps.length ≤ 1000 := by
        have := congrArg List.length f1
        rw [List.length_map, List.length_take, List.length_reverse, List.length_map] at this
        omega
      refine ⟨_, rfl, _, rfl, z.1, _, _, _, rfl, rfl, SqT.of ex5, g5, pd, _, rfl, DPut.k (k := Sum.inl z.2.num) f2 (small1000 (by rw [List.length_map]; exact hpl)), ?_⟩
      have hnew : valV (ps.map fun z => ((Sum.inl z.1.num : Key), V.ref z.2)) (Sum.inl z.2.num) = none := by
        refine valV_none fun q hq => ?_
        obtain ⟨y, hy, rfl⟩ := List.mem_map.mp hq
        intro e
        injection e with e
        have hm : y.1 ∈ (ens ys).reverse.take i := by rw [← f1]; exact List.mem_map.mpr ⟨y, hy, rfl⟩
        obtain ⟨j, hj⟩ := List.getElem?_of_mem hm
        obtain ⟨hj1, hj2⟩ := List.getElem?_eq_some_iff.mp hj
        rw [List.length_take] at hj1
        rw [List.getElem?_take, if_pos (by omega)] at hj
        have h1 : ((ens ys).reverse.map (·.num))[j]? = some y.1.num := by rw [List.getElem?_map, hj]; rfl
        have h2 : ((ens ys).reverse.map (·.num))[i]? = some z.2.num := by rw [List.getElem?_map, hzi]; rfl
        rw [e] at h1
        obtain ⟨k1, l1⟩ := List.getElem?_eq_some_iff.mp h1
        obtain ⟨k2, l2⟩ := List.getElem?_eq_some_iff.mp h2
        exact List.pairwise_iff_getElem.mp (List.nodup_iff_pairwise_ne.mp hnd) j i k1 k2 (by omega) (l1.trans l2.symm)
      rw [L2.putK_new _ hnew]
      have s05 := sm.trans (s3.trans (s4.trans s5))
      have nputd : Same H (upd H5 pd (.dK ((ps.map fun z => ((Sum.inl z.1.num : Key), V.ref z.2)) ++ [(Sum.inl z.2.num, V.ref t)]))) := same_put npd s05 _
      refine ⟨_, _, _, rfl, nputd, ?_, ps ++ [(z.2, t)], ?_, ?_, fun y hy => ?_⟩
      · rw [upd_ne nrp]
        exact s5 _ _ (s4 _ _ (s3 _ _ ev))
      · rw [List.map_append, f1, take_more hzi]
        rfl
      · rw [upd_same, List.map_append]
        rfl
      · rcases List.mem_append.mp hy with hy | hy
        · exact (f3 y hy).putD f2 _
        · rw [List.mem_singleton.mp hy]
          exact hDt.putD f2 _
    · rintro σ H2 ⟨y2, y3, y4, rfl, sm, ev, hP⟩
      rw [show (refs ys.reverse).length = (ens ys).reverse.length by rw [List.length_map, List.length_reverse, List.length_reverse, List.length_map], List.take_length] at hP
      exact ⟨_, rfl, q pd H2 sm npd hP⟩
end
end Deed

namespace Deed
open PySem PySem.Spec PyProof.Rows L2 LamX
section
variable {J : It} {n : Nat} {G : Hp → Prop} {Y : Nat → Hp → V → Hp → Prop} {g : TG} {tt : TT} {te : TE} {vs : List Nat} {σ : L2.St} {H1 : Hp} {D : Addr} {Qd : Hp → Prop} {α : Type}
/-- things that are told, by what they are -/
theorem lc_da (w : Walk J n G Y) (ys : List α) (p : α → Bool) (gd : α → Dat) (hn : ys.length = n) (hlen : ys.length ≤ 1000) (nD : H1 D = none) (hG : ∀ H, Same H1 H → G H)
    (hs : ∀ i y x H H', ys[i]? = some y → Same H1 H → Y i H x H' → ∀ (Q1 : V → Hp → Prop) (Q0 : Hp → Prop), (p y = true → ∀ a H4, Same H H4 → Da H4 (.ref a) (gd y) → Q1 (.ref a) H4) → (p y = false → ∀ H3, Same H H3 → Q0 H3) →
      g x (wipe σ vs) H' fun σ2 H2 => wipe σ2 vs = wipe σ vs ∧ tt σ2 H2 fun b H3 => if b = true then te σ2 H3 Q1 else Q0 H3)
    (hd : ∀ H (as : List (Addr × Dat)), Same H1 H → H D = some (.lst (as.map fun z => V.ref z.1)) → as.map (·.2) = (ys.filter p).map gd → (∀ z ∈ as, Da H (.ref z.1) z.2) → Qd H) : LcGoal J g tt te vs σ H1 D Qd := by
  refine lc_gen w ys p (fun H => Same H1 H) Same (fun H y u => ∃ a, u = .ref a ∧ Da H (.ref a) (gd y)) hn hlen (same_new nD _) hG (fun H H' h1 h2 => ⟨h1.trans h2, fun xs e => h2 _ _ e⟩) (fun H xs l h1 _ => same_put nD h1 _) (fun H H' y u _ h2 e => ?_) (fun H xs l y u h1 h2 e => ?_) (fun i y x H H' hy h1 hY Q1 Q0 q1 q0 => ?_) (fun H zs h1 e ez hz => ?_)
  · obtain ⟨a, e1, e2⟩ := e
    exact ⟨a, e1, e2.ext (.of h2)⟩
  · obtain ⟨a, e1, e2⟩ := e
    exact ⟨a, e1, e2.putL h2 _⟩
  · exact hs i y x H H' hy h1 hY Q1 Q0 (fun hp a H4 s4 e4 => q1 hp _ H4 s4 ⟨a, rfl, e4⟩) q0
  · have key : ∀ zs : List (V × α), (∀ z ∈ zs, ∃ a, z.1 = .ref a ∧ Da H (.ref a) (gd z.2)) → ∃ as : List (Addr × Dat), zs.map (·.1) = as.map (fun z => V.ref z.1) ∧ as.map (·.2) = (zs.map (·.2)).map gd ∧ ∀ z ∈ as, Da H (.ref z.1) z.2 := by
      intro zs
      induction zs with
      | nil => exact fun _ => ⟨[], rfl, rfl, fun _ h => nomatch h⟩
      | cons z r ih =>
        intro h
        obtain ⟨as, a1, a2, a3⟩ := ih fun x hx => h x (List.mem_cons_of_mem _ hx)
        obtain ⟨a, e1, e2⟩ := h z List.mem_cons_self
        refine ⟨(a, gd z.2) :: as, ?_, ?_, fun x hx => ?_⟩
        · rw [List.map_cons, List.map_cons, a1, e1]
        · rw [List.map_cons, List.map_cons, List.map_cons, a2]
        · rcases List.mem_cons.mp hx with h | h
          · rw [h]
            exact e2
          · exact a3 x h
    obtain ⟨as, a1, a2, a3⟩ := key zs hz
    exact hd H as h1 (by rw [e, a1]) (by rw [a2, ez]) a3
theorem lc_daM (w : Walk J n G Y) (ys : List α) (gd : α → Dat) (hn : ys.length = n) (hlen : ys.length ≤ 1000) (nD : H1 D = none) (hG : ∀ H, Same H1 H → G H)
    (hs : ∀ i y x H H', ys[i]? = some y → Same H1 H → Y i H x H' → ∀ (Q1 : V → Hp → Prop), (∀ a H4, Same H H4 → Da H4 (.ref a) (gd y) → Q1 (.ref a) H4) → g x (wipe σ vs) H' fun σ2 H2 => wipe σ2 vs = wipe σ vs ∧ te σ2 H2 Q1)
    (hd : ∀ H (as : List (Addr × Dat)), Same H1 H → H D = some (.lst (as.map fun z => V.ref z.1)) → as.map (·.2) = ys.map gd → (∀ z ∈ as, Da H (.ref z.1) z.2) → Qd H) : LcGoal J g tYes te vs σ H1 D Qd := by
  refine lc_da w ys (fun _ => true) gd hn hlen nD hG (fun i y x H H' hy h1 hY Q1 Q0 q1 q0 => ?_) (fun H as h1 e ez hz => hd H as h1 e (by rw [ez, List.filter_eq_self.mpr fun _ _ => rfl]) hz)
  exact hs i y x H H' hy h1 hY Q1 (fun a H4 s4 e4 => q1 rfl a H4 s4 e4)
end
theorem as_all {H : Hp} {as : List (Addr × Dat)} {ds : List Dat} (h : ∀ z ∈ as, Da H (.ref z.1) z.2) (e : as.map (·.2) = ds) : DaAll H (as.map fun z => V.ref z.1) ds := by
  rw [← e]
  exact DaAll.map h
theorem as_len {as : List (Addr × Dat)} {ds : List Dat} (e : as.map (·.2) = ds) : as.length = ds.length := by
  rw [← e, List.length_map]
/-- the whys of the deeds numbered rs, as a dict -/
def WhyD (H : Hp) (wd : Addr) (es ys : List En) (d k : Int) (rs : List Int) : Prop := ∃ ps : List (Int × Addr), ps.map (·.1) = rs ∧ H wd = some (.dK (ps.map fun z => (Sum.inl z.1, V.ref z.2))) ∧ ∀ z ∈ ps, Da H (.ref z.2) (why es ys d k z.1)
theorem WhyD.ext {H H' : Hp} {wd : Addr} {es ys : List En} {d k : Int} {rs : List Int} (h : WhyD H wd es ys d k rs) (e : ExtN H H') : WhyD H' wd es ys d k rs := by
  obtain ⟨ps, h1, h2, h3⟩ := h
  exact ⟨ps, h1, e _ _ h2 (fun ps z => by cases z), fun z hz => (h3 z hz).ext e⟩
theorem WhyD.get {H : Hp} {wd : Addr} {es ys : List En} {d k : Int} {rs : List Int} (h : WhyD H wd es ys d k rs) (nd : rs.Nodup) {r : Int} (hr : r ∈ rs) : ∃ a, DGet H wd (.int r) (some (.ref a)) ∧ Da H (.ref a) (why es ys d k r) := by
  obtain ⟨ps, rfl, h2, h3⟩ := h
  obtain ⟨z, hz, rfl⟩ := List.mem_map.mp hr
  refine ⟨z.2, ?_, h3 z hz⟩
  have h4 := DGet.k (k := Sum.inl z.1) h2
  rw [valV_map (f := fun z : Int × Addr => z.1) (g := fun z : Int × Addr => V.ref z.2) nd hz] at h4
  exact h4
theorem why_head {n : Nat} {es : List En} (hB : BkOk n es) (ys : List En) (d k : Int) {e : En} (he : e ∈ es) (hd : e.isDeed = true) : ∃ r, why es ys d k e.num = .tup (.str (st es d k e) :: .int e.num :: r) := by
  rw [why_eq hB ys d k he hd]
  exact whyO_head _ _ _ _
section
variable {P : Program} {w : World} {K : PySem.W.Frag} {mg : Str → Option Value} {base : Heap} {T : List (Addr × Str)}
abbrev sFirstYes : Stmt := topS 33
abbrev nFirstYes : List Str := ["papers", "numbers", "number"]
abbrev pFirstYes : List Str := ["papers", "numbers"]
theorem scFirstYes : FnScope nFirstYes pFirstYes (defScope sFirstYes) := ⟨rfl, rfl, rfl, by decide +kernel, rfl, by decide +kernel, by decide +kernel⟩
def spFirstYes : Sp := fun vs H Q _ => ∃ (pd l : Addr) (n : Nat) (es ys us : List En) (d k : Int), vs = [.ref pd, .ref l] ∧ Oa n es d k ys ∧ PapD H pd ys ys.reverse ∧ H l = some (.lst ((us.map (·.num)).map V.int)) ∧ (∀ u ∈ us, u ∈ ys) ∧ us.length ≤ 1000 ∧ us.any (frc es d k) = true ∧
  ∀ a H', Same H H' → Da H' (.ref a) (fy ys us) → Q (.ref a) H'
theorem Oa.nodup {n : Nat} {es : List En} {d k : Int} {ys : List En} (h : Oa n es d k ys) : (ys.reverse.map (·.num)).Nodup := by
  rw [List.nodup_iff_pairwise_ne, List.pairwise_map, List.pairwise_reverse]
  exact h.up.imp fun h => by omega
theorem ok_firstYes {f : Addr} {fd : FuncData} {k : Nat} (F : Fun K "first_yes" "first_yes" sFirstYes f fd) : FnOk P w K mg base CX0 (k + 1) f fd pFirstYes spFirstYes := by
  refine F.ok scFirstYes (fun vs H Q E h => ?_) (fun cdv A outer s H vs Q E hr h => ?_)
  · obtain ⟨pd, l, n, es, ys, us, d, k, rfl, _⟩ := h
    rfl
  · obtain ⟨pd, l, n, es, ys, us, d, kk, rfl, hO, hP, el, hus, hln, ha, q⟩ := h
    have nd := scFirstYes.nd
    have hu := hu_of hr
    refine ⟨_, pss_one (ps_ret (pe_ix ix_list (pe_lc (own := [("number", 2)]) (g := gName 2) (by rfl) nd (pi_list (pv 1)) (blkOk_by (own := [("number", 2)]) (N := nFirstYes) (sc := defScope sFirstYes) (by decide +kernel)) (fun _ _ _ _ _ => (pg_name (i := 2) nd rfl (.inl rfl))) (fun _ _ _ _ _ => (pts_one (pt_cmpR op_eq (pe_ix (ix_tupK (K := K) (by rfl)) (pe_dget hu (pv 0) (pv 2) (fun _ _ => rfl)) pe_int (fun _ _ => rfl)) pe_str (nomark _))))
          (fun _ _ _ _ _ => (pe_dget hu (pv 0) (pv 2) (fun _ _ => rfl)))) pe_int (fun _ _ => rfl))), ?_⟩
    refine ⟨_, rfl, l, rfl, ⟨_, SqL.of el⟩, fun M1 nM1 => ?_⟩
    refine lc_da (walk_list (xs := (us.map (·.num)).map V.int)) us (fun u => isYesD (pap ys u)) (pap ys) (by rw [List.length_map, List.length_map]) hln nM1 (fun H s => SqL.of (s _ _ el)) ?_ ?_
    · rintro i y x H3 H4 hy s3 ⟨rfl, hx⟩ Q1 Q0 q1 q0
      rw [List.getElem?_map, List.getElem?_map, hy] at hx
      injection hx with hx
      subst hx
      have hyy := hus y (List.mem_of_getElem? hy)
      obtain ⟨a, hg, hd⟩ := (hP.ext (.of s3)).get hO.nodup (List.mem_reverse.mpr hyy)
      obtain ⟨w, r, e⟩ := pap_head hO hyy
      have hd' := hd
      rw [e] at hd'
      obtain ⟨xs, ex, _⟩ := hd'.head
      refine ⟨rfl, _, rfl, _, rfl, pd, _, rfl, hg, a, _, _, _, rfl, rfl, SqT.of ex, (atI_nat (j := 0) rfl), rfl, _, rfl, ?_⟩
      refine ite2 (fun c => ?_) (fun c => ?_)
      · refine ⟨_, rfl, _, rfl, pd, _, rfl, hg, q1 ?_ _ _ (same_refl _) hd⟩
        show isYesD (pap ys y) = true
        rw [e]
        exact decide_eq_true (by have := of_decide_eq_true c; injection this)
      · refine q0 ?_ _ (same_refl _)
        show isYesD (pap ys y) = false
        rw [e]
        exact decide_eq_false fun z => c (decide_eq_true (by rw [z]))
    intro H2 as s2 eM eas hz
    obtain ⟨u, r, e1, _, _, _, e2⟩ := fy_is hO hus ha
    have e3 : us.filter (fun u => isYesD (pap ys u)) = u :: r := by
      rw [← e1]
      exact List.filter_congr fun x hx => pap_yes hO (hus x hx)
    rw [e3] at eas
    cases as with
    | nil => cases eas
    | cons a0 ar =>
      rw [List.map_cons, List.map_cons] at eas
      injection eas with ea0 ear
      refine ⟨M1, _, _, _, rfl, rfl, SqL.of eM, (atI_nat (j := 0) rfl), ?_⟩
      refine q a0.1 H2 s2 ?_
      rw [e2, ← ea0]
      exact hz a0 List.mem_cons_self
abbrev sWhyOver : Stmt := topS 34
abbrev nWhyOver : List Str := ["deed", "word", "acts", "papers", "whys", "number", "voids", "paids", "below", "nos", "rest", "why", "act"]
abbrev pWhyOver : List Str := ["deed", "word", "acts", "papers", "whys"]
theorem scWhyOver : FnScope nWhyOver pWhyOver (defScope sWhyOver) := ⟨rfl, rfl, rfl, by decide +kernel, rfl, by decide +kernel, by decide +kernel⟩
def spWhyOver : Sp := fun vs H Q _ => ∃ (ea la pd wd : Addr) (n : Nat) (es : List En) (e : En) (d k : Int) (ys : List (Addr × En)) (rs : List Int), vs = [.ref ea, .str (st es d k e), .ref la, .ref pd, .ref wd] ∧ EntAt H ea e ∧ e ∈ es ∧ e.isDeed = true ∧ H la = some (.lst (refs ys)) ∧ (∀ z ∈ ys, EntAt H z.1 z.2) ∧ Oa n es d k (ens ys) ∧ ys.length ≤ 16 ∧
  PapD H pd (ens ys) (ens ys).reverse ∧ WhyD H wd es (ens ys) d k rs ∧ rs.Nodup ∧ (∀ r ∈ e.rests, r ∈ rs) ∧ ∀ t H', Same H H' → H t = none → Da H' (.ref t) (why es (ens ys) d k e.num) → Q (.ref t) H'
theorem filter_refs (φ : En → Bool) (ys : List (Addr × En)) : (ys.filter fun z => φ z.2).map (fun z => z.2.num) = ((ens ys).filter φ).map (·.num) := by
  unfold ens
  rw [List.filter_map, List.map_map]
  rfl
theorem both_sorted {n : Nat} {es : List En} {d k : Int} {ys : List En} (h : Oa n es d k ys) (e : En) {ns : List Int} (pm : ns.Perm ((voids ys e).map (·.num) ++ (paids ys e).map (·.num))) (up : ns.Pairwise (· ≤ ·)) : ns = (both ys e).map (·.num) := by
  have hn : (ys.map (·.num)).Nodup := by
    rw [List.nodup_iff_pairwise_ne, List.pairwise_map]
    exact h.up.imp fun h => by omega
  have hnn : ns.Nodup := by
    rw [pm.nodup_iff, List.nodup_append]
    refine ⟨hn.sublist (List.filter_sublist.map _), hn.sublist (List.filter_sublist.map _), fun a ha b hb z => ?_⟩
    obtain ⟨u, hu, rfl⟩ := List.mem_map.mp ha
    obtain ⟨v, hv, rfl⟩ := List.mem_map.mp hb
    obtain ⟨u1, u2⟩ := List.mem_filter.mp hu
    obtain ⟨v1, v2⟩ := List.mem_filter.mp hv
    have e1 : u = v := num_inj h.bk (h.mem u u1).1 (h.mem v v1).1 z
    subst e1
    unfold isOn at u2 v2
    rw [Bool.and_eq_true] at u2 v2
    have a1 := of_decide_eq_true u2.1
    have a2 := of_decide_eq_true v2.1
    rw [a1] at a2
    exact absurd a2 (by decide)
  refine rising_one (rising_of hnn up) ?_ fun x => ?_
  · rw [List.pairwise_map]
    exact h.up.sublist List.filter_sublist
  · rw [pm.mem_iff, List.mem_append, List.mem_map, List.mem_map, List.mem_map]
    constructor
    · rintro (⟨u, hu, rfl⟩ | ⟨u, hu, rfl⟩)
      · obtain ⟨u1, u2⟩ := List.mem_filter.mp hu
        exact ⟨u, List.mem_filter.mpr ⟨u1, by rw [u2]; rfl⟩, rfl⟩
      · obtain ⟨u1, u2⟩ := List.mem_filter.mp hu
        exact ⟨u, List.mem_filter.mpr ⟨u1, by rw [u2, Bool.or_true]⟩, rfl⟩
    · rintro ⟨u, hu, rfl⟩
      obtain ⟨u1, u2⟩ := List.mem_filter.mp hu
      rw [Bool.or_eq_true] at u2
      rcases u2 with u2 | u2
      · exact .inl ⟨u, List.mem_filter.mpr ⟨u1, u2⟩, rfl⟩
      · exact .inr ⟨u, List.mem_filter.mpr ⟨u1, u2⟩, rfl⟩
theorem ok_whyOver {f : Addr} {fd : FuncData} {k : Nat} (F : Fun K "why_over" "why_over" sWhyOver f fd) (C_acts_on : CallOk P w K mg base k "acts_on" pActsOn spActsOn) (C_first_yes : CallOk P w K mg base k "first_yes" pFirstYes spFirstYes) (m_tuple : mg "tuple" = none) (m_sorted : mg "sorted" = none) (iNUMBER : MgInt mg "NUMBER" 0) (iRESTS : MgInt mg "RESTS" 7) (mC : CarryAt K mg) : FnOk P w K mg base CX0 (k + 1) f fd pWhyOver spWhyOver := by
  obtain ⟨a_CARRYING, g_CARRYING, sC⟩ := mC
  refine F.ok scWhyOver (fun vs H Q E h => ?_) (fun cdv A outer s H vs Q E hr h => ?_)
  · obtain ⟨ea, la, pd, wd, n, es, e, d, k, ys, rs, rfl, _⟩ := h
    rfl
  · obtain ⟨ea, la, pd, wd, n, es, e, d, kk, ys, rs, rfl, hEa, hee, hed, el, hE, hO, hln, hP, hW, hrn, hrr, q⟩ := h
    have nd := scWhyOver.nd
    have hu := hu_of hr
    have hB := hO.bk
    refine ⟨_, pss_cons (ps_set (i := 5) nd rfl (.inl rfl) (pe_ix ix_tup (pv 0) (pe_num (by rfl) iNUMBER) (fun _ _ => rfl)))
      (pss_cons (ps_set (i := 6) nd rfl (.inl rfl) (pe_call C_acts_on.ok hr (by rfl) C_acts_on.g C_acts_on.kp C_acts_on.b .nil pass0 (pa_cons (pv 2) (pa_cons pe_str (pa_cons (pv 5) pa_nil)))))
      (pss_cons (ps_set (i := 7) nd rfl (.inl rfl) (pe_call C_acts_on.ok hr (by rfl) C_acts_on.g C_acts_on.kp C_acts_on.b .nil pass0 (pa_cons (pv 2) (pa_cons pe_str (pa_cons (pv 5) pa_nil)))))
      (pss_cons (ps_set (i := 8) nd rfl (.inl rfl) (pe_callTy call_tuple_of (by rfl) m_tuple (by decide +kernel) (pa_cons (pe_lc (own := [("rest", 10)]) (g := gName 10) (by rfl) nd (pi_tup (pe_ix ix_tup (pv 0) (pe_num (by rfl) iRESTS) (fun _ _ => rfl))) (blkOk_by (own := [("rest", 10)]) (N := nWhyOver) (sc := defScope sWhyOver) (by decide +kernel)) (fun _ _ _ _ _ => (pg_name (i := 10) nd rfl (.inl rfl))) (fun _ _ _ _ _ => pts_nil)
          (fun _ _ _ _ _ => (pe_dget hu (pv 4) (pv 10) (fun _ _ => rfl)))) pa_nil)))
      (pss_cons (ps_if (pt_cmpR op_eq (pv 1) pe_str (nomark _)) (pss_one (ps_ret (pe_tup (pa_cons pe_str (pa_cons (pv 5) (pa_cons (pe_call C_first_yes.ok hr (by rfl) C_first_yes.g C_first_yes.kp C_first_yes.b .nil pass0 (pa_cons (pv 3) (pa_cons (pv 6) pa_nil))) pa_nil)))))) pss_nil)
      (pss_cons (ps_if (pt_cmpR op_eq (pv 1) pe_str (nomark _)) (pss_one (ps_ret (pe_tup (pa_cons pe_str (pa_cons (pv 5) (pa_cons (pe_ix ix_list (pe_lc (own := [("why", 11)]) (g := gName 11) (by rfl) nd (pi_tup (pv 8)) (blkOk_by (own := [("why", 11)]) (N := nWhyOver) (sc := defScope sWhyOver) (by decide +kernel)) (fun _ _ _ _ _ => (pg_name (i := 11) nd rfl (.inl rfl))) (fun _ _ _ _ _ => (pts_one (pt_cmpR (notIn_seqK (K := K) (by rfl)) (pe_ix (ix_tupK (K := K) (by rfl)) (pv 11) pe_int (fun _ _ => rfl)) (pe_glob (v := .ref a_CARRYING) (by rfl) g_CARRYING rfl) (by rfl))))
          (fun _ _ _ _ _ => (pv 11))) pe_int (fun _ _ => rfl)) pa_nil)))))) pss_nil)
      (pss_cons (ps_if (pt_cmpR op_eq (pv 1) pe_str (nomark _)) (pss_cons (ps_set (i := 9) nd rfl (.inl rfl) (pe_callTy call_tuple_of (by rfl) m_tuple (by decide +kernel) (pa_cons (pe_lc (own := [("act", 12)]) (g := gName 12) (by rfl) nd (pi_list (pv 6)) (blkOk_by (own := [("act", 12)]) (N := nWhyOver) (sc := defScope sWhyOver) (by decide +kernel)) (fun _ _ _ _ _ => (pg_name (i := 12) nd rfl (.inl rfl))) (fun _ _ _ _ _ => pts_nil)
          (fun _ _ _ _ _ => (pe_dget hu (pv 3) (pv 12) (fun _ _ => rfl)))) pa_nil)))
      (pss_one (ps_ret (pe_tup (pa_cons pe_str (pa_cons (pv 5) (pa_cons (pv 9) (pa_cons (pv 8) (pa_cons (pe_call C_first_yes.ok hr (by rfl) C_first_yes.g C_first_yes.kp C_first_yes.b .nil pass0 (pa_cons (pv 3) (pa_cons (pv 7) pa_nil))) pa_nil))))))))) pss_nil)
      (pss_cons (ps_if (pt_cmpR op_eq (pv 1) pe_str (nomark _)) (pss_cons (ps_set (i := 9) nd rfl (.inl rfl) (pe_callTy call_tuple_of (by rfl) m_tuple (by decide +kernel) (pa_cons (pe_lc (own := [("act", 12)]) (g := gName 12) (by rfl) nd (pi_list (pe_callB cr_sortedI (by rfl) m_sorted (by decide +kernel) (pa_cons (pe_op op_cat (pv 6) (pv 7)) pa_nil))) (blkOk_by (own := [("act", 12)]) (N := nWhyOver) (sc := defScope sWhyOver) (by decide +kernel)) (fun _ _ _ _ _ => (pg_name (i := 12) nd rfl (.inl rfl))) (fun _ _ _ _ _ => pts_nil)
          (fun _ _ _ _ _ => (pe_dget hu (pv 3) (pv 12) (fun _ _ => rfl)))) pa_nil)))
      (pss_one (ps_ret (pe_tup (pa_cons pe_str (pa_cons (pv 5) (pa_cons (pv 9) (pa_cons (pv 8) pa_nil)))))))) pss_nil)
      (pss_one (ps_ret (pe_tup (pa_cons (pv 1) (pa_cons (pv 5) pa_nil)))))))))))), ?_⟩
    obtain ⟨xs0, ex0, g0, _⟩ := hEa.tup
    refine ⟨_, rfl, ea, _, _, _, rfl, rfl, SqT.of ex0, g0, ?_⟩
    have hE0 : ∀ z ∈ ys, EntAt H z.1 z.2 ∧ z.2.isDeed = false := fun z hz => ⟨hE z hz, (hO.mem z.2 (List.mem_map.mpr ⟨z, hz, rfl⟩)).2.1⟩
    refine ⟨_, rfl, _, rfl, la, "void", e.num, ys, rfl, el, hE0, by omega, fun lv H1 s1 nlv elv => ?_⟩
    have hE1 : ∀ z ∈ ys, EntAt H1 z.1 z.2 ∧ z.2.isDeed = false := fun z hz => ⟨(hE0 z hz).1.kp (Same.tup s1), (hE0 z hz).2⟩
    refine ⟨_, rfl, _, rfl, la, "paid", e.num, ys, rfl, s1 _ _ el, hE1, by omega, fun lp H2 s2 nlp elp => ?_⟩
    rw [filter_refs] at elv elp
    have elv2 := s2 _ _ elv
    have s12 := s1.trans s2
    have hvl : (voids (ens ys) e).length ≤ 1000 := by
      have := List.length_filter_le (isOn "void" e.num) (ens ys)
      rw [List.length_map] at this
      exact Nat.le_trans this (by omega)
    have hpl : (paids (ens ys) e).length ≤ 1000 := by
      have := List.length_filter_le (isOn "paid" e.num) (ens ys)
      rw [List.length_map] at this
      exact Nat.le_trans this (by omega)
    have hsv : ∀ u ∈ voids (ens ys) e, u ∈ ens ys := fun u hu => (List.mem_filter.mp hu).1
    have hsp : ∀ u ∈ paids (ens ys) e, u ∈ ens ys := fun u hu => (List.mem_filter.mp hu).1
    have hrl : e.rests.length ≤ 1000 := by
      have h := hB.ok e hee
      unfold En.rests
      cases hk : e.kd with
      | deed g t r ws =>
        have := h.2.2.2
        rw [hk] at this
        have := this.2.2.2.1
        show r.length ≤ 1000
        omega
      | act x o => exact Nat.zero_le _
    -- below
    obtain ⟨xs2, ar, ex2, g7, er⟩ := (hEa.kp (Same.tup s12)).seven hed
    refine ⟨_, rfl, ea, _, _, _, rfl, rfl, SqT.of ex2, g7, ar, rfl, ⟨_, SqT.of er⟩, fun M1 nM1 => ?_⟩
    refine lc_daM (walk_tup (xs := e.rests.map V.int)) e.rests (why es (ens ys) d kk) (by rw [List.length_map]) hrl nM1 (fun H s => SqT.of (s _ _ er)) ?_ ?_
    · rintro i y x H3 H4 hy s3 ⟨rfl, hx⟩ Q1 q1
      rw [List.getElem?_map, hy] at hx
      injection hx with hx
      subst hx
      obtain ⟨a, hg, hd⟩ := (hW.ext (.of (s12.trans s3))).get hrn (hrr y (List.mem_of_getElem? hy))
      exact ⟨rfl, _, rfl, _, rfl, wd, _, rfl, hg, q1 _ _ (same_refl _) hd⟩
    intro H3 as s3 eM eas hz
    refine ⟨M1, _, rfl, .inl ⟨SqL.of eM, fun t2 nt2 => ?_⟩⟩
    have s4 := same_new nt2 (.tup (as.map fun z => V.ref z.1))
    have e4 : (upd H3 t2 (.tup (as.map fun z => V.ref z.1))) t2 = some (.tup (as.map fun z => V.ref z.1)) := upd_same
    generalize upd H3 t2 (.tup (as.map fun z => V.ref z.1)) = H4 at s4 e4
    have s04 := s12.trans (s3.trans s4)
    have hz4 : ∀ z ∈ as, Da H4 (.ref z.1) z.2 := fun z hzz => (hz z hzz).ext (.of s4)
    have hbel : Da H4 (.ref t2) (.tup (e.rests.map (why es (ens ys) d kk))) := .tup e4 (as_all hz4 eas)
    have elv4 := s4 _ _ (s3 _ _ elv2)
    have elp4 := s4 _ _ (s3 _ _ elp)
    have hP4 := hP.ext (.of s04)
    have hal : as.length ≤ 1000 := by rw [as_len eas, List.length_map]; exact hrl
    rw [why_eq hB (ens ys) d kk hee hed] at q
    have fin : ∀ (H5 : Hp) (t : Addr) (xs : List V) (ds : List Dat), Same H4 H5 → H5 t = none → DaAll (upd H5 t (.tup xs)) xs ds → whyO (ens ys) (st es d kk e) e (e.rests.map (why es (ens ys) d kk)) = .tup ds → Q (.ref t) (upd H5 t (.tup xs)) := fun H5 t xs ds s5 nt hd hw =>
      q t _ ((s04.trans s5).trans (same_new nt _)) (none_back (s04.trans s5) nt) (by rw [hw]; exact .tup upd_same hd)
    rcases st_cases hB d kk hee with ⟨h1, h2⟩ | ⟨h1, h2⟩ | ⟨h1, h2⟩ | ⟨h1, h2, h3⟩ | ⟨h1, h2, h3, h4⟩ | ⟨h1, h2, h3, h4⟩
    case' inl => skip
    case' inr.inl => skip
    case inr.inr.inl =>
      rw [h1] at fin ⊢
      refine ⟨_, rfl, rfl, _, rfl, ?_⟩
      refine iteT ?_
      rw [hO.any (by decide)] at h2
      refine ⟨_, rfl, _, rfl, _, rfl, pd, lv, n, es, ens ys, voids (ens ys) e, d, kk, rfl, hO, hP4, elv4, hsv, hvl, h2, fun a H5 s5 hd5 => ?_⟩
      refine ⟨(by show 3 ≤ sizeLine; decide), fun t3 nt3 => ?_⟩
      exact fin H5 t3 _ _ s5 nt3 (.cons (.str _) (.cons (.int _) (.cons (hd5.ext (.of (same_new nt3 _))) .nil))) rfl
    case inr.inr.inr.inl =>
      rw [h1] at fin ⊢
      refine ⟨_, rfl, rfl, _, rfl, ?_⟩
      refine iteF ?_
      refine ⟨_, rfl, rfl, _, rfl, ?_⟩
      refine iteT ?_
      refine ⟨_, rfl, _, rfl, t2, rfl, ⟨_, SqT.of e4⟩, fun M4 nM4 => ?_⟩
      refine lc_sameV (walk_tup (xs := as.map fun z => V.ref z.1)) as (fun z => lostD z.2) (fun z => .ref z.1) (by rw [List.length_map]) hal nM4 (fun H s => SqT.of (s _ _ e4)) ?_ ?_
      · rintro i y x H5 H6 hy s5 ⟨rfl, hx⟩ Q1 Q0 q1 q0
        rw [List.getElem?_map, hy] at hx
        injection hx with hx
        subst hx
        have hyr : y.2 ∈ e.rests.map (why es (ens ys) d kk) := by rw [← eas]; exact List.mem_map.mpr ⟨y, List.mem_of_getElem? hy, rfl⟩
        obtain ⟨r, hr, hyr⟩ := List.mem_map.mp hyr
        obtain ⟨u, hu, hud, hun, _⟩ := rest_deed hB hee hr
        subst hun
        obtain ⟨rr, e5⟩ := why_head hB (ens ys) d kk hu hud
        have hd5 := (hz4 y (List.mem_of_getElem? hy)).ext (.of s5)
        rw [← hyr, e5] at hd5
        obtain ⟨xs5, ex5, _⟩ := hd5.head
        have hl5 : lostD y.2 = !carries (st es d kk u) := by rw [← hyr]; exact why_lost hB (ens ys) d kk hu hud
        refine ⟨rfl, _, rfl, y.1, _, _, _, rfl, rfl, SqT.of ex5, (atI_nat (j := 0) rfl), a_CARRYING, _, rfl, .inr (sC _), rfl, flat_strs ["stands", "paid"], _, rfl, ?_⟩
        have hin : inV (.str (st es d kk u)) [.str "stands", .str "paid"] = carries (st es d kk u) := mem_inS (ws := ["stands", "paid"])
        rw [hin]
        refine ite2 (fun c => ?_) (fun c => ?_)
        · exact ⟨_, rfl, q1 (by rw [hl5]; exact c) _ (same_refl _)⟩
        · exact q0 (by rw [hl5]; simpa using c) _ (same_refl _)
      intro H5 s5 eM5
      have efl : (e.rests.map (why es (ens ys) d kk)).filter lostD = (as.filter fun z => lostD z.2).map (·.2) := by
        rw [← eas, List.filter_map]
        rfl
      cases hc : as.filter fun z => lostD z.2 with
      | nil =>
        exfalso
        rw [hc, lost_filter hB (ens ys) d kk hee] at efl
        obtain ⟨r, hr, hh⟩ := List.any_eq_true.mp h3
        have : r ∈ e.rests.filter (restLost es d kk) := List.mem_filter.mpr ⟨hr, hh⟩
        cases hf : e.rests.filter (restLost es d kk) with
        | nil => rw [hf] at this; cases this
        | cons a b => rw [hf] at efl; cases efl
      | cons y yr =>
        rw [hc] at efl eM5
        have hym : y ∈ as := (List.mem_filter.mp (show y ∈ as.filter fun z => lostD z.2 by rw [hc]; exact List.mem_cons_self)).1
        refine ⟨M4, _, _, _, rfl, rfl, SqL.of eM5, (atI_nat (j := 0) rfl), (by show 3 ≤ sizeLine; decide), fun t5 nt5 => ?_⟩
        refine fin H5 t5 _ _ s5 nt5 (.cons (.str _) (.cons (.int _) (.cons (((hz4 y hym).ext (.of s5)).ext (.of (same_new nt5 _))) .nil))) ?_
        show Dat.tup [.str "fallen", .int e.num, ((e.rests.map (why es (ens ys) d kk)).filter lostD).headD .non] = _
        rw [efl]
        rfl
    case inr.inr.inr.inr.inl =>
      rw [h1] at fin ⊢
      refine ⟨_, rfl, rfl, _, rfl, ?_⟩
      refine iteF ?_
      refine ⟨_, rfl, rfl, _, rfl, ?_⟩
      refine iteF ?_
      refine ⟨_, rfl, rfl, _, rfl, ?_⟩
      refine iteT ?_
      refine ⟨_, rfl, lv, rfl, ⟨_, SqL.of elv4⟩, fun M6 nM6 => ?_⟩
      refine lc_daM (walk_list (xs := ((voids (ens ys) e).map (·.num)).map V.int)) (voids (ens ys) e) (pap (ens ys)) (by rw [List.length_map, List.length_map]) hvl nM6 (fun H s => SqL.of (s _ _ elv4)) ?_ ?_
      · rintro i y x H5 H6 hy s5 ⟨rfl, hx⟩ Q1 q1
        rw [List.getElem?_map, List.getElem?_map, hy] at hx
        injection hx with hx
        subst hx
        obtain ⟨a, hg, hd⟩ := (hP4.ext (.of s5)).get hO.nodup (List.mem_reverse.mpr (hsv y (List.mem_of_getElem? hy)))
        exact ⟨rfl, _, rfl, _, rfl, pd, _, rfl, hg, q1 _ _ (same_refl _) hd⟩
      intro H5 bs s5 eM5 ebs hzb
      refine ⟨M6, _, rfl, .inl ⟨SqL.of eM5, fun t7 nt7 => ?_⟩⟩
      have s6 := same_new nt7 (.tup (bs.map fun z => V.ref z.1))
      have e6 : (upd H5 t7 (.tup (bs.map fun z => V.ref z.1))) t7 = some (.tup (bs.map fun z => V.ref z.1)) := upd_same
      generalize upd H5 t7 (.tup (bs.map fun z => V.ref z.1)) = H6 at s6 e6
      have hnos : Da H6 (.ref t7) (.tup ((voids (ens ys) e).map (pap (ens ys)))) := .tup e6 (as_all (fun z hz => (hzb z hz).ext (.of s6)) ebs)
      rw [hO.any (by decide)] at h4
      have s56 := s5.trans s6
      refine ⟨_, rfl, _, rfl, _, rfl, _, rfl, _, rfl, pd, lp, n, es, ens ys, paids (ens ys) e, d, kk, rfl, hO, hP4.ext (.of s56), s56 _ _ elp4, hsp, hpl, h4, fun a H7 s7 hd7 => ?_⟩
      refine ⟨(by show 5 ≤ sizeLine; decide), fun t8 nt8 => ?_⟩
      have s8 := same_new nt8 (.tup [.str "paid", .int e.num, .ref t7, .ref t2, .ref a])
      exact fin H7 t8 _ _ (s56.trans s7) nt8 (.cons (.str _) (.cons (.int _) (.cons (hnos.ext (.of (s7.trans s8))) (.cons (hbel.ext (.of (s56.trans (s7.trans s8)))) (.cons (hd7.ext (.of s8)) .nil))))) rfl
    case inr.inr.inr.inr.inr =>
      rw [h1] at fin ⊢
      refine ⟨_, rfl, rfl, _, rfl, ?_⟩
      refine iteF ?_
      refine ⟨_, rfl, rfl, _, rfl, ?_⟩
      refine iteF ?_
      refine ⟨_, rfl, rfl, _, rfl, ?_⟩
      refine iteF ?_
      refine ⟨_, rfl, rfl, _, rfl, ?_⟩
      refine iteT ?_
      refine ⟨_, rfl, _, rfl, lv, lp, _, _, rfl, rfl, elv4, elp4, ?_, fun q10 nq10 => ?_⟩
      · rw [List.length_map, List.length_map, List.length_map, List.length_map]
        have a1 := List.length_filter_le (isOn "void" e.num) (ens ys)
        have a2 := List.length_filter_le (isOn "paid" e.num) (ens ys)
        rw [List.length_map] at a1 a2
        exact Nat.le_of_lt (small1000 (by omega))
      rw [← List.map_append]
      have s5 := same_new nq10 (.lst (((voids (ens ys) e).map (·.num) ++ (paids (ens ys) e).map (·.num)).map V.int))
      have e5 : (upd H4 q10 (.lst (((voids (ens ys) e).map (·.num) ++ (paids (ens ys) e).map (·.num)).map V.int))) q10 = some (.lst (((voids (ens ys) e).map (·.num) ++ (paids (ens ys) e).map (·.num)).map V.int)) := upd_same
      generalize upd H4 q10 (.lst (((voids (ens ys) e).map (·.num) ++ (paids (ens ys) e).map (·.num)).map V.int)) = H5 at s5 e5
      refine ⟨q10, _, rfl, SqL.of e5, fun ns q11 pm up nq11 => ?_⟩
      obtain rfl := both_sorted hO e pm up
      have s6 := same_new nq11 (.lst (((both (ens ys) e).map (·.num)).map V.int))
      have e6 : (upd H5 q11 (.lst (((both (ens ys) e).map (·.num)).map V.int))) q11 = some (.lst (((both (ens ys) e).map (·.num)).map V.int)) := upd_same
      generalize upd H5 q11 (.lst (((both (ens ys) e).map (·.num)).map V.int)) = H6 at s6 e6
      have s46 := s5.trans s6
      have hbl : (both (ens ys) e).length ≤ 1000 := by
        have := List.length_filter_le (fun u => isOn "void" e.num u || isOn "paid" e.num u) (ens ys)
        rw [List.length_map] at this
        exact Nat.le_trans this (by omega)
      refine ⟨q11, rfl, ⟨_, SqL.of e6⟩, fun M12 nM12 => ?_⟩
      refine lc_daM (walk_list (xs := ((both (ens ys) e).map (·.num)).map V.int)) (both (ens ys) e) (pap (ens ys)) (by rw [List.length_map, List.length_map]) hbl nM12 (fun H s => SqL.of (s _ _ e6)) ?_ ?_
      · rintro i y x H7 H8 hy s7 ⟨rfl, hx⟩ Q1 q1
        rw [List.getElem?_map, List.getElem?_map, hy] at hx
        injection hx with hx
        subst hx
        obtain ⟨a, hg, hd⟩ := (hP4.ext (.of (s46.trans s7))).get hO.nodup (List.mem_reverse.mpr (List.mem_filter.mp (List.mem_of_getElem? hy)).1)
        exact ⟨rfl, _, rfl, _, rfl, pd, _, rfl, hg, q1 _ _ (same_refl _) hd⟩
      intro H7 bs s7 eM7 ebs hzb
      refine ⟨M12, _, rfl, .inl ⟨SqL.of eM7, fun t13 nt13 => ?_⟩⟩
      have s8 := same_new nt13 (.tup (bs.map fun z => V.ref z.1))
      have e8 : (upd H7 t13 (.tup (bs.map fun z => V.ref z.1))) t13 = some (.tup (bs.map fun z => V.ref z.1)) := upd_same
      generalize upd H7 t13 (.tup (bs.map fun z => V.ref z.1)) = H8 at s8 e8
      have hnos : Da H8 (.ref t13) (.tup ((both (ens ys) e).map (pap (ens ys)))) := .tup e8 (as_all (fun z hz => (hzb z hz).ext (.of s8)) ebs)
      refine ⟨_, rfl, _, rfl, _, rfl, (by show 4 ≤ sizeLine; decide), fun t14 nt14 => ?_⟩
      have s9 := same_new nt14 (.tup [.str "stands", .int e.num, .ref t13, .ref t2])
      exact fin H8 t14 _ _ (s46.trans (s7.trans s8)) nt14 (.cons (.str _) (.cons (.int _) (.cons (hnos.ext (.of s9)) (.cons (hbel.ext (.of (s46.trans (s7.trans (s8.trans s9))))) .nil)))) rfl
    all_goals
      rw [h1] at fin ⊢
      refine ⟨_, rfl, rfl, _, rfl, ?_⟩
      refine iteF ?_
      refine ⟨_, rfl, rfl, _, rfl, ?_⟩
      refine iteF ?_
      refine ⟨_, rfl, rfl, _, rfl, ?_⟩
      refine iteF ?_
      refine ⟨_, rfl, rfl, _, rfl, ?_⟩
      refine iteF ?_
      refine ⟨_, rfl, _, rfl, (by show 2 ≤ sizeLine; decide), fun t15 nt15 => ?_⟩
      exact fin H4 t15 _ _ (same_refl _) nt15 (.cons (.str _) (.cons (.int _) .nil)) rfl
end
end Deed

namespace Deed
open PySem PySem.Spec PyProof.Rows L2 LamX
theorem wdE_get {H : Hp} {wd : Addr} {es : List En} {d k : Int} {zs ys : List (Addr × En)} (hD : DeedsUp zs ys) (e : H wd = some (.dK (wdE es d k (ens ys)))) {u : En} (hu : u ∈ ens zs) (hd : u.isDeed = true) : DGet H wd (.int u.num) (some (.str (st es d k u))) := by
  obtain ⟨v, hv, rfl⟩ := List.mem_map.mp ((hD.2.1 u).mpr ⟨hu, hd⟩)
  have h4 := DGet.k (k := Sum.inl v.2.num) e
  have hnd := hD.nodup
  rw [show (ens ys).map (·.num) = ys.map (fun z => z.2.num) by simp [ens, List.map_map, Function.comp_def]] at hnd
  have hv1 := valV_map (f := fun z : Addr × En => z.2.num) (g := fun z : Addr × En => V.str (st es d k z.2)) hnd hv
  rw [show wdE es d k (ens ys) = ys.map (fun z : Addr × En => ((Sum.inl z.2.num : Key), V.str (st es d k z.2))) by simp [wdE, ens, List.map_map, Function.comp_def], hv1] at h4
  exact h4
theorem deedsUp_of {zs zs' : List (Addr × En)} (hl : zs.length ≤ 16) (pm : zs'.Perm zs) (so : zs'.Pairwise (fun a b => a.2.num < b.2.num)) : DeedsUp zs (zs'.filter fun z => z.2.isDeed) := by
  refine ⟨so.filter _, fun x => ?_, ?_⟩
  · constructor
    · intro hx
      obtain ⟨z, hz, rfl⟩ := List.mem_map.mp hx
      exact ⟨List.mem_map.mpr ⟨z, pm.mem_iff.mp (List.mem_filter.mp hz).1, rfl⟩, (List.mem_filter.mp hz).2⟩
    · rintro ⟨hx, hd⟩
      obtain ⟨z, hz, rfl⟩ := List.mem_map.mp hx
      exact List.mem_map.mpr ⟨z, List.mem_filter.mpr ⟨pm.mem_iff.mpr hz, hd⟩, rfl⟩
  · have h1 := List.length_filter_le (fun z : Addr × En => z.2.isDeed) zs'
    have h2 := pm.length_eq
    omega
theorem WhyD.put {H : Hp} {wd t : Addr} {es ys : List En} {d k m : Int} {rs : List Int} (h : WhyD H wd es ys d k rs) (hm : m ∉ rs) (hl : rs.length ≤ 100) (ht : Da H (.ref t) (why es ys d k m)) : ∃ kv, DPut H wd (.int m) (.ref t) (upd H wd (.dK kv)) ∧ WhyD (upd H wd (.dK kv)) wd es ys d k (rs ++ [m]) ∧ ∃ kv0, H wd = some (.dK kv0) := by
  obtain ⟨ps, rfl, h2, h3⟩ := h
  rw [List.length_map] at hl
  have hnew : valV (ps.map fun z => ((Sum.inl z.1 : Key), V.ref z.2)) (Sum.inl m) = none := by
    refine valV_none fun q hq => ?_
    obtain ⟨y, hy, rfl⟩ := List.mem_map.mp hq
    intro e
    injection e with e
    exact hm (List.mem_map.mpr ⟨y, hy, e⟩)
  have hp := DPut.k (k := Sum.inl m) (v := V.ref t) h2 (small1000 (by rw [List.length_map]; omega))
  rw [L2.putK_new _ hnew] at hp
  refine ⟨_, hp, ⟨ps ++ [(m, t)], ?_, ?_, fun y hy => ?_⟩, _, h2⟩
  · rw [List.map_append]
    rfl
  · rw [upd_same, List.map_append]
    rfl
  · rcases List.mem_append.mp hy with hy | hy
    · exact (h3 y hy).putD h2 _
    · rw [List.mem_singleton.mp hy]
      exact ht.putD h2 _
section
variable {P : Program} {w : World} {K : PySem.W.Frag} {mg : Str → Option Value} {base : Heap} {T : List (Addr × Str)}
abbrev sWhyOf : Stmt := topS 35
abbrev nWhyOf : List Str := ["book", "deed", "d", "k", "words", "acts", "papers", "whys", "entry"]
abbrev pWhyOf : List Str := ["book", "deed", "d", "k"]
theorem scWhyOf : FnScope nWhyOf pWhyOf (defScope sWhyOf) := ⟨rfl, rfl, rfl, by decide +kernel, rfl, by decide +kernel, by decide +kernel⟩
def spWhyOf (T : List (Addr × Str)) : Sp := fun vs H Q _ => ∃ (b fk t : Addr) (n : Nat) (age : Int) (zs : List (Addr × En)) (e : En) (d k : Int), vs = [.ref b, .int e.num, .int d, .int k] ∧ BookAt H b fk t n age zs ∧ Tabs T H ∧ e ∈ ens zs ∧ e.isDeed = true ∧ (0 ≤ d ∧ d ≤ 9999) ∧ (0 ≤ k ∧ k ≤ 9999) ∧
  ∀ (a : Addr) (ys : List En) (H' : Hp), ExtN H H' → Tabs T H' → Oa n (ens zs) d k ys → Da H' (.ref a) (why (ens zs) ys d k e.num) → Q (.ref a) H'
theorem ok_whyOf {f : Addr} {fd : FuncData} {k : Nat} {dv : List V} (F : FunD K "why_of" "why_of" (defArgs sWhyOf) (defBody sWhyOf) (defScope sWhyOf) dv [] f fd) (C_check_deed : CallOk P w K mg base k "check_deed" ["book", "thing"] (spCkDeed T)) (C_all_standing : CallOk P w K mg base k "all_standing" pAllSt (spAllSt T)) (C_open_acts : CallOk P w K mg base k "open_acts" ["book", "d", "k"] (spOpenA T)) (C_papers_of : CallOk P w K mg base k "papers_of" pPapersOf spPapersOf) (C_deed_entries : CallOk P w K mg base k "deed_entries" ["book"] (spPick (·.isDeed) T)) (C_why_over : CallOk P w K mg base k "why_over" pWhyOver spWhyOver) (iNUMBER : MgInt mg "NUMBER" 0) : FnOk P w K mg base CX0 (k + 1) f fd pWhyOf (spWhyOf T) := by
  refine F.ok scWhyOf (fun vs H Q E h => ?_) (fun cdv A outer s H vs Q E hr h => ?_)
  · obtain ⟨b, fk, t, n, age, zs, e, d, k, rfl, _⟩ := h
    rfl
  · obtain ⟨b, fk, t, n, age, zs, e, d, kk, rfl, hB, hT, hee, hed, hd0, hk0, q⟩ := h
    have nd := scWhyOf.nd
    have hu := hu_of hr
    refine ⟨_, PSs.nox (pss_cons (ps_expr (pe_call C_check_deed.ok hr (by rfl) C_check_deed.g C_check_deed.kp C_check_deed.b .nil pass0 (pa_cons (pv 0) (pa_cons (pv 1) pa_nil))))
      (pss_cons (ps_set (i := 4) nd rfl (.inl rfl) (pe_call C_all_standing.ok hr (by rfl) C_all_standing.g C_all_standing.kp C_all_standing.b .nil pass0 (pa_cons (pv 0) (pa_cons (pv 2) (pa_cons (pv 3) pa_nil)))))
      (pss_cons (ps_set (i := 5) nd rfl (.inl rfl) (pe_call C_open_acts.ok hr (by rfl) C_open_acts.g C_open_acts.kp C_open_acts.b .nil pass0 (pa_cons (pv 0) (pa_cons (pv 2) (pa_cons (pv 3) pa_nil)))))
      (pss_cons (ps_set (i := 6) nd rfl (.inl rfl) (pe_call C_papers_of.ok hr (by rfl) C_papers_of.g C_papers_of.kp C_papers_of.b .nil pass0 (pa_cons (pv 5) pa_nil)))
      (pss_cons (ps_set (i := 7) nd rfl (.inl rfl) pe_dnewK)
      (pss_cons (ps_for PassesOwn.never rfl (pi_list (pe_call C_deed_entries.ok hr (by rfl) C_deed_entries.g C_deed_entries.kp C_deed_entries.b .nil pass0 (pa_cons (pv 0) pa_nil))) (pg_name (i := 8) nd rfl (.inl rfl))
        (pss_one (ps_dput hu (pv 7) (pe_ix ix_tup (pv 8) (pe_num (by rfl) iNUMBER) (fun _ _ => rfl)) (pe_call C_why_over.ok hr (by rfl) C_why_over.g C_why_over.kp C_why_over.b .nil pass0 (pa_cons (pv 8) (pa_cons (pe_dget hu (pv 4) (pe_ix ix_tup (pv 8) (pe_num (by rfl) iNUMBER) (fun _ _ => rfl)) (fun _ _ => rfl)) (pa_cons (pv 5) (pa_cons (pv 6) (pa_cons (pv 7) pa_nil)))))) rfl)))
      (pss_one (ps_ret (pe_dget hu (pv 7) (pv 1) (fun _ _ => rfl)))))))))), ?_⟩
    refine ⟨_, rfl, _, rfl, b, fk, t, n, age, zs, e, rfl, hB, hT, hee, hed, fun H1 e1 T1 => ?_⟩
    have hB1 := hB.kp (ExtN.tup e1)
    refine ⟨_, rfl, _, rfl, _, rfl, b, fk, t, n, age, zs, d, kk, rfl, hB1, T1, hd0, hk0, fun wo us H2 e2 T2 fr2 ew hDU => ?_⟩
    have e02 := e1.trans e2
    have hB2 := hB.kp (ExtN.tup e02)
    refine ⟨_, rfl, _, rfl, _, rfl, b, fk, t, n, age, zs, d, kk, rfl, hB2, T2, fun la ys H3 e3 T3 fr3 el hE hOA => ?_⟩
    have e03 := e02.trans e3
    have hO := hOA.oa hB.ok
    have hyl := hOA.len
    refine ⟨_, rfl, la, n, ens zs, d, kk, ys, rfl, el, hE, hO, by omega, fun pd H4 s4 npd hP => ?_⟩
    have e04 := e03.trans (.of s4)
    refine fun wd nwd => ?_
    have e5 : ExtN H4 (upd H4 wd (.dK [])) := ExtN.new nwd _
    have T5 : Tabs T (upd H4 wd (.dK [])) := Tabs.new (T3.ext s4) nwd _
    have ewd : (upd H4 wd (.dK [])) wd = some (.dK []) := upd_same
    generalize (upd H4 wd (.dK [])) = H5 at e5 T5 ewd
    have e05 := e04.trans e5
    have hB5 := hB.kp (ExtN.tup e05)
    have nl : ∀ xs : List V, ∀ ps, HO.lst xs ≠ .tbl ps := fun xs ps z => by cases z
    have nk : ∀ kv : List (Key × V), ∀ ps, HO.dK kv ≠ .tbl ps := fun xs ps z => by cases z
    refine ⟨_, rfl, b, fk, t, n, age, zs, rfl, hB5, T5, fun p6 zs' H6 e6 T6 fr6 ep6 pm so => ?_⟩
    have hDs : DeedsUp zs (zs'.filter fun z => z.2.isDeed) := deedsUp_of hB.len pm so
    have hsub : ∀ z ∈ zs'.filter (fun z => z.2.isDeed), z ∈ zs ∧ z.2.isDeed = true := fun z hz => ⟨pm.mem_iff.mp (List.mem_filter.mp hz).1, (List.mem_filter.mp hz).2⟩
    generalize (zs'.filter fun z => z.2.isDeed) = ds at ep6 hsub hDs
    have hdl := hDs.2.2
    have nwp : wd ≠ p6 := fr6.ne ewd (nk _)
    have frw : Fresh H4 wd := fun o z => by rw [nwd] at z; cases z
    have hnd : ((ens ds).map (·.num)).Nodup := hDs.nodup
    refine ⟨p6, rfl, ⟨_, SqL.of ep6⟩, ?_⟩
    refine for_list (K := K) (a := p6) (xs := refs ds) (fun i σ H' => ∃ y8, σ = [some (.ref b), some (.int e.num), some (.int d), some (.int kk), some (.ref wo), some (.ref la), some (.ref pd), some (.ref wd), y8] ∧ ExtN H4 H' ∧ Tabs T H' ∧ H' p6 = some (.lst (refs ds)) ∧ WhyD H' wd (ens zs) (ens ys) d kk (((ens ds).map (·.num)).take i)) ⟨none, rfl, e5.trans e6, T6, ep6, [], rfl, e6 _ _ ewd (nk _), fun _ h => nomatch h⟩ (fun i σ H' _ h => ?_) ?_ ?_
    · obtain ⟨_, _, _, _, e, _⟩ := h
      exact SqL.of e
    · rintro i x σ H7 hx ⟨y8, rfl, e7, T7, ep7, hW⟩
      obtain ⟨z, hz, rfl⟩ := ref_at hx
      have hzm := List.mem_of_getElem? hz
      have hi : i < ds.length := (List.getElem?_eq_some_iff.mp hz).1
      obtain ⟨hz1, hz2⟩ := hsub z hzm
      have hez : z.2 ∈ ens zs := List.mem_map.mpr ⟨z, hz1, rfl⟩
      have hEz := (hB.ent z hz1).kp (ExtN.tup (e04.trans e7))
      obtain ⟨xs, ex, g0, _⟩ := hEz.tup
      have hn7 : ((ens ds).map (·.num))[i]? = some z.2.num := by
        rw [List.getElem?_map, List.getElem?_map, hz]
        rfl
      have ew7 : H7 wo = some (.dK (wdE (ens zs) d kk (ens us))) := e7 _ _ (s4 _ _ (e3 _ _ ew (nk _))) (nk _)
      have hE7 : ∀ u ∈ ys, EntAt H7 u.1 u.2 := fun u hu => (hE u hu).kp (ExtN.tup (ExtN.trans (.of s4) e7))
      have hin : ∀ r ∈ z.2.rests, r ∈ ((ens ds).map (·.num)).take i := fun r hr => by
        obtain ⟨u, hu, hud, hun, hlt⟩ := rest_deed hB.ok hez hr
        have hud2 : u ∈ ens ds := (hDs.2.1 u).mpr ⟨hu, hud⟩
        obtain ⟨j, hj, ej⟩ := List.mem_iff_getElem.mp (List.mem_map.mpr ⟨u, hud2, hun⟩ : r ∈ (ens ds).map (·.num))
        refine List.mem_take_iff_getElem.mpr ⟨j, ?_, ej⟩
        rcases Nat.lt_or_ge j i with h | h
        · omega
        · exfalso
          have hup : ((ens ds).map (·.num)).Pairwise (· < ·) := by
            rw [List.pairwise_map, List.pairwise_map]
            exact hDs.1
          obtain ⟨hi1, hi2⟩ := List.getElem?_eq_some_iff.mp hn7
          rcases Nat.eq_or_lt_of_le h with h | h
          · subst h
            rw [hi2] at ej
            omega
          · have := List.pairwise_iff_getElem.mp hup i j hi1 hj h
            omega
      have hnt : (((ens ds).map (·.num)).take i).Nodup := (List.take_sublist _ _).nodup hnd
      refine ⟨_, rfl, _, rfl, _, rfl, z.1, _, _, _, rfl, rfl, SqT.of ex, g0, wo, _, rfl, wdE_get hDU ew7 hez hz2, _, rfl, _, rfl, _, rfl, z.1, la, pd, wd, n, ens zs, z.2, d, kk, ys, _, rfl, hEz, hez, hz2, e7 _ _ (s4 _ _ el) (nl _), hE7, hO, hyl, hP.ext e7, hW, hnt, hin, fun t8 H8 s8 nt8 hd8 => ?_⟩
      obtain ⟨xs8, ex8, g8, _⟩ := (hEz.kp (Same.tup s8)).tup
      have hnew : z.2.num ∉ ((ens ds).map (·.num)).take i := fun hm => by
        obtain ⟨j, hj, ej⟩ := List.mem_take_iff_getElem.mp hm
        obtain ⟨hi1, hi2⟩ := List.getElem?_eq_some_iff.mp hn7
        exact List.pairwise_iff_getElem.mp (List.nodup_iff_pairwise_ne.mp hnd) j i (by omega) hi1 (by omega) (ej.trans hi2.symm)
      obtain ⟨kv, hput, hW9, kv0, ekv⟩ := (hW.ext (.of s8)).put hnew (by rw [List.length_take, List.length_map, List.length_map]; omega) hd8
      refine ⟨_, rfl, _, rfl, z.1, _, _, _, rfl, rfl, SqT.of ex8, g8, wd, _, rfl, hput, ?_⟩
      refine ⟨_, rfl, ExtN.put (e7.trans (.of s8)) frw _, Tabs.lock (T7.ext s8) ekv _, ?_, ?_⟩
      · rw [upd_ne nwp.symm]
        exact s8 _ _ ep7
      · rw [take_more hn7]
        exact hW9
    · rintro σ H7 ⟨y8, rfl, e7, T7, ep7, hW⟩
      rw [show (refs ds).length = ((ens ds).map (·.num)).length by rw [List.length_map, List.length_map, List.length_map], List.take_length] at hW
      obtain ⟨a, hg, hda⟩ := hW.get hnd (List.mem_map.mpr ⟨e, (hDs.2.1 e).mpr ⟨hee, hed⟩, rfl⟩)
      exact ⟨_, rfl, _, rfl, wd, _, rfl, hg, q a (ens ys) H7 (e04.trans e7) T7 hO hda⟩
end
end Deed

namespace Deed
open PySem PySem.Spec PyProof.Rows L2
/-! ### zip of lists and tuples in whatever mix: true is a list -/
def Sq2 (K : PySem.W.Frag) : Bool → Hp → Addr → List V → Prop
  | true, H, a, xs => SqL K H a xs
  | false, H, a, xs => SqT K H a xs
def IsB : Bool → Heap → Addr → Array Value → Prop
  | true, h, a, its => h.IsList a its
  | false, h, a, its => h.IsTuple a its
def IterB : Bool → Heap → Addr → Addr → Nat → Prop
  | true, h, it, a, i => h.IsListIter it a i
  | false, h, it, a, i => h.IsTupleIter it a i
theorem IterB.at {c : Bool} {h h' : Heap} {it a : Addr} {i : Nat} (x : IterB c h it a i) (k : ∀ o, h.get? it = some o → h'.get? it = some o) : IterB c h' it a i := by
  cases c with
  | true => exact Heap.IsListIter.at x k
  | false => exact Heap.IsTupleIter.at x k
theorem IterB.obj {c : Bool} {h : Heap} {it a : Addr} {i : Nat} (x : IterB c h it a i) : ∃ o, h.get? it = some o ∧ ∀ v, o.data ≠ .cell v := by
  cases c with
  | true =>
    obtain ⟨o, e, _, dt⟩ := x
    exact ⟨o, e, fun v q => by rw [dt] at q; cases q⟩
  | false =>
    obtain ⟨o, e, _, dt⟩ := x
    exact ⟨o, e, fun v q => by rw [dt] at q; cases q⟩
theorem drawsB {prog : Program} {w : World} {A : Around} (hh : A.handled = none) (c : Bool) (it l : Addr) (hne : l ≠ it) (items : Array Value) : Draws prog w A it [it, l] items.size (fun i v => items[i]? = some v) (fun i h => IterB c h it l i ∧ IsB c h l items) := by
  cases c with
  | true => exact Draws.list hh it l hne items
  | false => exact Draws.tuple hh it l hne items
section
variable {X : Cx} {pins : List (Addr × Obj)} {σ : L2.St} {H : Hp} {s : Shared}
theorem sq2_is {c : Bool} {a : Addr} {xs : List V} (I : Inv X pins σ H s) (q : Sq2 X.K c H a xs) : ∃ its, Vals xs its ∧ IsB c s.heap a its.toArray ∧ a < s.heap.objs.size := by
  cases c with
  | true =>
    obtain ⟨its, rv, pp, _⟩ := I.list q
    exact ⟨its, rv, pp.isList, pp.lt⟩
  | false =>
    obtain ⟨its, rv, pp, _⟩ := I.tuple q
    obtain ⟨oo, ho, _⟩ := id pp
    exact ⟨its, rv, pp, Heap.lt_size ho⟩
theorem sq2_inj {c : Bool} {a : Addr} {xs ys : List V} (I : Inv X pins σ H s) (q : Sq2 X.K c H a xs) (q' : Sq2 X.K c H a ys) : xs = ys := by
  cases c with
  | true => exact I.list_inj q q'
  | false => exact I.tuple_inj q q'
end
def ItzB (K : PySem.W.Frag) (c1 c2 : Bool) (a b : Addr) : It :=
  ⟨fun i H => ∃ (xs ys : List V) (x y : V), Sq2 K c1 H a xs ∧ Sq2 K c2 H b ys ∧ xs[i]? = some x ∧ ys[i]? = some y,
    fun i H v H' => ∃ T x y, v = .ref T ∧ H T = none ∧ H' = upd H T (.tup [x, y]) ∧ (∀ xs, Sq2 K c1 H a xs → xs[i]? = some x) ∧ ∀ ys, Sq2 K c2 H b ys → ys[i]? = some y,
    fun i H => ∃ xs ys : List V, Sq2 K c1 H a xs ∧ Sq2 K c2 H b ys ∧ i ≤ xs.length ∧ i ≤ ys.length ∧ (xs.length = i ∨ ys.length = i)⟩
theorem turn_zipB {P : Program} {w : World} {K : PySem.W.Frag} {elts : List Expr} {kk : Nat} {tpos : Pos} {c1 c2 : Bool} {a b z TI TO i1 i2 : Addr} (S : ZipSep2 z TI TO i1 i2 [i1, a] [i2, b]) (na : a ≠ i1) (nb : b ≠ i2) :
    Turn P w K (.Tuple elts kk tpos) (ItzB K c1 c2 a b) [z, TI, TO, i1, i2] z (fun i h => IsZip h z TI TO .none ∧ IsTupOf2 h TI (.ref i1) (.ref i2) ∧ (∃ x y, IsTupOf2 h TO x y) ∧ IterB c1 h i1 a i ∧ IterB c2 h i2 b i) where
  mem := List.mem_cons_self
  obj := fun i h st c hc => by
    obtain ⟨hz, hTI, ⟨x, y, hTO⟩, k1, k2⟩ := st
    rcases (show c = z ∨ c = TI ∨ c = TO ∨ c = i1 ∨ c = i2 by simpa using hc) with rfl | rfl | rfl | rfl | rfl
    · exact ⟨_, hz, fun v q => by cases q⟩
    · exact ⟨_, hTI, fun v q => by cases q⟩
    · exact ⟨_, hTO, fun v q => by cases q⟩
    · exact k1.obj
    · exact k2.obj
  keep := fun i h h' st k => by
    obtain ⟨hz, hTI, ⟨x, y, hTO⟩, k1, k2⟩ := st
    refine ⟨k z (by simp) _ hz, k TI (by simp) _ hTI, ⟨x, y, k TO (by simp) _ hTO⟩, ?_, ?_⟩
    · exact k1.at (k i1 (by simp))
    · exact k2.at (k i2 (by simp))
  item := by
    intro X eP ew eK cal i pins s σ H E I hf st hg
    subst eP ew eK
    obtain ⟨hz, hTI, ⟨x0, y0, hTO⟩, k1, k2⟩ := st
    obtain ⟨xs, ys, x, y, qa, qb, gx, gy⟩ := hg
    obtain ⟨va, ra, pa, _⟩ := sq2_is I qa
    obtain ⟨vb, rb, pb, _⟩ := sq2_is I qb
    obtain ⟨u, hu, ru⟩ := ra.get gx
    obtain ⟨t, ht, rt⟩ := rb.get gy
    have hh : X.A.in1.handled = none := I.ok.hd cal
    have zl : z < s.heap.objs.size := Heap.lt_size hz
    have li : i < va.toArray.size := by simpa using (List.getElem?_eq_some_iff.mp hu).1
    have lj : i < vb.toArray.size := by simpa using (List.getElem?_eq_some_iff.mp ht).1
    refine wpAny_pyNext_zipD2_item S (drawsB hh c1 i1 a na va.toArray) (drawsB hh c2 i2 b nb vb.toArray) hz hTI hTO ⟨k1, pa⟩ ⟨k2, pb⟩ li lj fun x1 x2 h1 tk p1 p2 z1 TO1 st1 st2 hT hsz hk => ?_
    obtain rfl : u = x1 := by simpa [hu] using p1
    obtain rfl : t = x2 := by simpa [ht] using p2
    refine ⟨_, rfl, wpAny_letOwnedTupleGo_zip (s := { s with heap := h1, toks := tk }) z1 fun h2 z2 sb => ?_⟩
    have hT2 : h2.get? s.heap.objs.size = some { cls := .type "tuple", data := .seq #[u, t] } := (sb.2 _ (Nat.ne_of_gt zl)).trans hT
    have ok : ObjOk X.prog X.w (upd H s.heap.objs.size (.tup [x, y])) h2 s.heap.objs.size (.tup [x, y]) := ⟨by show 2 ≤ sizeLine; decide, [u, t], .cons ru (.cons rt .nil), ⟨_, hT2, rfl, _, rfl⟩⟩
    have I2 : Inv X pins σ (upd H s.heap.objs.size (.tup [x, y])) { s with heap := h2, toks := tk } := by
      refine I.turnedNew (ch := [z, TI, TO, i1, i2]) (fun c o hc q => ?_) hf (Nat.le_refl _) ok
      simp only [List.mem_cons, List.not_mem_nil, or_false, not_or] at hc
      exact (sb.2 c hc.1).trans (hk c o hc.1 hc.2.2.1 hc.2.2.2.1 hc.2.2.2.2 q)
    refine ⟨.ref s.heap.objs.size, _, I2, rfl, ⟨_, x, y, rfl, I.hok.fresh (Nat.le_refl _), rfl, fun l hl => ?_, fun l hl => ?_⟩, ⟨z2, ?_, ⟨u, t, ?_⟩, ?_, ?_⟩, fun c hc => ?_⟩
    · rw [sq2_inj I hl qa]
      exact gx
    · rw [sq2_inj I hl qb]
      exact gy
    · exact (sb.2 _ S.TIz).trans (hk _ _ S.TIz S.TITO S.TIi1 S.TIi2 hTI)
    · exact (sb.2 _ S.TOz).trans TO1
    · exact st1.1.at fun o q => (sb.2 _ S.zi1.symm).trans q
    · exact st2.1.at fun o q => (sb.2 _ S.zi2.symm).trans q
    · have hlt : c < s.heap.objs.size := by
        obtain ⟨o1, e1, _⟩ := k1.obj
        obtain ⟨o2, e2, _⟩ := k2.obj
        rcases (show c = z ∨ c = TI ∨ c = TO ∨ c = i1 ∨ c = i2 by simpa using hc) with rfl | rfl | rfl | rfl | rfl
        · exact zl
        · exact Heap.lt_size hTI
        · exact Heap.lt_size hTO
        · exact Heap.lt_size e1
        · exact Heap.lt_size e2
      rw [upd_ne (Nat.ne_of_lt hlt)]
      exact (hf c hc).1
  done := by
    intro X eP ew eK cal i pins s σ H E I hf st hg
    subst eP ew eK
    obtain ⟨hz, hTI, ⟨x0, y0, hTO⟩, k1, k2⟩ := st
    obtain ⟨xs, ys, qa, qb, l1, l2, hend⟩ := hg
    obtain ⟨va, ra, pa, _⟩ := sq2_is I qa
    obtain ⟨vb, rb, pb, _⟩ := sq2_is I qb
    have hh : X.A.in1.handled = none := I.ok.hd cal
    have la := ra.length
    have lb := rb.length
    refine wpAny_pyNext_zipD2_end S (drawsB hh c1 i1 a na va.toArray) (drawsB hh c2 i2 b nb vb.toArray) hz hTI hTO ⟨k1, pa⟩ ⟨k2, pb⟩ (by simp; omega) (by simp; omega) (by simp; omega) fun h1 tk hk => ⟨rfl, ?_⟩
    refine I.turnedL (ch := [z, TI, TO, i1, i2]) (fun c o hc q => ?_) hf
    simp only [List.mem_cons, List.not_mem_nil, or_false, not_or] at hc
    exact hk c o hc.1 hc.2.2.1 hc.2.2.2.1 hc.2.2.2.2 q
  self := fun A i s Q E st q => wpAny_pyIter_zip st.1 q
theorem begB (c : Bool) (l : Addr) (its : Array Value) : ∃ o, Begins (.ref l) o (fun h => IsB c h l its) ∧ ∀ h it, h.get? it = some o → IterB c h it l 0 := by
  cases c with
  | true => exact ⟨_, begins_list l its, fun h it e => ⟨_, e, rfl, rfl⟩⟩
  | false => exact ⟨_, begins_tuple l its, fun h it e => ⟨_, e, rfl, rfl⟩⟩
theorem sep_new {m a b : Nat} (la : a < m) (lb : b < m) : ZipSep2 (m + 4) (m + 2) (m + 3) m (m + 1) [m, a] [m + 1, b] := by
  constructor <;> simp <;> (try constructor) <;> (try (first | (refine Nat.ne_of_gt ?_; omega) | (refine Nat.ne_of_lt ?_; omega)))
def iZipB (K : PySem.W.Frag) (c1 c2 : Bool) (ta : TA) : TI := fun σ H R => ta σ H fun vs H1 => ∃ a b xs ys, vs = [.ref a, .ref b] ∧ Sq2 K c1 H1 a xs ∧ Sq2 K c2 H1 b ys ∧ R (ItzB K c1 c2 a b) H1
theorem pi_zipB (c1 c2 : Bool) {X : Cx} {e e2 : Expr} {ta : TA} {p pos tpos : Pos} {elts : List Expr} {kk : Nat} (hg : Gl X "zip") (hm : X.mg "zip" = none) (ha : PA X [e, e2] ta)
    (hs : starEach [e, e2] X.env = (false, eval e X.env) :: starEach [e2] X.env := by rfl) (hp : (backTo pos (starEach [e2] X.env)).any (·.1) = false := by rfl) : PI X (.Tuple elts kk tpos) (.Call (.Name "zip" p) [e, e2] [] pos) (iZipB X.K c1 c2 ta) := by
  refine ⟨fun pins s σ H R I h => Call_ (ld_blt I hg hm PyProof.Rows.boot_zip (PyProof.Rows.callWith_type1 (thn (ha.run pos pins s σ H _ I h) fun us s1 ⟨vs, H1, I1, r1, q1⟩ => ?_) hs hp))⟩
  obtain ⟨a, b, xs, ys, ex, qa, qb, q⟩ := q1
  subst ex
  obtain ⟨va, ra, pa, la⟩ := sq2_is I1 qa
  obtain ⟨vb, rb, pb, lb⟩ := sq2_is I1 qb
  obtain ⟨o1, B1, it1⟩ := begB c1 a va.toArray
  obtain ⟨o2, B2, it2⟩ := begB c2 b vb.toArray
  cases r1 with
  | cons r rr =>
    cases rr with
    | cons r' rr =>
      cases rr
      cases r
      cases r'
      refine zip_begins2 B1 B2 pa pb fun h1 hz hTI hTO g1 g2 hsz hk => wpAny_pyIter_zip hz ?_
      have I2 : Inv X pins σ H1 { s1 with heap := h1 } := I1.kept (t' := s1.toks) hk
      have S := sep_new la lb
      refine ⟨s1.heap.objs.size + 4, [s1.heap.objs.size + 4, s1.heap.objs.size + 2, s1.heap.objs.size + 3, s1.heap.objs.size, s1.heap.objs.size + 1], _, _, H1, rfl, I2, turn_zipB S (Nat.ne_of_lt la) (Nat.ne_of_lt (Nat.lt_succ_of_lt lb)), ⟨hz, hTI, ⟨_, _, hTO⟩, it1 _ _ g1, it2 _ _ g2⟩, fun c hc => ?_, q⟩
      have hle : s1.heap.objs.size ≤ c := by
        simp only [List.mem_cons, List.not_mem_nil, or_false] at hc
        rcases hc with rfl | rfl | rfl | rfl | rfl
        · exact Nat.le_add_right _ 4
        · exact Nat.le_add_right _ 2
        · exact Nat.le_add_right _ 3
        · exact Nat.le_refl _
        · exact Nat.le_add_right _ 1
      exact I1.fpOk hle (I1.hok.fresh hle)
theorem walk_zipB {K : PySem.W.Frag} {c1 c2 : Bool} {a b : Addr} {xs ys : List V} {n : Nat} (hx : xs.length = n) (hy : ys.length = n) : Walk (ItzB K c1 c2 a b) n (fun H => Sq2 K c1 H a xs ∧ Sq2 K c2 H b ys) (YPair (fun i => xs[i]?) (fun i => ys[i]?)) := by
  refine ⟨fun i H hi q => ⟨xs, ys, xs[i], ys[i], q.1, q.2, ?_, ?_⟩, fun H q => ⟨xs, ys, q.1, q.2, by omega, by omega, .inl hx⟩, fun i H v H' _ q y => ?_⟩
  · exact List.getElem?_eq_getElem (by omega)
  · exact List.getElem?_eq_getElem (by omega)
  · obtain ⟨T, x, z, t1, t2, t3, t4, t5⟩ := y
    exact ⟨T, x, z, t1, t2, t3, t4 xs q.1, t5 ys q.2⟩
end Deed

namespace Deed
open PySem PySem.Spec PyProof.Rows L2 LamX
def isTupD : Dat → Bool
  | .tup _ => true
  | _ => false
def isIntD : Dat → Bool
  | .int _ => true
  | _ => false
def isBlD : Dat → Bool
  | .bl _ => true
  | _ => false
theorem Da.ty {K : PySem.W.Frag} {H : Hp} {v : V} {x : Dat} (h : Da H v x) : ∃ t : String, TyX K H v (.type t) ∧ kitB t "tuple" = some (isTupD x) ∧ kitB t "int" = some (isIntD x || isBlD x) ∧ kitB t "bool" = some (isBlD x) := by
  cases h with
  | non => exact ⟨"NoneType", .base .non, (by decide +kernel : kitB "NoneType" "tuple" = some false), (by decide +kernel : kitB "NoneType" "int" = some false), (by decide +kernel : kitB "NoneType" "bool" = some false)⟩
  | bl b => exact ⟨"bool", .base (.bl b), (by decide +kernel : kitB "bool" "tuple" = some false), (by decide +kernel : kitB "bool" "int" = some true), (by decide +kernel : kitB "bool" "bool" = some true)⟩
  | int i => exact ⟨"int", .base (.int i), (by decide +kernel : kitB "int" "tuple" = some false), (by decide +kernel : kitB "int" "int" = some true), (by decide +kernel : kitB "int" "bool" = some false)⟩
  | str s => exact ⟨"str", .base (.str s), (by decide +kernel : kitB "str" "tuple" = some false), (by decide +kernel : kitB "str" "int" = some false), (by decide +kernel : kitB "str" "bool" = some false)⟩
  | tup e _ => exact ⟨"tuple", .base (.tup e), (by decide +kernel : kitB "tuple" "tuple" = some true), (by decide +kernel : kitB "tuple" "int" = some false), (by decide +kernel : kitB "tuple" "bool" = some false)⟩
  | lst e => exact ⟨"list", .base (.lst e), (by decide +kernel : kitB "list" "tuple" = some false), (by decide +kernel : kitB "list" "int" = some false), (by decide +kernel : kitB "list" "bool" = some false)⟩
  | dct e => exact ⟨"dict", .base (.dK e), (by decide +kernel : kitB "dict" "tuple" = some false), (by decide +kernel : kitB "dict" "int" = some false), (by decide +kernel : kitB "dict" "bool" = some false)⟩
def isStrD (w : Str) : Dat → Bool
  | .str a => decide (a = w)
  | _ => false
/-- of a thing nothing is asked -/
def FineT (_ : Nat) (_ : Dat) : Prop := True
theorem Da.knd {H : Hp} {v : V} {x : Dat} (h : Da H v x) : Knd H v := by
  cases h with
  | non => exact .non
  | bl b => exact .bl b
  | int i => exact .int i
  | str s => exact .str s
  | tup e _ => exact .tup e
  | lst e => exact .lst e
  | dct e => exact .dct e
theorem da_eqS {H : Hp} {v : V} {x : Dat} {w : Str} (h : Da H v x) : decide (v = V.str w) = isStrD w x := by
  cases h with
  | str a =>
    show decide (V.str a = V.str w) = decide (a = w)
    by_cases c : a = w
    · rw [decide_eq_true (by rw [c]), decide_eq_true c]
    · rw [decide_eq_false (fun z => c (by injection z)), decide_eq_false c]
  | _ => exact decide_eq_false (fun z => nomatch z)
theorem eqv_strD (w : Str) (x : Dat) : PyData.eqv x.py (.str w) = isStrD w x := by
  cases x with
  | str a =>
    show (a == w) = decide (a = w)
    by_cases h : a = w
    · rw [h, decide_eq_true rfl]
      exact beq_self_eq_true _
    · rw [decide_eq_false h]
      exact beq_eq_false_iff_ne.mpr h
  | _ => simp [Dat.py, PyData.eqv, isStrD]
def isIntM (m : Int) : Dat → Bool
  | .int b => decide (b = m)
  | _ => false
theorem headD_two (x y : Dat) (r : List Dat) (sz : Nat) (w : Str) (m : Int) : headD (.tup (x :: y :: r)) sz w m = (decide (r.length + 2 = sz) && (isStrD w x && (isIntD y && isIntM m y))) := by
  cases x with
  | str a =>
    cases y with
    | int b =>
      rfl
    | _ => simp [headD, isIntD]
  | _ => simp [headD, isStrD]
section
variable {P : Program} {w : World} {K : PySem.W.Frag} {mg : Str → Option Value} {base : Heap} {T : List (Addr × Str)}
def spWholeD : Sp := fun vs H Q _ => ∃ (v : V) (x : Dat), vs = [v] ∧ Da H v x ∧ Q (.bl (isIntD x)) H
theorem ok_wholeD {f : Addr} {fd : FuncData} {k : Nat} (F : Fun K "is_whole" "is_whole" sWhole f fd) (mi : mg "isinstance" = none) (mn : mg "int" = none) (mb : mg "bool" = none) : FnOk P w K mg base CX0 (k + 1) f fd ["thing"] spWholeD := by
  refine F.ok scWhole (fun vs H Q E h => ?_) (fun cdv A outer s H vs Q E hr h => ?_)
  · obtain ⟨v, x, rfl, _⟩ := h
    rfl
  · obtain ⟨v, x, rfl, hd, q⟩ := h
    obtain ⟨t, ht, _, h1, h2⟩ := hd.ty (K := K)
    refine ⟨_, pss_one (ps_ret (pe_and (pe_callB call_isi (by rfl) mi (by decide +kernel) (pa_cons (pv 0) (pa_cons (pe_bltn (v := .ty "int") (by rfl) mn (by decide +kernel) rfl) pa_nil))) (pe_one (pe_not (pe_callB call_isi (by rfl) mi (by decide +kernel) (pa_cons (pv 0) (pa_cons (pe_bltn (v := .ty "bool") (by rfl) mb (by decide +kernel) rfl) pa_nil))))))), ?_⟩
    refine ⟨_, rfl, _, _, _, _, _, rfl, .ty "int", ht, kit_ty h1, _, rfl, ?_⟩
    refine ite2 (fun c => ?_) (fun c => ?_)
    · refine ⟨_, rfl, _, _, _, _, _, rfl, .ty "bool", ht, kit_ty h2, _, rfl, ?_⟩
      have : isIntD x = !isBlD x := by cases x <;> first | rfl | cases c
      rw [this] at q
      exact q
    · have : isIntD x = false := by cases x <;> first | rfl | exact absurd rfl c
      rw [this] at q
      exact q
abbrev sHasHead : Stmt := topS 36
abbrev nHasHead : List Str := ["thing", "size", "word", "number"]
abbrev pHasHead : List Str := ["thing", "size", "word", "number"]
theorem scHasHead : FnScope nHasHead pHasHead (defScope sHasHead) := ⟨rfl, rfl, rfl, by decide +kernel, rfl, by decide +kernel, by decide +kernel⟩
def spHasHead : Sp := fun vs H Q _ => ∃ (v : V) (x : Dat) (sz : Nat) (wd : Str) (m : Int), vs = [v, .int sz, .str wd, .int m] ∧ Da H v x ∧ FineT 31 x ∧ 2 ≤ sz ∧ PyData.strOk wd = true ∧ Q (.bl (headD x sz wd m)) H
theorem ok_hasHead {f : Addr} {fd : FuncData} {k : Nat} (F : Fun K "has_head" "has_head" sHasHead f fd) (C_is_whole : CallOk P w K mg base k "is_whole" ["thing"] spWholeD) (m_isinstance : mg "isinstance" = none) (m_tuple : mg "tuple" = none) (m_len : mg "len" = none) : FnOk P w K mg base CX0 (k + 1) f fd pHasHead spHasHead := by
  refine F.ok scHasHead (fun vs H Q E h => ?_) (fun cdv A outer s H vs Q E hr h => ?_)
  · obtain ⟨v, x, sz, wd, m, rfl, _⟩ := h
    rfl
  · obtain ⟨v, x, sz, wd, m, rfl, hd, hf, hsz, hw, q⟩ := h
    obtain ⟨t, ht, h1, _, _⟩ := hd.ty (K := K)
    have nd := scHasHead.nd
    have hu := hu_of hr
    refine ⟨_, pss_cons (ps_if (PW.pt (pw_or (pt_not (pt_val (pe_callB call_isi (by rfl) m_isinstance (by decide +kernel) (pa_cons (pv 0) (pa_cons (pe_bltn (v := .ty "tuple") (by rfl) m_tuple (by decide +kernel) rfl) pa_nil))))) (pw_or1 (pt_cmpR op_ne (pe_callB call_len_seq (by rfl) m_len (by decide +kernel) (pa_cons (pv 0) pa_nil)) (pv 1) (nomark _))))) (pss_one (ps_ret pe_bl)) pss_nil)
      (pss_one (ps_ret (pe_and (pe_cmpR (op_eqTS hr.units) (pe_ix ix_tup (pv 0) pe_int (fun _ _ => rfl)) (pv 2) (nomark _)) (pe_and (pe_call C_is_whole.ok hr (by rfl) C_is_whole.g C_is_whole.kp C_is_whole.b .nil pass0 (pa_cons (pe_ix ix_tup (pv 0) pe_int (fun _ _ => rfl)) pa_nil)) (pe_one (pe_cmpR op_eq (pe_ix ix_tup (pv 0) pe_int (fun _ _ => rfl)) (pv 3) (nomark _))))))), ?_⟩
    refine ⟨_, rfl, _, _, _, _, _, rfl, .ty "tuple", ht, kit_ty h1, _, rfl, ?_⟩
    by_cases hx : isTupD x = true
    · rw [hx]
      refine iteF ?_
      cases x with
      | tup ds =>
        cases hd with
        | tup e hda =>
          rename_i a xs
          have hl := hda.len
          refine ⟨_, rfl, a, _, rfl, .inr (SqT.of e), _, rfl, rfl, _, rfl, ?_⟩
          refine ite2 (fun c => ?_) (fun c => ?_)
          · have hno : headD (.tup ds) sz wd m = false := by
              unfold headD
              split
              · next r he =>
                injection he with he
                subst he
                rw [List.length_cons, List.length_cons] at hl
                rw [decide_eq_false, Bool.false_and]
                intro z
                simp at c
                omega
              · rfl
            rw [hno] at q
            exact q
          · have hc : xs.length = sz := by simp at c; omega
            match ds, xs, hda, hf, hl, e, hc with
            | d1 :: d2 :: r, _, .cons (v := v1) h1 (.cons (v := v2) h2 h3), hf, hl, e, hc =>
              rename_i vr
              rw [headD_two] at q
              refine ⟨_, rfl, a, _, _, _, rfl, rfl, SqT.of e, (atI_nat (j := 0) rfl), _, rfl, wd, rfl, h1.knd, _, rfl, ?_⟩
              rw [da_eqS h1]
              have hsz2 : decide (r.length + 2 = sz) = true := by
                rw [List.length_cons, List.length_cons] at hl hc
                exact decide_eq_true (by simp at hl; omega)
              rw [hsz2, Bool.true_and] at q
              refine ite2 (fun c1 => ?_) (fun c1 => ?_)
              · rw [c1, Bool.true_and] at q
                refine ⟨_, rfl, a, _, _, _, rfl, rfl, SqT.of e, (atI_nat (j := 1) rfl), v2, d2, rfl, h2, _, rfl, ?_⟩
                refine ite2 (fun c2 => ?_) (fun c2 => ?_)
                · rw [c2, Bool.true_and] at q
                  cases d2 with
                  | int b =>
                    cases h2
                    refine ⟨_, rfl, a, _, _, _, rfl, rfl, SqT.of e, (atI_nat (j := 1) rfl), _, rfl, rfl, ?_⟩
                    have : decide (V.int b = V.int m) = decide (b = m) := by
                      by_cases h : b = m
                      · rw [decide_eq_true (by rw [h]), decide_eq_true h]
                      · rw [decide_eq_false (fun z => h (by injection z)), decide_eq_false h]
                    rw [this]
                    exact q
                  | _ => cases c2
                · rw [Bool.eq_false_iff.mpr c2, Bool.false_and] at q
                  exact q
              · rw [Bool.eq_false_iff.mpr c1, Bool.false_and] at q
                exact q
            | [], _, .nil, hf, hl, e, hc => simp at hc; omega
            | [d1], _, .cons h1 .nil, hf, hl, e, hc => simp at hc; omega
      | _ => cases hx
    · rw [Bool.eq_false_iff.mpr hx]
      refine iteT ?_
      have hno : headD x sz wd m = false := by
        cases x with
        | tup ds => exact absurd rfl hx
        | _ => rfl
      rw [hno] at q
      exact q
end
end Deed

namespace Deed
open PySem PySem.Spec PyProof.Rows L2 LamX
/-- the open acts, as a list -/
structure ActsL (H : Hp) (la : Addr) (n : Nat) (es : List En) (d k : Int) (ys : List (Addr × En)) : Prop where
  lst : H la = some (.lst (refs ys))
  ent : ∀ z ∈ ys, EntAt H z.1 z.2
  oa : Oa n es d k (ens ys)
  len : ys.length ≤ 16
theorem ActsL.ext {H H' : Hp} {la : Addr} {n : Nat} {es : List En} {d k : Int} {ys : List (Addr × En)} (h : ActsL H la n es d k ys) (s : Same H H') : ActsL H' la n es d k ys := ⟨s _ _ h.lst, fun z hz => (h.ent z hz).kp (Same.tup s), h.oa, h.len⟩
theorem ActsL.on {H : Hp} {la : Addr} {n : Nat} {es : List En} {d k : Int} {ys : List (Addr × En)} (h : ActsL H la n es d k ys) : ∀ z ∈ ys, EntAt H z.1 z.2 ∧ z.2.isDeed = false := fun z hz => ⟨h.ent z hz, (h.oa.mem z.2 (List.mem_map.mpr ⟨z, hz, rfl⟩)).2.1⟩
theorem FineT.part {m : Nat} {xs : List Dat} (_ : FineT m (.tup xs)) {y : Dat} (_ : y ∈ xs) : FineT m y := trivial
def tillN (f : Nat) (e : En) : Prop := (31 - e.num).toNat ≤ f
section
variable {P : Program} {w : World} {K : PySem.W.Frag} {mg : Str → Option Value} {base : Heap} {T : List (Addr × Str)}
abbrev sIsYes : Stmt := topS 37
abbrev nIsYes : List Str := ["acts", "act", "thing"]
abbrev pIsYes : List Str := ["acts", "act", "thing"]
theorem scIsYes : FnScope nIsYes pIsYes (defScope sIsYes) := ⟨rfl, rfl, rfl, by decide +kernel, rfl, by decide +kernel, by decide +kernel⟩
abbrev sIsNo : Stmt := topS 38
abbrev nIsNo : List Str := ["acts", "act", "thing"]
abbrev pIsNo : List Str := ["acts", "act", "thing"]
theorem scIsNo : FnScope nIsNo pIsNo (defScope sIsNo) := ⟨rfl, rfl, rfl, by decide +kernel, rfl, by decide +kernel, by decide +kernel⟩
abbrev sIsSomeYes : Stmt := topS 39
abbrev nIsSomeYes : List Str := ["acts", "numbers", "thing", "number"]
abbrev pIsSomeYes : List Str := ["acts", "numbers", "thing"]
theorem scIsSomeYes : FnScope nIsSomeYes pIsSomeYes (defScope sIsSomeYes) := ⟨rfl, rfl, rfl, by decide +kernel, rfl, by decide +kernel, by decide +kernel⟩
abbrev sAreNos : Stmt := topS 40
abbrev nAreNos : List Str := ["acts", "numbers", "thing", "number", "part"]
abbrev pAreNos : List Str := ["acts", "numbers", "thing"]
theorem scAreNos : FnScope nAreNos pAreNos (defScope sAreNos) := ⟨rfl, rfl, rfl, by decide +kernel, rfl, by decide +kernel, by decide +kernel⟩
def spIs (b : Bool) (f : Nat) : Sp := fun vs H Q _ => ∃ (la : Addr) (n : Nat) (es : List En) (d k : Int) (ys : List (Addr × En)) (e : En) (v : V) (x : Dat), vs = [.ref la, .int e.num, v] ∧ ActsL H la n es d k ys ∧ e ∈ ens ys ∧ tillN f e ∧ Da H v x ∧ FineT 31 x ∧ ∀ H', Same H H' → Q (.bl (hold (ens ys) b e x)) H'
def spMany (nos : Bool) (f : Nat) : Sp := fun vs H Q _ => ∃ (la l : Addr) (n : Nat) (es : List En) (d k : Int) (ys : List (Addr × En)) (us : List En) (v : V) (x : Dat), vs = [.ref la, .ref l, v] ∧ ActsL H la n es d k ys ∧ H l = some (.lst ((us.map (·.num)).map V.int)) ∧ (∀ u ∈ us, u ∈ ens ys ∧ tillN f u) ∧ us.length ≤ 1000 ∧ Da H v x ∧ FineT 31 x ∧ ∀ H', Same H H' → Q (.bl (if nos then nosD (ens ys) us x else someYes (ens ys) us x)) H'
theorem ok_someYes {f : Addr} {fd : FuncData} {k m : Nat} (F : Fun K "is_some_yes" "is_some_yes" sIsSomeYes f fd) (C_is_yes : CallOk P w K mg base k "is_yes" pIsYes (spIs true m)) (m_any : mg "any" = none) : FnOk P w K mg base CX0 (k + 1) f fd pIsSomeYes (spMany false m) := by
  refine F.ok scIsSomeYes (fun vs H Q E h => ?_) (fun cdv A outer s H vs Q E hr h => ?_)
  · obtain ⟨la, l, n, es, d, k, ys, us, v, x, rfl, _⟩ := h
    rfl
  · obtain ⟨la, l, n, es, d, kk, ys, us, v, x, rfl, hA, el, hus, hln, hd, hf, q⟩ := h
    have nd := scIsSomeYes.nd
    refine ⟨_, pss_one (ps_ret (pe_callB (cr_any rfl) (by rfl) m_any (by decide +kernel) (pa_cons (pe_lc (own := [("number", 3)]) (g := gName 3) (by rfl) nd (pi_list (pv 1)) (blkOk_by (own := [("number", 3)]) (N := nIsSomeYes) (sc := defScope sIsSomeYes) (by decide +kernel)) (fun _ _ _ _ _ => (pg_name (i := 3) nd rfl (.inl rfl))) (fun _ _ _ _ _ => pts_nil)
          (fun _ _ _ _ _ => (pe_call C_is_yes.ok hr (by rfl) C_is_yes.g C_is_yes.kp C_is_yes.b .nil pass0 (pa_cons (pv 0) (pa_cons (pv 3) (pa_cons (pv 2) pa_nil)))))) pa_nil))), ?_⟩
    refine ⟨_, rfl, l, rfl, ⟨_, SqL.of el⟩, fun M1 nM1 => ?_⟩
    refine lc_sameM (walk_list (xs := (us.map (·.num)).map V.int)) us (fun y => .bl (hold (ens ys) true y x)) (by rw [List.length_map, List.length_map]) hln nM1 (fun H s => SqL.of (s _ _ el)) ?_ ?_
    · rintro i y x1 H3 H4 hy s3 ⟨rfl, hx⟩ Q1 q1
      rw [List.getElem?_map, List.getElem?_map, hy] at hx
      injection hx with hx
      subst hx
      obtain ⟨hy1, hy2⟩ := hus y (List.mem_of_getElem? hy)
      exact ⟨rfl, _, rfl, _, rfl, _, rfl, la, n, es, d, kk, ys, y, v, x, rfl, hA.ext s3, hy1, hy2, hd.ext (.of s3), hf, fun H5 s5 => q1 H5 s5⟩
    intro H2 s2 eM
    refine ⟨M1, us.map (fun y => hold (ens ys) true y x), rfl, SqL.of (by rw [eM, List.map_map]; rfl), ?_⟩
    have := q H2 s2
    rw [if_neg (by decide)] at this
    unfold someYes at this
    rw [List.any_map]
    exact this
theorem ok_areNos {f : Addr} {fd : FuncData} {k m : Nat} (F : Fun K "are_nos" "are_nos" sAreNos f fd) (C_is_no : CallOk P w K mg base k "is_no" pIsNo (spIs false m)) (m_isinstance : mg "isinstance" = none) (m_tuple : mg "tuple" = none) (m_len : mg "len" = none) (m_zip : mg "zip" = none) (m_all : mg "all" = none) : FnOk P w K mg base CX0 (k + 1) f fd pAreNos (spMany true m) := by
  refine F.ok scAreNos (fun vs H Q E h => ?_) (fun cdv A outer s H vs Q E hr h => ?_)
  · obtain ⟨la, l, n, es, d, k, ys, us, v, x, rfl, _⟩ := h
    rfl
  · obtain ⟨la, l, n, es, d, kk, ys, us, v, x, rfl, hA, el, hus, hln, hd, hf, q⟩ := h
    have nd := scAreNos.nd
    rw [if_pos rfl] at q
    obtain ⟨t, ht, h1, _, _⟩ := hd.ty (K := K)
    refine ⟨_, pss_cons (ps_if (PW.pt (pw_or (pt_not (pt_val (pe_callB call_isi (by rfl) m_isinstance (by decide +kernel) (pa_cons (pv 2) (pa_cons (pe_bltn (v := .ty "tuple") (by rfl) m_tuple (by decide +kernel) rfl) pa_nil))))) (pw_or1 (pt_cmpR op_ne (pe_callB call_len_seq (by rfl) m_len (by decide +kernel) (pa_cons (pv 2) pa_nil)) (pe_callB call_len_seq (by rfl) m_len (by decide +kernel) (pa_cons (pv 1) pa_nil)) (nomark _))))) (pss_one (ps_ret pe_bl)) pss_nil)
      (pss_one (ps_ret (pe_callB (cr_all rfl) (by rfl) m_all (by decide +kernel) (pa_cons (pe_lc (own := [("number", 3), ("part", 4)]) (g := gTup K 2 (gCons (gName 3) (gCons (gName 4) gNil))) (by rfl) nd (pi_zipB true false (by rfl) m_zip (pa_cons (pv 1) (pa_cons (pv 2) pa_nil))) (blkOk_by (own := [("number", 3), ("part", 4)]) (N := nAreNos) (sc := defScope sAreNos) (by decide +kernel)) (fun _ _ _ _ _ => (pg_tup (by rfl) (pgs_cons (pg_name (i := 3) nd rfl (.inl rfl)) (pgs_cons (pg_name (i := 4) nd rfl (.inl rfl)) pgs_nil)))) (fun _ _ _ _ _ => pts_nil)
          (fun _ _ _ _ _ => (pe_call C_is_no.ok hr (by rfl) C_is_no.g C_is_no.kp C_is_no.b .nil pass0 (pa_cons (pv 0) (pa_cons (pv 3) (pa_cons (pv 4) pa_nil)))))) pa_nil)))), ?_⟩
    refine ⟨_, rfl, _, _, _, _, _, rfl, .ty "tuple", ht, kit_ty h1, _, rfl, ?_⟩
    cases hd with
    | @tup a xs ds e hda =>
      refine iteF ?_
      have hl := hda.len
      refine ⟨_, rfl, a, _, rfl, .inr (SqT.of e), _, rfl, l, _, rfl, .inl (SqL.of el), rfl, _, rfl, ?_⟩
      refine ite2 (fun c => ?_) (fun c => ?_)
      · have hno : nosD (ens ys) us (.tup ds) = false := by
          unfold nosD
          dsimp only
          rw [decide_eq_false, Bool.false_and]
          intro z
          simp at c
          omega
        rw [hno] at q
        exact q _ (same_refl _)
      · have hc : xs.length = us.length := by simp at c; omega
        have hzl : (us.zip ds).length = us.length := by rw [List.length_zip]; omega
        refine ⟨_, rfl, _, rfl, l, a, _, _, rfl, SqL.of el, SqT.of e, fun M1 nM1 => ?_⟩
        refine lc_sameM (walk_zipB (n := us.length) (xs := (us.map (·.num)).map V.int) (ys := xs) (by rw [List.length_map, List.length_map]) hc) (us.zip ds) (fun y => .bl (hold (ens ys) false y.1 y.2)) hzl (by omega) nM1 (fun H s => ⟨SqL.of (s _ _ el), SqT.of (s _ _ e)⟩) ?_ ?_
        · rintro i y x1 H3 H4 hy s3 ⟨T1, w1, w2, rfl, nT, rfl, g1, g2⟩ Q1 q1
          obtain ⟨j1, j2⟩ := List.getElem?_zip_eq_some.mp hy
          dsimp only at g1 g2
          rw [List.getElem?_map, List.getElem?_map, j1] at g1
          injection g1 with g1
          subst g1
          obtain ⟨dd, hdd, hda2⟩ := hda.at g2
          rw [j2] at hdd
          injection hdd with hdd
          subst hdd
          obtain ⟨hy1, hy2⟩ := hus y.1 (List.mem_of_getElem? j1)
          have s4 := same_new nT (.tup [.int y.1.num, w2])
          refine ⟨T1, _, rfl, SqT.of upd_same, rfl, _, _, rfl, _, _, rfl, rfl, ?_⟩
          exact ⟨rfl, _, rfl, _, rfl, _, rfl, la, n, es, d, kk, ys, y.1, w2, y.2, rfl, hA.ext (s3.trans s4), hy1, hy2, hda2.ext (.of (s3.trans s4)), hf.part (List.mem_of_getElem? j2), fun H5 s5 => q1 H5 (s4.trans s5)⟩
        intro H2 s2 eM
        refine ⟨M1, (us.zip ds).map (fun y => hold (ens ys) false y.1 y.2), rfl, SqL.of (by rw [eM, List.map_map]; rfl), ?_⟩
        have := q H2 s2
        unfold nosD at this
        dsimp only at this
        rw [decide_eq_true (by omega), Bool.true_and] at this
        rw [List.all_map]
        exact this
    | _ => exact iteT (q _ (same_refl _))
end
end Deed

namespace Deed
open PySem PySem.Spec PyProof.Rows L2 LamX
theorem headD_is {x : Dat} {sz : Nat} {wd : Str} {m : Int} (h : headD x sz wd m = true) : ∃ ds, x = .tup ds ∧ ds.length = sz := by
  unfold headD at h
  split at h
  · next a b r =>
    rw [Bool.and_eq_true] at h
    exact ⟨_, rfl, of_decide_eq_true h.1⟩
  · cases h
theorem Da.nth {H : Hp} {v : V} {x : Dat} {sz : Nat} {wd : Str} {m : Int} (hd : Da H v x) (h : headD x sz wd m = true) : ∃ a xs, v = .ref a ∧ H a = some (.tup xs) ∧ ∀ i, i < sz → ∃ u, xs[i]? = some u ∧ Da H u (x.at i) ∧ ∀ f, FineT f x → FineT f (x.at i) := by
  obtain ⟨ds, rfl, hl⟩ := headD_is h
  cases hd with
  | @tup a xs _ e hda =>
    refine ⟨a, xs, rfl, e, fun i hi => ?_⟩
    have hi2 : i < ds.length := by omega
    obtain ⟨u, hu, hdu⟩ := hda.at' (List.getElem?_eq_getElem hi2)
    have ea : Dat.at (.tup ds) i = ds[i] := by
      show ds.getD i .non = ds[i]
      rw [List.getD_eq_getElem?_getD, List.getElem?_eq_getElem hi2]
      rfl
    rw [ea]
    exact ⟨u, hu, hdu, fun f hf => hf.part (List.getElem_mem hi2)⟩
section
variable {P : Program} {w : World} {K : PySem.W.Frag} {mg : Str → Option Value} {base : Heap} {T : List (Addr × Str)}
theorem undo_till {n : Nat} {es : List En} {d k : Int} {ys : List En} (h : Oa n es d k ys) {e : En} {m : Nat} (ht : tillN (m + 1) e) : ∀ u ∈ ys.filter (isOn "undone" e.num), u ∈ ys ∧ tillN m u := fun u hu => by
  obtain ⟨a1, a2, a3, a4⟩ := h.undo hu
  refine ⟨a1, ?_⟩
  unfold tillN at ht ⊢
  omega
theorem undo_len {ys : List (Addr × En)} (h : ys.length ≤ 16) (x : Str) (m : Int) : ((ens ys).filter (isOn x m)).length ≤ 1000 := by
  have := List.length_filter_le (isOn x m) (ens ys)
  rw [List.length_map] at this
  omega
theorem ok_isYes {f : Addr} {fd : FuncData} {k m : Nat} (F : Fun K "is_yes" "is_yes" sIsYes f fd) (C_has_head : CallOk P w K mg base k "has_head" pHasHead spHasHead) (C_acts_on : CallOk P w K mg base k "acts_on" pActsOn spActsOn) (C_are_nos : CallOk P w K mg base k "are_nos" pAreNos (spMany true m)) : FnOk P w K mg base CX0 (k + 1) f fd pIsYes (spIs true (m + 1)) := by
  refine F.ok scIsYes (fun vs H Q E h => ?_) (fun cdv A outer s H vs Q E hr h => ?_)
  · obtain ⟨la, n, es, d, k, ys, e, v, x, rfl, _⟩ := h
    rfl
  · obtain ⟨la, n, es, d, kk, ys, e, v, x, rfl, hA, he, ht, hd, hf, q⟩ := h
    have nd := scIsYes.nd
    have hu := hu_of hr
    rw [hold_yes hA.oa he] at q
    refine ⟨_, pss_one (ps_ret (pe_and (pe_call C_has_head.ok hr (by rfl) C_has_head.g C_has_head.kp C_has_head.b .nil pass0 (pa_cons (pv 2) (pa_cons pe_int (pa_cons pe_str (pa_cons (pv 1) pa_nil))))) (pe_one (pe_call C_are_nos.ok hr (by rfl) C_are_nos.g C_are_nos.kp C_are_nos.b .nil pass0 (pa_cons (pv 0) (pa_cons (pe_call C_acts_on.ok hr (by rfl) C_acts_on.g C_acts_on.kp C_acts_on.b .nil pass0 (pa_cons (pv 0) (pa_cons pe_str (pa_cons (pv 1) pa_nil)))) (pa_cons (pe_ix ix_tup (pv 2) pe_int (fun _ _ => rfl)) pa_nil))))))), ?_⟩
    refine ⟨_, rfl, _, rfl, v, x, 3, "yes", e.num, rfl, hd, hf, by decide, by decide +kernel, _, rfl, ?_⟩
    refine ite2 (fun c => ?_) (fun c => ?_)
    · rw [c, Bool.true_and] at q
      refine ⟨_, rfl, _, rfl, _, rfl, la, "undone", e.num, ys, rfl, hA.lst, hA.on, by have := hA.len; omega, fun p H1 s1 np ep => ?_⟩
      rw [filter_refs] at ep
      obtain ⟨a, xs, rfl, ea, hn⟩ := (hd.ext (.of s1)).nth c
      obtain ⟨u, hu2, hdu, hfu⟩ := hn 2 (by decide)
      refine ⟨_, rfl, a, _, _, _, rfl, rfl, SqT.of ea, (atI_nat (j := 2) hu2), la, p, n, es, d, kk, ys, _, u, x.at 2, rfl, hA.ext s1, ep, undo_till hA.oa ht, undo_len hA.len _ _, hdu, hfu _ hf, fun H2 s2 => ?_⟩
      rw [if_pos rfl]
      exact q H2 (s1.trans s2)
    · rw [Bool.eq_false_iff.mpr c, Bool.false_and] at q
      exact q _ (same_refl _)
theorem ok_isNo {f : Addr} {fd : FuncData} {k m : Nat} (F : Fun K "is_no" "is_no" sIsNo f fd) (C_has_head : CallOk P w K mg base k "has_head" pHasHead spHasHead) (C_acts_on : CallOk P w K mg base k "acts_on" pActsOn spActsOn) (C_is_some_yes : CallOk P w K mg base k "is_some_yes" pIsSomeYes (spMany false m)) : FnOk P w K mg base CX0 (k + 1) f fd pIsNo (spIs false (m + 1)) := by
  refine F.ok scIsNo (fun vs H Q E h => ?_) (fun cdv A outer s H vs Q E hr h => ?_)
  · obtain ⟨la, n, es, d, k, ys, e, v, x, rfl, _⟩ := h
    rfl
  · obtain ⟨la, n, es, d, kk, ys, e, v, x, rfl, hA, he, ht, hd, hf, q⟩ := h
    have nd := scIsNo.nd
    have hu := hu_of hr
    rw [hold_no hA.oa he] at q
    refine ⟨_, pss_one (ps_ret (pe_and (pe_call C_has_head.ok hr (by rfl) C_has_head.g C_has_head.kp C_has_head.b .nil pass0 (pa_cons (pv 2) (pa_cons pe_int (pa_cons pe_str (pa_cons (pv 1) pa_nil))))) (pe_one (pe_call C_is_some_yes.ok hr (by rfl) C_is_some_yes.g C_is_some_yes.kp C_is_some_yes.b .nil pass0 (pa_cons (pv 0) (pa_cons (pe_call C_acts_on.ok hr (by rfl) C_acts_on.g C_acts_on.kp C_acts_on.b .nil pass0 (pa_cons (pv 0) (pa_cons pe_str (pa_cons (pv 1) pa_nil)))) (pa_cons (pe_ix ix_tup (pv 2) pe_int (fun _ _ => rfl)) pa_nil))))))), ?_⟩
    refine ⟨_, rfl, _, rfl, v, x, 3, "no", e.num, rfl, hd, hf, by decide, by decide +kernel, _, rfl, ?_⟩
    refine ite2 (fun c => ?_) (fun c => ?_)
    · rw [c, Bool.true_and] at q
      refine ⟨_, rfl, _, rfl, _, rfl, la, "undone", e.num, ys, rfl, hA.lst, hA.on, by have := hA.len; omega, fun p H1 s1 np ep => ?_⟩
      rw [filter_refs] at ep
      obtain ⟨a, xs, rfl, ea, hn⟩ := (hd.ext (.of s1)).nth c
      obtain ⟨u, hu2, hdu, hfu⟩ := hn 2 (by decide)
      refine ⟨_, rfl, a, _, _, _, rfl, rfl, SqT.of ea, (atI_nat (j := 2) hu2), la, p, n, es, d, kk, ys, _, u, x.at 2, rfl, hA.ext s1, ep, undo_till hA.oa ht, undo_len hA.len _ _, hdu, hfu _ hf, fun H2 s2 => ?_⟩
      rw [if_neg (by decide)]
      exact q H2 (s1.trans s2)
    · rw [Bool.eq_false_iff.mpr c, Bool.false_and] at q
      exact q _ (same_refl _)
variable {fY fN fS fA : Addr} {dY dN dS dA : FuncData}
theorem never_is (b : Bool) {vs : List V} {H : Hp} {Q : V → Hp → Prop} {E : _} (h : spIs b 0 vs H Q E) : False := by
  obtain ⟨la, n, es, d, k, ys, e, v, x, rfl, hA, he, ht, _⟩ := h
  have := hA.oa.bk.rng e (hA.oa.mem e he).1
  unfold tillN at ht
  omega
/-- a yes, a no, by how far the numbers go -/
theorem is_all {c : Nat} (DY : Df K mg "is_yes" sIsYes pIsYes fY dY) (DN : Df K mg "is_no" sIsNo pIsNo fN dN) (DS : Df K mg "is_some_yes" sIsSomeYes pIsSomeYes fS dS) (DA : Df K mg "are_nos" sAreNos pAreNos fA dA)
    (C_has_head : CallOk P w K mg base c "has_head" pHasHead spHasHead) (C_acts_on : CallOk P w K mg base c "acts_on" pActsOn spActsOn) (m_any : mg "any" = none) (m_isinstance : mg "isinstance" = none) (m_tuple : mg "tuple" = none) (m_len : mg "len" = none) (m_zip : mg "zip" = none) (m_all : mg "all" = none) :
    ∀ m : Nat, FnOk P w K mg base CX0 (2 * m + c + 1) fY dY pIsYes (spIs true m) ∧ FnOk P w K mg base CX0 (2 * m + c + 1) fN dN pIsNo (spIs false m)
  | 0 => ⟨DY.F.ok scIsYes (fun _ _ _ _ h => (never_is _ h).elim) (fun _ _ _ _ _ _ _ _ _ h => (never_is _ h).elim), DN.F.ok scIsNo (fun _ _ _ _ h => (never_is _ h).elim) (fun _ _ _ _ _ _ _ _ _ h => (never_is _ h).elim)⟩
  | m + 1 => by
    obtain ⟨hY, hN⟩ := is_all DY DN DS DA C_has_head C_acts_on m_any m_isinstance m_tuple m_len m_zip m_all m
    have gS := ok_someYes DS.F (DY.call hY) m_any
    have gA := ok_areNos DA.F (DN.call hN) m_isinstance m_tuple m_len m_zip m_all
    exact ⟨ok_isYes DY.F (C_has_head.mono (by omega)) (C_acts_on.mono (by omega)) ((DA.call gA).mono (by omega)), ok_isNo DN.F (C_has_head.mono (by omega)) (C_acts_on.mono (by omega)) ((DS.call gS).mono (by omega))⟩
end
end Deed

namespace Deed
open PySem PySem.Spec PyProof.Rows L2 LamX
/-- the deeds by their numbers, what they are -/
def DeedMap (H : Hp) (dd : Addr) (es : List En) : Prop := ∃ ps : List (Addr × En), (ps.map (fun z => z.2.num)).Nodup ∧ H dd = some (.dK (ps.map fun z => (Sum.inl z.2.num, V.ref z.1))) ∧ (∀ z ∈ ps, EntAt H z.1 z.2) ∧ ∀ e ∈ es, e.isDeed = true → ∃ z ∈ ps, z.2 = e
theorem DeedMap.ext {H H' : Hp} {dd : Addr} {es : List En} (h : DeedMap H dd es) (s : Same H H') : DeedMap H' dd es := by
  obtain ⟨ps, h1, h2, h3, h4⟩ := h
  exact ⟨ps, h1, s _ _ h2, fun z hz => (h3 z hz).kp (Same.tup s), h4⟩
theorem DeedMap.get {H : Hp} {dd : Addr} {es : List En} (h : DeedMap H dd es) {e : En} (he : e ∈ es) (hd : e.isDeed = true) : ∃ a, DGet H dd (.int e.num) (some (.ref a)) ∧ EntAt H a e := by
  obtain ⟨ps, h1, h2, h3, h4⟩ := h
  obtain ⟨z, hz, rfl⟩ := h4 e he hd
  have h5 := DGet.k (k := Sum.inl z.2.num) h2
  rw [valV_map (f := fun z : Addr × En => z.2.num) (g := fun z : Addr × En => V.ref z.1) h1 hz] at h5
  exact ⟨z.1, h5, h3 z hz⟩
def WordD (H : Hp) (wd : Addr) (es : List En) (d k : Int) : Prop := ∃ zs ys : List (Addr × En), ens zs = es ∧ DeedsUp zs ys ∧ H wd = some (.dK (wdE es d k (ens ys)))
theorem WordD.ext {H H' : Hp} {wd : Addr} {es : List En} {d k : Int} (h : WordD H wd es d k) (s : Same H H') : WordD H' wd es d k := by
  obtain ⟨zs, ys, h1, h2, h3⟩ := h
  exact ⟨zs, ys, h1, h2, s _ _ h3⟩
theorem WordD.get {H : Hp} {wd : Addr} {es : List En} {d k : Int} (h : WordD H wd es d k) {e : En} (he : e ∈ es) (hd : e.isDeed = true) : DGet H wd (.int e.num) (some (.str (st es d k e))) := by
  obtain ⟨zs, ys, rfl, h2, h3⟩ := h
  exact wdE_get h2 h3 he hd
def stWords : List Str := ["unknown", "ahead", "void", "fallen", "paid", "stands"]
def SizesAt (K : PySem.W.Frag) (w : World) (mg : Str → Option Value) : Prop := ∃ a, mg "WHY_SIZES" = some (.ref a) ∧ ∀ x ∈ stWords, KDct K w a x (.int (sizeW x))
theorem st_word {n : Nat} {es : List En} (hB : BkOk n es) (d k : Int) {e : En} (he : e ∈ es) : st es d k e ∈ stWords := by
  rcases st_cases hB d k he with ⟨h1, _⟩ | ⟨h1, _⟩ | ⟨h1, _⟩ | ⟨h1, _⟩ | ⟨h1, _⟩ | ⟨h1, _⟩ <;> rw [h1] <;> simp [stWords]
theorem sizeW_two (x : Str) : 2 ≤ sizeW x := by
  unfold sizeW
  split
  · omega
  · split
    · omega
    · split <;> omega
/-- numbered deeds, all lesser than f -/
def lessN (es : List En) (f : Nat) (r : Int) : Prop := ∃ u ∈ es, u.isDeed = true ∧ u.num = r ∧ u.num.toNat < f
section
variable {P : Program} {w : World} {K : PySem.W.Frag} {mg : Str → Option Value} {base : Heap} {T : List (Addr × Str)}
abbrev pIsWhy : List Str := ["deeds", "words", "acts", "deed", "thing"]
def spWhy (f : Nat) : Sp := fun vs H Q _ => ∃ (dd wd la : Addr) (n : Nat) (es : List En) (d k : Int) (ys : List (Addr × En)) (r : Int) (v : V) (x : Dat), vs = [.ref dd, .ref wd, .ref la, .int r, v] ∧ DeedMap H dd es ∧ WordD H wd es d k ∧ ActsL H la n es d k ys ∧ lessN es f r ∧ Da H v x ∧ FineT 31 x ∧ ∀ H', Same H H' → Q (.bl (whyH es (ens ys) d k r x)) H'
abbrev sAreWhys : Stmt := topS 41
abbrev nAreWhys : List Str := ["deeds", "words", "acts", "numbers", "thing", "number", "part"]
abbrev pAreWhys : List Str := ["deeds", "words", "acts", "numbers", "thing"]
theorem scAreWhys : FnScope nAreWhys pAreWhys (defScope sAreWhys) := ⟨rfl, rfl, rfl, by decide +kernel, rfl, by decide +kernel, by decide +kernel⟩
def spWhys (f : Nat) : Sp := fun vs H Q _ => ∃ (dd wd la l : Addr) (n : Nat) (es : List En) (d k : Int) (ys : List (Addr × En)) (rs : List Int) (v : V) (x : Dat), vs = [.ref dd, .ref wd, .ref la, .ref l, v] ∧ DeedMap H dd es ∧ WordD H wd es d k ∧ ActsL H la n es d k ys ∧ H l = some (.tup (rs.map V.int)) ∧ (∀ r ∈ rs, lessN es f r) ∧ rs.length ≤ 1000 ∧ Da H v x ∧ FineT 31 x ∧ ∀ H', Same H H' → Q (.bl (whysD (whyH es (ens ys) d k) rs x)) H'
theorem ok_areWhys {f : Addr} {fd : FuncData} {k m : Nat} (F : Fun K "are_whys" "are_whys" sAreWhys f fd) (C_is_why : CallOk P w K mg base k "is_why" pIsWhy (spWhy m)) (m_isinstance : mg "isinstance" = none) (m_tuple : mg "tuple" = none) (m_len : mg "len" = none) (m_zip : mg "zip" = none) (m_all : mg "all" = none) : FnOk P w K mg base CX0 (k + 1) f fd pAreWhys (spWhys m) := by
  refine F.ok scAreWhys (fun vs H Q E h => ?_) (fun cdv A outer s H vs Q E hr h => ?_)
  · obtain ⟨dd, wd, la, l, n, es, d, k, ys, rs, v, x, rfl, _⟩ := h
    rfl
  · obtain ⟨dd, wd, la, l, n, es, d, kk, ys, rs, v, x, rfl, hD, hW, hA, el, hrs, hln, hd, hf, q⟩ := h
    have nd := scAreWhys.nd
    obtain ⟨t, ht, h1, _, _⟩ := hd.ty (K := K)
    refine ⟨_, pss_cons (ps_if (PW.pt (pw_or (pt_not (pt_val (pe_callB call_isi (by rfl) m_isinstance (by decide +kernel) (pa_cons (pv 4) (pa_cons (pe_bltn (v := .ty "tuple") (by rfl) m_tuple (by decide +kernel) rfl) pa_nil))))) (pw_or1 (pt_cmpR op_ne (pe_callB call_len_seq (by rfl) m_len (by decide +kernel) (pa_cons (pv 4) pa_nil)) (pe_callB call_len_seq (by rfl) m_len (by decide +kernel) (pa_cons (pv 3) pa_nil)) (nomark _))))) (pss_one (ps_ret pe_bl)) pss_nil)
      (pss_one (ps_ret (pe_callB (cr_all rfl) (by rfl) m_all (by decide +kernel) (pa_cons (pe_lc (own := [("number", 5), ("part", 6)]) (g := gTup K 2 (gCons (gName 5) (gCons (gName 6) gNil))) (by rfl) nd (pi_zipB false false (by rfl) m_zip (pa_cons (pv 3) (pa_cons (pv 4) pa_nil))) (blkOk_by (own := [("number", 5), ("part", 6)]) (N := nAreWhys) (sc := defScope sAreWhys) (by decide +kernel)) (fun _ _ _ _ _ => (pg_tup (by rfl) (pgs_cons (pg_name (i := 5) nd rfl (.inl rfl)) (pgs_cons (pg_name (i := 6) nd rfl (.inl rfl)) pgs_nil)))) (fun _ _ _ _ _ => pts_nil)
          (fun _ _ _ _ _ => (pe_call C_is_why.ok hr (by rfl) C_is_why.g C_is_why.kp C_is_why.b .nil pass0 (pa_cons (pv 0) (pa_cons (pv 1) (pa_cons (pv 2) (pa_cons (pv 5) (pa_cons (pv 6) pa_nil)))))))) pa_nil)))), ?_⟩
    refine ⟨_, rfl, _, _, _, _, _, rfl, .ty "tuple", ht, kit_ty h1, _, rfl, ?_⟩
    cases hd with
    | @tup a xs ds e hda =>
      refine iteF ?_
      have hl := hda.len
      refine ⟨_, rfl, a, _, rfl, .inr (SqT.of e), _, rfl, l, _, rfl, .inr (SqT.of el), rfl, _, rfl, ?_⟩
      refine ite2 (fun c => ?_) (fun c => ?_)
      · have hno : whysD (whyH es (ens ys) d kk) rs (.tup ds) = false := by
          unfold whysD
          dsimp only
          rw [decide_eq_false, Bool.false_and]
          intro z
          simp at c
          omega
        rw [hno] at q
        exact q _ (same_refl _)
      · have hc : xs.length = rs.length := by simp at c; omega
        have hzl : (rs.zip ds).length = rs.length := by rw [List.length_zip]; omega
        refine ⟨_, rfl, _, rfl, l, a, _, _, rfl, SqT.of el, SqT.of e, fun M1 nM1 => ?_⟩
        refine lc_sameM (walk_zipB (n := rs.length) (xs := rs.map V.int) (ys := xs) (by rw [List.length_map]) hc) (rs.zip ds) (fun y => .bl (whyH es (ens ys) d kk y.1 y.2)) hzl (by omega) nM1 (fun H s => ⟨SqT.of (s _ _ el), SqT.of (s _ _ e)⟩) ?_ ?_
        · rintro i y x1 H3 H4 hy s3 ⟨T1, w1, w2, rfl, nT, rfl, g1, g2⟩ Q1 q1
          obtain ⟨j1, j2⟩ := List.getElem?_zip_eq_some.mp hy
          dsimp only at g1 g2
          rw [List.getElem?_map, j1] at g1
          injection g1 with g1
          subst g1
          obtain ⟨dx, hdd, hda2⟩ := hda.at g2
          rw [j2] at hdd
          injection hdd with hdd
          subst hdd
          have s4 := same_new nT (.tup [.int y.1, w2])
          have s34 := s3.trans s4
          refine ⟨T1, _, rfl, SqT.of upd_same, rfl, _, _, rfl, _, _, rfl, rfl, ?_⟩
          exact ⟨rfl, _, rfl, _, rfl, _, rfl, _, rfl, _, rfl, dd, wd, la, n, es, d, kk, ys, y.1, w2, y.2, rfl, hD.ext s34, hW.ext s34, hA.ext s34, hrs y.1 (List.mem_of_getElem? j1), hda2.ext (.of s34), hf.part (List.mem_of_getElem? j2), fun H5 s5 => q1 H5 (s4.trans s5)⟩
        intro H2 s2 eM
        refine ⟨M1, (rs.zip ds).map (fun y => whyH es (ens ys) d kk y.1 y.2), rfl, SqL.of (by rw [eM, List.map_map]; rfl), ?_⟩
        have := q H2 s2
        unfold whysD at this
        dsimp only at this
        rw [decide_eq_true (by omega), Bool.true_and] at this
        rw [List.all_map]
        exact this
    | _ => exact iteT (q _ (same_refl _))
end
end Deed

namespace Deed
open PySem PySem.Spec PyProof.Rows L2 LamX
theorem till31 {n : Nat} {es : List En} {d k : Int} {ys : List En} (h : Oa n es d k ys) {u : En} (hu : u ∈ ys) : u ∈ ys ∧ tillN 31 u := by
  have := h.bk.rng u (h.mem u hu).1
  refine ⟨hu, ?_⟩
  unfold tillN
  omega
theorem rests_len {n : Nat} {es : List En} (hB : BkOk n es) {e : En} (he : e ∈ es) : e.rests.length ≤ 1000 := by
  have h := hB.ok e he
  unfold En.rests
  cases hk : e.kd with
  | deed g t r ws =>
    have := h.2.2.2
    rw [hk] at this
    have := this.2.2.2.1
    show r.length ≤ 1000
    omega
  | act x o => exact Nat.zero_le _
section
variable {P : Program} {w : World} {K : PySem.W.Frag} {mg : Str → Option Value} {base : Heap} {T : List (Addr × Str)}
abbrev sIsWhy : Stmt := topS 42
abbrev nIsWhy : List Str := ["deeds", "words", "acts", "deed", "thing", "word", "rests", "voids", "paids", "broken", "rest"]
theorem scIsWhy : FnScope nIsWhy pIsWhy (defScope sIsWhy) := ⟨rfl, rfl, rfl, by decide +kernel, rfl, by decide +kernel, by decide +kernel⟩

theorem ok_isWhy {f : Addr} {fd : FuncData} {k m : Nat} (F : Fun K "is_why" "is_why" sIsWhy f fd) (C_has_head : CallOk P w K mg base k "has_head" pHasHead spHasHead) (C_acts_on : CallOk P w K mg base k "acts_on" pActsOn spActsOn) (C_is_some_yes : CallOk P w K mg base k "is_some_yes" pIsSomeYes (spMany false 31)) (C_is_why : CallOk P w K mg base k "is_why" pIsWhy (spWhy m)) (C_are_nos : CallOk P w K mg base k "are_nos" pAreNos (spMany true 31)) (C_are_whys : CallOk P w K mg base k "are_whys" ["deeds", "words", "acts", "numbers", "thing"] (spWhys m)) (m_any : mg "any" = none) (m_sorted : mg "sorted" = none) (iRESTS : MgInt mg "RESTS" 7) (mC : CarryAt K mg) (mZ : SizesAt K w mg) : FnOk P w K mg base CX0 (k + 1) f fd pIsWhy (spWhy (m + 1)) := by
  obtain ⟨a_CARRYING, g_CARRYING, sC⟩ := mC
  obtain ⟨a_WHY_SIZES, g_WHY_SIZES, hZ⟩ := mZ
  refine F.ok scIsWhy (fun vs H Q E h => ?_) (fun cdv A outer s H vs Q E hr h => ?_)
  · obtain ⟨dd, wd, la, n, es, d, k, ys, r, v, x, rfl, _⟩ := h
    rfl
  · obtain ⟨dd, wd, la, n, es, d, kk, ys, r, v, x, rfl, hD, hW, hA, ⟨e, he, hed, rfl, hlt⟩, hd, hf, q⟩ := h
    have nd := scIsWhy.nd
    have hu := hu_of hr
    have hO := hA.oa
    have hB := hO.bk
    have hyl := hA.len
    rw [whyH_eq hB (ens ys) d kk he hed] at q
    unfold whyB at q
    refine ⟨_, pss_cons (ps_set (i := 5) nd rfl (.inl rfl) (pe_dget hu (pv 1) (pv 3) (fun _ _ => rfl)))
      (pss_cons (ps_if (pt_not (pt_val (pe_call C_has_head.ok hr (by rfl) C_has_head.g C_has_head.kp C_has_head.b .nil pass0 (pa_cons (pv 4) (pa_cons (pe_ix ix_kdict (pe_glob (v := .ref a_WHY_SIZES) (by rfl) g_WHY_SIZES rfl) (pv 5) (fun _ _ => rfl)) (pa_cons (pv 5) (pa_cons (pv 3) pa_nil))))))) (pss_one (ps_ret pe_bl)) pss_nil)
      (pss_cons (ps_set (i := 6) nd rfl (.inl rfl) (pe_ix ix_tup (pe_dget hu (pv 0) (pv 3) (fun _ _ => rfl)) (pe_num (by rfl) iRESTS) (fun _ _ => rfl)))
      (pss_cons (ps_set (i := 7) nd rfl (.inl rfl) (pe_call C_acts_on.ok hr (by rfl) C_acts_on.g C_acts_on.kp C_acts_on.b .nil pass0 (pa_cons (pv 2) (pa_cons pe_str (pa_cons (pv 3) pa_nil)))))
      (pss_cons (ps_set (i := 8) nd rfl (.inl rfl) (pe_call C_acts_on.ok hr (by rfl) C_acts_on.g C_acts_on.kp C_acts_on.b .nil pass0 (pa_cons (pv 2) (pa_cons pe_str (pa_cons (pv 3) pa_nil)))))
      (pss_cons (ps_if (pt_cmpR op_eq (pv 5) pe_str (nomark _)) (pss_one (ps_ret (pe_call C_is_some_yes.ok hr (by rfl) C_is_some_yes.g C_is_some_yes.kp C_is_some_yes.b .nil pass0 (pa_cons (pv 2) (pa_cons (pv 7) (pa_cons (pe_ix ix_tup (pv 4) pe_int (fun _ _ => rfl)) pa_nil)))))) pss_nil)
      (pss_cons (ps_if (pt_cmpR op_eq (pv 5) pe_str (nomark _)) (pss_cons (ps_setLc (i := 9) (own := [("rest", 10)]) (g := gName 10) (by rfl) nd rfl rfl (sw_true rfl rfl rfl (by decide +kernel)) (pi_tup (pv 6)) (blkOk_by (own := [("rest", 10)]) (N := nIsWhy) (sc := defScope sIsWhy) (by decide +kernel)) (fun _ _ _ _ _ => (pg_name (i := 10) nd rfl (.inl rfl))) (fun _ _ _ _ _ => (pts_one (pt_cmpR (notIn_seqK (K := K) (by rfl)) (pe_dget hu (pv 1) (pv 10) (fun _ _ => rfl)) (pe_glob (v := .ref a_CARRYING) (by rfl) g_CARRYING rfl) (by rfl))))
          (fun _ _ _ _ _ => (pv 10)))
      (pss_one (ps_ret (pe_callB (cr_any rfl) (by rfl) m_any (by decide +kernel) (pa_cons (pe_lc (own := [("rest", 10)]) (g := gName 10) (by rfl) nd (pi_list (pv 9)) (blkOk_by (own := [("rest", 10)]) (N := nIsWhy) (sc := defScope sIsWhy) (by decide +kernel)) (fun _ _ _ _ _ => (pg_name (i := 10) nd rfl (.inl rfl))) (fun _ _ _ _ _ => pts_nil)
          (fun _ _ _ _ _ => (pe_call C_is_why.ok hr (by rfl) C_is_why.g C_is_why.kp C_is_why.b .nil pass0 (pa_cons (pv 0) (pa_cons (pv 1) (pa_cons (pv 2) (pa_cons (pv 10) (pa_cons (pe_ix (ix_tupK (K := K) (by rfl)) (pv 4) pe_int (fun _ _ => rfl)) pa_nil)))))))) pa_nil))))) pss_nil)
      (pss_cons (ps_if (pt_cmpR op_eq (pv 5) pe_str (nomark _)) (pss_one (ps_ret (pe_and (pe_call C_are_nos.ok hr (by rfl) C_are_nos.g C_are_nos.kp C_are_nos.b .nil pass0 (pa_cons (pv 2) (pa_cons (pv 7) (pa_cons (pe_ix ix_tup (pv 4) pe_int (fun _ _ => rfl)) pa_nil)))) (pe_and (pe_call C_are_whys.ok hr (by rfl) C_are_whys.g C_are_whys.kp C_are_whys.b .nil pass0 (pa_cons (pv 0) (pa_cons (pv 1) (pa_cons (pv 2) (pa_cons (pv 6) (pa_cons (pe_ix ix_tup (pv 4) pe_int (fun _ _ => rfl)) pa_nil)))))) (pe_one (pe_call C_is_some_yes.ok hr (by rfl) C_is_some_yes.g C_is_some_yes.kp C_is_some_yes.b .nil pass0 (pa_cons (pv 2) (pa_cons (pv 8) (pa_cons (pe_ix ix_tup (pv 4) pe_int (fun _ _ => rfl)) pa_nil))))))))) pss_nil)
      (pss_cons (ps_if (pt_cmpR op_eq (pv 5) pe_str (nomark _)) (pss_one (ps_ret (pe_and (pe_call C_are_nos.ok hr (by rfl) C_are_nos.g C_are_nos.kp C_are_nos.b .nil pass0 (pa_cons (pv 2) (pa_cons (pe_callB cr_sortedI (by rfl) m_sorted (by decide +kernel) (pa_cons (pe_op op_cat (pv 7) (pv 8)) pa_nil)) (pa_cons (pe_ix ix_tup (pv 4) pe_int (fun _ _ => rfl)) pa_nil)))) (pe_one (pe_call C_are_whys.ok hr (by rfl) C_are_whys.g C_are_whys.kp C_are_whys.b .nil pass0 (pa_cons (pv 0) (pa_cons (pv 1) (pa_cons (pv 2) (pa_cons (pv 6) (pa_cons (pe_ix ix_tup (pv 4) pe_int (fun _ _ => rfl)) pa_nil)))))))))) pss_nil)
      (pss_one (ps_ret pe_bl)))))))))), ?_⟩
    refine ⟨_, rfl, _, rfl, wd, _, rfl, hW.get he hed, ?_⟩
    refine ⟨_, rfl, _, rfl, a_WHY_SIZES, _, _, rfl, rfl, hZ _ (st_word hB d kk he), _, rfl, _, rfl, v, x, sizeW (st es d kk e), st es d kk e, e.num, rfl, hd, hf, sizeW_two _, st_ok _ _ _ _, _, rfl, ?_⟩
    refine ite2 (fun c => ?_) (fun c => ?_)
    · have c' : headD x (sizeW (st es d kk e)) (st es d kk e) e.num = false := by simpa using c
      rw [c', Bool.false_and] at q
      exact q _ (same_refl _)
    have c' : headD x (sizeW (st es d kk e)) (st es d kk e) e.num = true := by simpa using c
    rw [c', Bool.true_and] at q
    obtain ⟨ae, hg, hE⟩ := hD.get he hed
    obtain ⟨xs2, ar, ex2, g7, er⟩ := hE.seven hed
    refine ⟨_, rfl, _, rfl, dd, _, rfl, hg, ae, _, _, _, rfl, rfl, SqT.of ex2, g7, ?_⟩
    refine ⟨_, rfl, _, rfl, la, "void", e.num, ys, rfl, hA.lst, hA.on, by omega, fun lv H1 s1 nlv elv => ?_⟩
    have hA1 := hA.ext s1
    refine ⟨_, rfl, _, rfl, la, "paid", e.num, ys, rfl, hA1.lst, hA1.on, by omega, fun lp H2 s2 nlp elp => ?_⟩
    rw [filter_refs] at elv elp
    have elv2 := s2 _ _ elv
    have s12 := s1.trans s2
    have er2 := s12 _ _ er
    have hD2 := hD.ext s12
    have hW2 := hW.ext s12
    have hA2 := hA.ext s12
    have hd2 := hd.ext (.of s12)
    have hrl := rests_len hB he
    have hls : ∀ r ∈ e.rests, lessN es m r := fun r hr => by
      obtain ⟨u, hu, hud, hun, hl⟩ := rest_deed hB he hr
      have := hB.rng u hu
      exact ⟨u, hu, hud, hun, by omega⟩
    obtain ⟨a, xs, rfl, ea, hn⟩ := hd2.nth c'
    rcases st_cases hB d kk he with ⟨h1, _⟩ | ⟨h1, _⟩ | ⟨h1, _⟩ | ⟨h1, _⟩ | ⟨h1, _⟩ | ⟨h1, _⟩
    case' inl => skip
    case' inr.inl => skip
    case inr.inr.inl =>
      rw [h1] at q hn ⊢
      rw [if_pos rfl] at q
      obtain ⟨u, hu2, hdu, hfu⟩ := hn 2 (by decide)
      refine ⟨_, rfl, rfl, _, rfl, ?_⟩
      refine iteT ?_
      refine ⟨_, rfl, _, rfl, _, rfl, a, _, _, _, rfl, rfl, SqT.of ea, (atI_nat (j := 2) hu2), la, lv, n, es, d, kk, ys, voids (ens ys) e, u, x.at 2, rfl, hA2, elv2, fun u hu => till31 hO (List.mem_filter.mp hu).1, undo_len hyl _ _, hdu, hfu _ hf, fun H3 s3 => ?_⟩
      rw [if_neg (by decide)]
      exact q H3 (s12.trans s3)
    case inr.inr.inr.inl =>
      rw [h1] at q hn ⊢
      rw [if_neg (by decide), if_pos rfl] at q
      obtain ⟨u, hu2, hdu, hfu⟩ := hn 2 (by decide)
      refine ⟨_, rfl, rfl, _, rfl, ?_⟩
      refine iteF ?_
      refine ⟨_, rfl, rfl, _, rfl, ?_⟩
      refine iteT ?_
      refine ⟨_, rfl, ar, rfl, ⟨_, SqT.of er2⟩, fun M1 nM1 => ?_⟩
      refine lc_sameV (walk_tup (xs := e.rests.map V.int)) e.rests (restLost es d kk) V.int (by rw [List.length_map]) hrl nM1 (fun H s => SqT.of (s _ _ er2)) ?_ ?_
      · rintro i y x1 H3 H4 hy s3 ⟨rfl, hx⟩ Q1 Q0 q1 q0
        rw [List.getElem?_map, hy] at hx
        injection hx with hx
        subst hx
        obtain ⟨u1, hu1, hud1, hun1, _⟩ := rest_deed hB he (List.mem_of_getElem? hy)
        have hg1 := (hW2.ext s3).get hu1 hud1
        rw [hun1] at hg1
        have hl5 : restLost es d kk y = !carries (st es d kk u1) := by rw [← hun1]; exact restLost_at hB d kk hu1 hud1
        refine ⟨rfl, _, rfl, _, rfl, wd, _, rfl, hg1, a_CARRYING, _, rfl, .inr (sC _), rfl, flat_strs ["stands", "paid"], _, rfl, ?_⟩
        have hin : inV (.str (st es d kk u1)) [.str "stands", .str "paid"] = carries (st es d kk u1) := mem_inS (ws := ["stands", "paid"])
        rw [hin]
        refine ite2 (fun c => ?_) (fun c => ?_)
        · exact ⟨_, rfl, q1 (by rw [hl5]; exact c) _ (same_refl _)⟩
        · exact q0 (by rw [hl5]; simpa using c) _ (same_refl _)
      intro H3 s3 eM
      have s13 := s12.trans s3
      refine ⟨_, rfl, M1, rfl, ⟨_, SqL.of eM⟩, fun M2 nM2 => ?_⟩
      have hfl : (e.rests.filter (restLost es d kk)).length ≤ 1000 := Nat.le_trans (List.length_filter_le _ _) hrl
      refine lc_sameM (walk_list (xs := (e.rests.filter (restLost es d kk)).map V.int)) (e.rests.filter (restLost es d kk)) (fun r => .bl (whyH es (ens ys) d kk r (x.at 2))) (by rw [List.length_map]) hfl nM2 (fun H s => SqL.of (s _ _ eM)) ?_ ?_
      · rintro i y x1 H4 H5 hy s4 ⟨rfl, hx⟩ Q1 q1
        rw [List.getElem?_map, hy] at hx
        injection hx with hx
        subst hx
        have s34 := s3.trans s4
        exact ⟨rfl, _, rfl, _, rfl, _, rfl, _, rfl, _, rfl, a, _, _, _, rfl, rfl, SqT.of (s34 _ _ ea), (atI_nat (j := 2) hu2), dd, wd, la, n, es, d, kk, ys, y, u, x.at 2, rfl, hD2.ext s34, hW2.ext s34, hA2.ext s34, hls y (List.mem_filter.mp (List.mem_of_getElem? hy)).1, hdu.ext (.of s34), hfu _ hf, fun H6 s6 => q1 H6 s6⟩
      intro H4 s4 eM4
      refine ⟨M2, (e.rests.filter (restLost es d kk)).map (fun r => whyH es (ens ys) d kk r (x.at 2)), rfl, SqL.of (by rw [eM4, List.map_map]; rfl), ?_⟩
      rw [List.any_map]
      exact q H4 (s13.trans s4)
    case inr.inr.inr.inr.inl =>
      rw [h1] at q hn ⊢
      rw [if_neg (by decide), if_neg (by decide), if_pos rfl] at q
      obtain ⟨u, hu2, hdu, hfu⟩ := hn 2 (by decide)
      obtain ⟨u3, hu3, hdu3, hfu3⟩ := hn 3 (by decide)
      obtain ⟨u4, hu4, hdu4, hfu4⟩ := hn 4 (by decide)
      refine ⟨_, rfl, rfl, _, rfl, ?_⟩
      refine iteF ?_
      refine ⟨_, rfl, rfl, _, rfl, ?_⟩
      refine iteF ?_
      refine ⟨_, rfl, rfl, _, rfl, ?_⟩
      refine iteT ?_
      refine ⟨_, rfl, _, rfl, _, rfl, a, _, _, _, rfl, rfl, SqT.of ea, (atI_nat (j := 2) hu2), la, lv, n, es, d, kk, ys, voids (ens ys) e, u, x.at 2, rfl, hA2, elv2, fun u hu => till31 hO (List.mem_filter.mp hu).1, undo_len hyl _ _, hdu, hfu _ hf, fun H3 s3 => ?_⟩
      rw [if_pos rfl]
      refine ⟨_, rfl, ?_⟩
      refine ite2 (fun c1 => ?_) (fun c1 => ?_)
      · rw [c1, Bool.true_and] at q
        refine ⟨_, rfl, _, rfl, _, rfl, _, rfl, _, rfl, a, _, _, _, rfl, rfl, SqT.of (s3 _ _ ea), (atI_nat (j := 3) hu3), dd, wd, la, ar, n, es, d, kk, ys, e.rests, u3, x.at 3, rfl, hD2.ext s3, hW2.ext s3, hA2.ext s3, s3 _ _ er2, hls, hrl, hdu3.ext (.of s3), hfu3 _ hf, fun H4 s4 => ?_⟩
        refine ⟨_, rfl, ?_⟩
        have s34 := s3.trans s4
        refine ite2 (fun c2 => ?_) (fun c2 => ?_)
        · rw [c2, Bool.true_and] at q
          refine ⟨_, rfl, _, rfl, _, rfl, a, _, _, _, rfl, rfl, SqT.of (s34 _ _ ea), (atI_nat (j := 4) hu4), la, lp, n, es, d, kk, ys, paids (ens ys) e, u4, x.at 4, rfl, hA2.ext s34, s34 _ _ elp, fun u hu => till31 hO (List.mem_filter.mp hu).1, undo_len hyl _ _, hdu4.ext (.of s34), hfu4 _ hf, fun H5 s5 => ?_⟩
          rw [if_neg (by decide)]
          exact q H5 (s12.trans (s34.trans s5))
        · rw [Bool.eq_false_iff.mpr c2, Bool.false_and] at q
          exact q H4 (s12.trans s34)
      · rw [Bool.eq_false_iff.mpr c1, Bool.false_and] at q
        exact q H3 (s12.trans s3)
    case inr.inr.inr.inr.inr =>
      rw [h1] at q hn ⊢
      rw [if_neg (by decide), if_neg (by decide), if_neg (by decide), if_pos rfl] at q
      obtain ⟨u, hu2, hdu, hfu⟩ := hn 2 (by decide)
      obtain ⟨u3, hu3, hdu3, hfu3⟩ := hn 3 (by decide)
      refine ⟨_, rfl, rfl, _, rfl, ?_⟩
      refine iteF ?_
      refine ⟨_, rfl, rfl, _, rfl, ?_⟩
      refine iteF ?_
      refine ⟨_, rfl, rfl, _, rfl, ?_⟩
      refine iteF ?_
      refine ⟨_, rfl, rfl, _, rfl, ?_⟩
      refine iteT ?_
      refine ⟨_, rfl, _, rfl, _, rfl, lv, lp, _, _, rfl, rfl, elv2, elp, ?_, fun q10 nq10 => ?_⟩
      · rw [List.length_map, List.length_map, List.length_map, List.length_map]
        have a1 := undo_len hyl "void" e.num
        have a2 := List.length_filter_le (isOn "void" e.num) (ens ys)
        have a3 := List.length_filter_le (isOn "paid" e.num) (ens ys)
        rw [List.length_map] at a2 a3
        exact Nat.le_of_lt (small1000 (by omega))
      rw [← List.map_append]
      have s5 := same_new nq10 (.lst (((voids (ens ys) e).map (·.num) ++ (paids (ens ys) e).map (·.num)).map V.int))
      have e5 : (upd H2 q10 (.lst (((voids (ens ys) e).map (·.num) ++ (paids (ens ys) e).map (·.num)).map V.int))) q10 = some (.lst (((voids (ens ys) e).map (·.num) ++ (paids (ens ys) e).map (·.num)).map V.int)) := upd_same
      generalize upd H2 q10 (.lst (((voids (ens ys) e).map (·.num) ++ (paids (ens ys) e).map (·.num)).map V.int)) = H5 at s5 e5
      refine ⟨q10, _, rfl, SqL.of e5, fun ns q11 pm up nq11 => ?_⟩
      obtain rfl := both_sorted hO e pm up
      have s6 := same_new nq11 (.lst (((both (ens ys) e).map (·.num)).map V.int))
      have e6 : (upd H5 q11 (.lst (((both (ens ys) e).map (·.num)).map V.int))) q11 = some (.lst (((both (ens ys) e).map (·.num)).map V.int)) := upd_same
      generalize upd H5 q11 (.lst (((both (ens ys) e).map (·.num)).map V.int)) = H6 at s6 e6
      have s56 := s5.trans s6
      have hbl : (both (ens ys) e).length ≤ 1000 := by
        have := List.length_filter_le (fun u => isOn "void" e.num u || isOn "paid" e.num u) (ens ys)
        rw [List.length_map] at this
        exact Nat.le_trans this (by omega)
      refine ⟨_, rfl, a, _, _, _, rfl, rfl, SqT.of (s56 _ _ ea), (atI_nat (j := 2) hu2), la, q11, n, es, d, kk, ys, both (ens ys) e, u, x.at 2, rfl, hA2.ext s56, e6, fun u hu => till31 hO (List.mem_filter.mp hu).1, hbl, hdu.ext (.of s56), hfu _ hf, fun H7 s7 => ?_⟩
      rw [if_pos rfl]
      refine ⟨_, rfl, ?_⟩
      have s57 := s56.trans s7
      refine ite2 (fun c1 => ?_) (fun c1 => ?_)
      · rw [c1, Bool.true_and] at q
        exact ⟨_, rfl, _, rfl, _, rfl, _, rfl, _, rfl, a, _, _, _, rfl, rfl, SqT.of (s57 _ _ ea), (atI_nat (j := 3) hu3), dd, wd, la, ar, n, es, d, kk, ys, e.rests, u3, x.at 3, rfl, hD2.ext s57, hW2.ext s57, hA2.ext s57, s57 _ _ er2, hls, hrl, hdu3.ext (.of s57), hfu3 _ hf, fun H8 s8 => q H8 (s12.trans (s57.trans s8))⟩
      · rw [Bool.eq_false_iff.mpr c1, Bool.false_and] at q
        exact q H7 (s12.trans s57)
    all_goals
      rw [h1] at q hn ⊢
      rw [if_neg (by decide), if_neg (by decide), if_neg (by decide), if_neg (by decide)] at q
      refine ⟨_, rfl, rfl, _, rfl, ?_⟩
      refine iteF ?_
      refine ⟨_, rfl, rfl, _, rfl, ?_⟩
      refine iteF ?_
      refine ⟨_, rfl, rfl, _, rfl, ?_⟩
      refine iteF ?_
      refine ⟨_, rfl, rfl, _, rfl, ?_⟩
      refine iteF ?_
      exact q _ s12
end
end Deed

namespace Deed
open PySem PySem.Spec PyProof.Rows L2
section
variable {X : Cx}
/-- x = {k: v for ..}, x an own name -/
theorem ps_setDc {i : Nat} {y : Str} {py : Pos} {kx vx tg iter : Expr} {ifs : List Expr} {scope : Scope} {own : List (Str × Nat)} {pos spos : Pos} {wi : TI} {g : TG} {tt : TT} {tk tv : TE} (cal : X.calm = true) (nd : X.N.Nodup) (yi : X.N[i]? = some y) (yl : X.env.scope.names.lookup y = some .local)
    (sw : swapsWith (.DictComp kx vx [⟨tg, iter, ifs, 0⟩] scope pos) (some (.Name y py)) spos.line X.env = pure true) (pi : PI X tg iter wi) (blk : BlkOk X.N X.env.scope scope own)
    (pg : ∀ (s : Shared) (H : Hp) (C : Addr) (cl : List (Str × Addr)) (fp : List Addr), PG (X.blk s H scope (compEnvC scope cl C X.env) fp) tg g) (pt : ∀ (s : Shared) (H : Hp) (C : Addr) (cl : List (Str × Addr)) (fp : List Addr), PTs (X.blk s H scope (compEnvC scope cl C X.env) fp) ifs tt)
    (pk : ∀ (s : Shared) (H : Hp) (C : Addr) (cl : List (Str × Addr)) (fp : List Addr), PE (X.blk s H scope (compEnvC scope cl C X.env) fp) kx tk) (pw : ∀ (s : Shared) (H : Hp) (C : Addr) (cl : List (Str × Addr)) (fp : List Addr), PE (X.blk s H scope (compEnvC scope cl C X.env) fp) vx tv)
    (fo : ∀ x, foldedSetIterable iter X.env x = pure x := by intro _; rfl) : PS X (.Assign [.Name y py] (.DictComp kx vx [⟨tg, iter, ifs, 0⟩] scope pos) spos) (tAsg (tDc wi g tt tk tv (own.map (·.2))) (gName i)) := by
  refine ⟨fun pins s σ H D I hh => ?_⟩
  rw [exec_Assign_Name_used _ _ _ _ sw]
  refine wpAny_bind (wpAny_standAt (wpAny_bind ?_))
  show wpAny _ X.A (do let _ ← comprehension (.DictComp kx vx [⟨tg, iter, ifs, 0⟩] scope pos) scope X.env (firstIterPos [⟨tg, iter, ifs, 0⟩] pos) newDict false (eval iter X.env) (some (assign (.Name y py) X.env))) _ _ s
  have ht : tDc wi g tt tk tv (own.map (·.2)) σ H (fun x H1 => gName i x σ H1 D.nx) := hh
  refine wpAny_bind (thn (dc_core (Qf := fun _ s' => SP X pins D .next s') cal nd I pi blk pg pt pk pw fo ht fun L C s1 m H1 I1 q nC fp => ?_) fun _ s2 hq => wpAny_pure (wpAny_pure hq))
  show wpAny _ _ (assign (.Name y py) X.env (.ref L)) _ _ _
  refine wpAny_assign_Name (store_ok2 (v := V.ref L) I1 nd yi (.inl yl) rfl (fun s2 I2 ⟨c, sb, hc⟩ => ?_) (.inr yl))
  obtain ⟨f0, f1, f2, f3, f4, f5⟩ := fp
  have nc : C ≠ c := by
    rcases hc with e | e
    · rw [e]
      exact f1
    · exact fun z => f4 y c e z.symm
  refine ⟨m, nC.sameBut sb nc, fun h3 sb3 => ⟨_, H1, ?_, q⟩⟩
  exact I2.turned (t' := s2.toks) (fun b o hb e => (sb3.2 b hb).trans e) f0 f1 f3 f4 f5
theorem swD_true {kx vx : Expr} {gs : List Comprehension} {scope : Scope} {pos py : Pos} {y : Str} {l : Nat} {env : Env} (fk : env.scope.kind = .function) (yl : env.scope.names.lookup y = some .local) (hl : (py.line == pos.line) = true)
    (no : (scope.names.any fun (n, k) => n == y && (k == .local || k == .cell)) = false) : swapsWith (.DictComp kx vx gs scope pos) (some (.Name y py)) l env = pure true := by
  have k1 : env.kindOf y = some .local := yl
  have k2 : env.blockKind = .function := by
    unfold Env.blockKind
    rw [fk]
    rfl
  unfold swapsWith
  simp only [k2, k1, no, Expr.pos, hl]
  rfl
end
end Deed

namespace Deed
open PySem PySem.Spec PyProof.Rows L2 LamX
theorem dc_walk {J : It} {n : Nat} {G : Hp → Prop} {Y : Nat → Hp → V → Hp → Prop} {g : TG} {tt : TT} {tk tv : TE} {vs : List Nat} {σ : L2.St} {H1 : Hp} {D : Addr} {Qd : Hp → Prop} (wk : Walk J n G Y) (Pv : Nat → Hp → Prop) (h0 : Pv 0 (upd H1 D (.dK []))) (hl : ∀ i H, i ≤ n → Pv i H → G H)
    (hs : ∀ i x H H', i < n → Pv i H → Y i H x H' → g x (wipe σ vs) H' fun σ2 H2 => wipe σ2 vs = wipe σ vs ∧ tt σ2 H2 fun b H3 => if b = true then tk σ2 H3 fun y H4 => tv σ2 H4 fun z H5 => ∃ kvs k, y = kV k ∧ H5 D = some (.dK kvs) ∧ kvs.length < sizeLine ∧ Pv (i + 1) (upd H5 D (.dK (putK kvs k z))) else Pv (i + 1) H3)
    (hd : ∀ H, Pv n H → Qd H) : ∃ W : Nat → Nat → Hp → Prop, (∃ m, W 0 m (upd H1 D (.dK []))) ∧ ∀ i m H, W i m H → (J.stop i H ∧ Qd H) ∨ (J.go i H ∧ ∃ Nx : Hp → Prop, (∀ H', Nx H' → ∃ m', m' < m ∧ W (i + 1) m' H') ∧ ∀ x H', J.yld i H x H' → g x (wipe σ vs) H' fun σ2 H2 => wipe σ2 vs = wipe σ vs ∧ tt σ2 H2 fun b H3 =>
        if b = true then tk σ2 H3 fun y H4 => tv σ2 H4 fun z H5 => ∃ kvs k, y = kV k ∧ H5 D = some (.dK kvs) ∧ kvs.length < sizeLine ∧ Nx (upd H5 D (.dK (putK kvs k z))) else Nx H3) := by
  refine ⟨fun i m H => m = n - i ∧ i ≤ n ∧ Pv i H, ⟨n, rfl, Nat.zero_le _, h0⟩, ?_⟩
  rintro i m H ⟨rfl, hi, pp⟩
  have qq := hl i H hi pp
  rcases Nat.lt_or_ge i n with hlt | hge
  · refine .inr ⟨wk.1 i H hlt qq, Pv (i + 1), fun H' pn => ⟨n - (i + 1), by omega, rfl, hlt, pn⟩, fun x H' yy => ?_⟩
    exact hs i x H H' hlt pp (wk.3 i H x H' hlt qq yy)
  · obtain rfl : i = n := by omega
    exact .inl ⟨wk.2 H qq, hd H pp⟩
section
variable {P : Program} {w : World} {K : PySem.W.Frag} {mg : Str → Option Value} {base : Heap} {T : List (Addr × Str)}
variable {fW fV fY fN fS fA : Addr} {dW dV dY dN dS dA : FuncData}
theorem never_why {vs : List V} {H : Hp} {Q : V → Hp → Prop} {E : _} (h : spWhy 0 vs H Q E) : False := by
  obtain ⟨dd, wd, la, n, es, d, k, ys, r, v, x, rfl, _, _, _, ⟨e, _, _, _, hlt⟩, _⟩ := h
  omega
theorem why_all {c : Nat} (DW : Df K mg "is_why" sIsWhy pIsWhy fW dW) (DV : Df K mg "are_whys" sAreWhys ["deeds", "words", "acts", "numbers", "thing"] fV dV)
    (C_has_head : CallOk P w K mg base c "has_head" pHasHead spHasHead) (C_acts_on : CallOk P w K mg base c "acts_on" pActsOn spActsOn) (C_is_some_yes : CallOk P w K mg base c "is_some_yes" pIsSomeYes (spMany false 31)) (C_are_nos : CallOk P w K mg base c "are_nos" pAreNos (spMany true 31)) (m_any : mg "any" = none) (m_sorted : mg "sorted" = none) (m_isinstance : mg "isinstance" = none) (m_tuple : mg "tuple" = none) (m_len : mg "len" = none) (m_zip : mg "zip" = none) (m_all : mg "all" = none) (iRESTS : MgInt mg "RESTS" 7) (mC : CarryAt K mg) (mZ : SizesAt K w mg) :
    ∀ m : Nat, FnOk P w K mg base CX0 (2 * m + c + 1) fW dW pIsWhy (spWhy m)
  | 0 => DW.F.ok scIsWhy (fun _ _ _ _ h => (never_why h).elim) (fun _ _ _ _ _ _ _ _ _ h => (never_why h).elim)
  | m + 1 => by
    have hW := why_all DW DV C_has_head C_acts_on C_is_some_yes C_are_nos m_any m_sorted m_isinstance m_tuple m_len m_zip m_all iRESTS mC mZ m
    have gV := ok_areWhys DV.F (DW.call hW) m_isinstance m_tuple m_len m_zip m_all
    exact ok_isWhy DW.F (C_has_head.mono (by omega)) (C_acts_on.mono (by omega)) (C_is_some_yes.mono (by omega)) ((DW.call hW).mono (by omega)) (C_are_nos.mono (by omega)) ((DV.call gV).mono (by omega)) m_any m_sorted iRESTS mC mZ
abbrev sWhyHolds : Stmt := topS 43
abbrev nWhyHolds : List Str := ["book", "deed", "d", "k", "thing", "words", "deeds", "entry"]
abbrev pWhyHolds : List Str := ["book", "deed", "d", "k", "thing"]
theorem scWhyHolds : FnScope nWhyHolds pWhyHolds (defScope sWhyHolds) := ⟨rfl, rfl, rfl, by decide +kernel, rfl, by decide +kernel, by decide +kernel⟩
def spWhyHolds (T : List (Addr × Str)) : Sp := fun vs H Q _ => ∃ (b fk t : Addr) (n : Nat) (age : Int) (zs : List (Addr × En)) (e : En) (d k : Int) (v : V) (x : Dat), vs = [.ref b, .int e.num, .int d, .int k, v] ∧ BookAt H b fk t n age zs ∧ Tabs T H ∧ e ∈ ens zs ∧ e.isDeed = true ∧ (0 ≤ d ∧ d ≤ 9999) ∧ (0 ≤ k ∧ k ≤ 9999) ∧ Da H v x ∧ FineT 31 x ∧
  ∀ (ys : List En) (H' : Hp), ExtN H H' → Tabs T H' → Oa n (ens zs) d k ys → Q (.bl (whyH (ens zs) ys d k e.num x)) H'
theorem ok_whyHolds {f : Addr} {fd : FuncData} {k : Nat} (F : Fun K "why_holds" "why_holds" sWhyHolds f fd) (C_check_deed : CallOk P w K mg base k "check_deed" ["book", "thing"] (spCkDeed T)) (C_all_standing : CallOk P w K mg base k "all_standing" pAllSt (spAllSt T)) (C_open_acts : CallOk P w K mg base k "open_acts" ["book", "d", "k"] (spOpenA T)) (C_deed_entries : CallOk P w K mg base k "deed_entries" ["book"] (spPick (·.isDeed) T)) (C_is_why : CallOk P w K mg base k "is_why" pIsWhy (spWhy 31)) (iNUMBER : MgInt mg "NUMBER" 0) : FnOk P w K mg base CX0 (k + 1) f fd pWhyHolds (spWhyHolds T) := by
  refine F.ok scWhyHolds (fun vs H Q E h => ?_) (fun cdv A outer s H vs Q E hr h => ?_)
  · obtain ⟨b, fk, t, n, age, zs, e, d, k, v, x, rfl, _⟩ := h
    rfl
  · obtain ⟨b, fk, t, n, age, zs, e, d, kk, v, x, rfl, hB, hT, hee, hed, hd0, hk0, hd, hf, q⟩ := h
    have nd := scWhyHolds.nd
    have hu := hu_of hr
    refine ⟨_, PSs.nox (pss_cons (ps_expr (pe_call C_check_deed.ok hr (by rfl) C_check_deed.g C_check_deed.kp C_check_deed.b .nil pass0 (pa_cons (pv 0) (pa_cons (pv 1) pa_nil))))
      (pss_cons (ps_set (i := 5) nd rfl (.inl rfl) (pe_call C_all_standing.ok hr (by rfl) C_all_standing.g C_all_standing.kp C_all_standing.b .nil pass0 (pa_cons (pv 0) (pa_cons (pv 2) (pa_cons (pv 3) pa_nil)))))
      (pss_cons (ps_setDc (i := 6) (own := [("entry", 7)]) (g := gName 7) (by rfl) nd rfl rfl (swD_true rfl rfl rfl (by decide +kernel)) (pi_list (pe_call C_deed_entries.ok hr (by rfl) C_deed_entries.g C_deed_entries.kp C_deed_entries.b .nil pass0 (pa_cons (pv 0) pa_nil))) (blkOk_by (own := [("entry", 7)]) (N := nWhyHolds) (sc := defScope sWhyHolds) (by decide +kernel)) (fun _ _ _ _ _ => pg_name (i := 7) nd rfl (Or.inl rfl)) (fun _ _ _ _ _ => pts_nil)
          (fun _ _ _ _ _ => show PE _ _ (tOp (rIxT K) (tVar 7) (tC (.int 0))) from pe_ix ix_tup (pv 7) (pe_num (by rfl) iNUMBER) (fun _ _ => rfl)) (fun _ _ _ _ _ => pv 7))
      (pss_one (ps_ret (pe_call C_is_why.ok hr (by rfl) C_is_why.g C_is_why.kp C_is_why.b .nil pass0 (pa_cons (pv 6) (pa_cons (pv 5) (pa_cons (pe_call C_open_acts.ok hr (by rfl) C_open_acts.g C_open_acts.kp C_open_acts.b .nil pass0 (pa_cons (pv 0) (pa_cons (pv 2) (pa_cons (pv 3) pa_nil)))) (pa_cons (pv 1) (pa_cons (pv 4) pa_nil))))))))))), ?_⟩
    refine ⟨_, rfl, _, rfl, b, fk, t, n, age, zs, e, rfl, hB, hT, hee, hed, fun H1 e1 T1 => ?_⟩
    have hB1 := hB.kp (ExtN.tup e1)
    refine ⟨_, rfl, _, rfl, _, rfl, b, fk, t, n, age, zs, d, kk, rfl, hB1, T1, hd0, hk0, fun wo us H2 e2 T2 fr2 ew hDU => ?_⟩
    have e02 := e1.trans e2
    have hB2 := hB.kp (ExtN.tup e02)
    refine ⟨_, rfl, b, fk, t, n, age, zs, rfl, hB2, T2, fun p3 zs' H3 e3 T3 fr3 ep3 pm so => ?_⟩
    have e03 := e02.trans e3
    have hDs : DeedsUp zs (zs'.filter fun z => z.2.isDeed) := deedsUp_of hB.len pm so
    have hsub : ∀ z ∈ zs'.filter (fun z => z.2.isDeed), z ∈ zs ∧ z.2.isDeed = true := fun z hz => ⟨pm.mem_iff.mp (List.mem_filter.mp hz).1, (List.mem_filter.mp hz).2⟩
    generalize (zs'.filter fun z => z.2.isDeed) = ds at ep3 hsub hDs
    have hdl := hDs.2.2
    have hnd : (ds.map (fun z => z.2.num)).Nodup := by
      have := hDs.nodup
      rw [show (ens ds).map (·.num) = ds.map (fun z => z.2.num) by simp [ens, List.map_map, Function.comp_def]] at this
      exact this
    refine ⟨p3, rfl, ⟨_, SqL.of ep3⟩, fun D nD => ?_⟩
    refine dc_walk (walk_list (xs := refs ds)) (fun i H' => H' D = some (.dK ((ds.take i).map fun z => (Sum.inl z.2.num, V.ref z.1))) ∧ Same H3 H') ⟨upd_same, same_new nD _⟩ (fun i H' _ h => SqL.of (h.2 _ _ ep3)) ?_ ?_
    · rintro i x1 H4 H5 hi ⟨eD, s4⟩ ⟨rfl, hx⟩
      obtain ⟨z, hz, rfl⟩ := ref_at hx
      have hzm := List.mem_of_getElem? hz
      obtain ⟨xs, ex, g0, _⟩ := ((hB.ent z (hsub z hzm).1).kp (fun b0 xs0 h0 => s4 _ _ (ExtN.tup e03 _ _ h0))).tup
      refine ⟨rfl, ?_⟩
      show tOp (rIxT K) (tVar 7) (tC (.int 0)) _ _ _
      refine ⟨_, rfl, z.1, _, _, _, rfl, rfl, SqT.of ex, g0, _, rfl, _, Sum.inl z.2.num, rfl, eD, small1000 (by rw [List.length_map, List.length_take]; omega), ?_, same_put nD s4 _⟩
      rw [upd_same]
      have hnew : valV ((ds.take i).map fun z => ((Sum.inl z.2.num : Key), V.ref z.1)) (Sum.inl z.2.num) = none := by
        refine valV_none fun q hq => ?_
        obtain ⟨y, hy, rfl⟩ := List.mem_map.mp hq
        intro ee
        injection ee with ee
        obtain ⟨j, hj, ej⟩ := List.mem_take_iff_getElem.mp hy
        have hi2 : i < ds.length := (List.getElem?_eq_some_iff.mp hz).1
        have ei : ds[i] = z := by
          rw [List.getElem?_eq_getElem hi2] at hz
          exact Option.some.inj hz
        have := List.pairwise_iff_getElem.mp hDs.1 j i (by omega) hi2 (by omega)
        rw [ei, ej] at this
        omega
      rw [L2.putK_new _ hnew, take_more hz, List.map_append]
      rfl
    rintro H4 ⟨eD, s4⟩
    rw [show (refs ds).length = ds.length by rw [List.length_map], List.take_length] at eD
    have e04 := e03.trans (.of s4)
    have T4 := T3.ext s4
    have hB4 := hB.kp (ExtN.tup e04)
    have nk : ∀ kv : List (Key × V), ∀ ps, HO.dK kv ≠ .tbl ps := fun xs ps z => by cases z
    refine ⟨_, rfl, _, rfl, _, rfl, _, rfl, _, rfl, b, fk, t, n, age, zs, d, kk, rfl, hB4, T4, fun la ys H5 e5 T5 fr5 el hE hOA => ?_⟩
    have hO := hOA.oa hB.ok
    have e05 := e04.trans e5
    have hrg := hB.ok.rng e hee
    refine ⟨_, rfl, _, rfl, D, wo, la, n, ens zs, d, kk, ys, e.num, v, x, rfl, ⟨ds, hnd, e5 _ _ eD (nk _), fun z hz => (hB.ent z (hsub z hz).1).kp (ExtN.tup e05), fun u hu hud => ?_⟩, ⟨zs, us, rfl, hDU, e5 _ _ (s4 _ _ (e3 _ _ ew (nk _))) (nk _)⟩, ⟨el, hE, hO, hOA.len⟩, ⟨e, hee, hed, rfl, by omega⟩, hd.ext e05, hf, fun H6 s6 => q (ens ys) H6 (e05.trans (.of s6)) (T5.ext s6) hO⟩
    obtain ⟨z, hz, ez⟩ := List.mem_map.mp ((hDs.2.1 u).mpr ⟨hu, hud⟩)
    exact ⟨z, hz, ez⟩
end
end Deed

namespace Deed
open PySem PySem.Spec PyProof.Rows L2 LamX
/-- of a number: whether its entry is so -/
def pI (φ : En → Bool) (es : List En) (y : Int) : Bool := es.any fun u => decide (u.num = y) && φ u
theorem pI_at {n : Nat} {es : List En} (hB : BkOk n es) (φ : En → Bool) {u : En} (hu : u ∈ es) : pI φ es u.num = φ u := by
  unfold pI
  cases h : φ u with
  | true => exact List.any_eq_true.mpr ⟨u, hu, by rw [h, decide_eq_true rfl]; rfl⟩
  | false =>
    rw [List.any_eq_false]
    intro v hv
    by_cases hn : v.num = u.num
    · rw [num_inj hB hv hu hn, h]
      simp
    · simp [hn]
/-- open ones of a number, by words -/
def openOf (ys : List En) (ws : List Str) (m : Int) : List En := ys.filter (onAny ws m)
theorem sel_eq {n : Nat} {es ys : List En} (hB : BkOk n es) {ws : List Str} {m : Int} {ns : List Int} (pm : ns.Perm ((es.filter (onAny ws m)).map (·.num))) (up : ns.Pairwise (· ≤ ·)) (φ : En → Bool) (hu : ys.Pairwise (fun a b => a.num < b.num)) (hm : ∀ u, u ∈ ys ↔ u ∈ es ∧ onAny ws m u = true ∧ φ u = true) : ns.filter (pI φ es) = ys.map (·.num) := by
  have hnn : ns.Nodup := by
    rw [pm.nodup_iff]
    exact (List.filter_sublist.map _).nodup hB.nd
  refine rising_one ((rising_of hnn up).sublist List.filter_sublist) ?_ fun x => ?_
  · rw [List.pairwise_map]
    exact hu
  · rw [List.mem_filter, pm.mem_iff, List.mem_map, List.mem_map]
    constructor
    · rintro ⟨⟨u, h1, rfl⟩, h2⟩
      obtain ⟨h3, h4⟩ := List.mem_filter.mp h1
      rw [pI_at hB φ h3] at h2
      exact ⟨u, (hm u).mpr ⟨h3, h4, h2⟩, rfl⟩
    · rintro ⟨u, h1, rfl⟩
      obtain ⟨h3, h4, h5⟩ := (hm u).mp h1
      exact ⟨⟨u, List.mem_filter.mpr ⟨h3, h4⟩, rfl⟩, by rw [pI_at hB φ h3]; exact h5⟩
theorem on_act {ws : List Str} (hws : ("deed" : Str) ∉ ws) {m : Int} {u : En} (h : onAny ws m u = true) : u.isDeed = false := by
  unfold onAny at h
  rw [Bool.and_eq_true] at h
  have h1 := of_decide_eq_true h.1
  cases hd : u.isDeed with
  | false => rfl
  | true =>
    unfold En.isDeed at hd
    unfold En.word at h1
    cases hk : u.kd with
    | deed g t r w =>
      rw [hk] at h1
      exact absurd h1 hws
    | act x o =>
      rw [hk] at hd
      cases hd
section
variable {P : Program} {w : World} {K : PySem.W.Frag} {mg : Str → Option Value} {base : Heap} {T : List (Addr × Str)}
abbrev sLOpenOf : Stmt := topS 62
abbrev nLOpenOf : List Str := ["_law_entries_here", "_law_number", "_law_words_here", "_law_d", "_law_k", "_law_one"]
abbrev pLOpenOf : List Str := ["_law_entries_here", "_law_number", "_law_words_here", "_law_d", "_law_k"]
theorem scLOpenOf : FnScope nLOpenOf pLOpenOf (defScope sLOpenOf) := ⟨rfl, rfl, rfl, by decide +kernel, rfl, by decide +kernel, by decide +kernel⟩
def spLOpenOf : Sp := fun vs H Q _ => ∃ (ed wa : Addr) (m d k : Int) (ws : List Str) (n : Nat) (zs : List (Addr × En)) (ys : List En), vs = [.ref ed, .int m, .ref wa, .int d, .int k] ∧ EdAt H ed n zs ∧ H wa = some (.tup (ws.map V.str)) ∧ ("deed" : Str) ∉ ws ∧ Oa n (ens zs) d k ys ∧
  ∀ p H', Same H H' → H p = none → H' p = some (.lst (((openOf ys ws m).map (·.num)).map V.int)) → Q (.ref p) H'
theorem ok_LOpenOf {f : Addr} {fd : FuncData} {k : Nat} (F : Fun K "_law_open_of" "_law_open_of" sLOpenOf f fd) (C__law_of : CallOk P w K mg base k "_law_of" pOf spOf) (C__law_open : CallOk P w K mg base k "_law_open" nOpen spOpen) : FnOk P w K mg base CX0 (k + 1) f fd pLOpenOf spLOpenOf := by
  refine F.ok scLOpenOf (fun vs H Q E h => ?_) (fun cdv A outer s H vs Q E hr h => ?_)
  · obtain ⟨ed, wa, m, d, k, ws, n, zs, ys, rfl, _⟩ := h
    rfl
  · obtain ⟨ed, wa, m, d, kk, ws, n, zs, ys, rfl, hE, hW, hws, hO, q⟩ := h
    have nd := scLOpenOf.nd
    have hu := hu_of hr
    refine ⟨_, pss_one (ps_ret (pe_lc (own := [("_law_one", 5)]) (g := gName 5) (by rfl) nd (pi_list (pe_call C__law_of.ok hr (by rfl) C__law_of.g C__law_of.kp C__law_of.b .nil pass0 (pa_cons (pv 0) (pa_cons (pv 1) (pa_cons (pv 2) pa_nil))))) (blkOk_by (own := [("_law_one", 5)]) (N := nLOpenOf) (sc := defScope sLOpenOf) (by decide +kernel)) (fun _ _ _ _ _ => (pg_name (i := 5) nd rfl (.inl rfl))) (fun _ _ _ _ _ => (pts_one (pt_val (pe_call C__law_open.ok hr (by rfl) C__law_open.g C__law_open.kp C__law_open.b .nil pass0 (pa_cons (pe_dget hu (pv 0) (pv 5) (fun _ _ => rfl)) (pa_cons (pv 3) (pa_cons (pv 4) pa_nil)))))))
          (fun _ _ _ _ _ => (pv 5)))), ?_⟩
    refine ⟨_, rfl, _, rfl, _, rfl, ed, wa, m, ws, n, zs, rfl, hE, hW, hws, fun p ns H1 s1 np ep pm up => ?_⟩
    have hlen : ns.length ≤ 1000 := by
      rw [pm.length_eq, List.length_map]
      have a1 := List.length_filter_le (onAny ws m) (ens zs)
      rw [List.length_map] at a1
      have a2 := hE.len
      omega
    refine ⟨p, rfl, ⟨_, SqL.of ep⟩, fun M1 nM1 => ?_⟩
    refine lc_sameV (walk_list (xs := ns.map V.int)) ns (pI (isOpen d kk) (ens zs)) V.int (by rw [List.length_map]) hlen nM1 (fun H s => SqL.of (s _ _ ep)) ?_ ?_
    · rintro i y x H3 H4 hy s3 ⟨rfl, hx⟩ Q1 Q0 q1 q0
      rw [List.getElem?_map, hy] at hx
      injection hx with hx
      subst hx
      obtain ⟨u, hu1, rfl⟩ := List.mem_map.mp (pm.mem_iff.mp (List.mem_of_getElem? hy))
      have hu2 := (List.mem_filter.mp hu1).1
      obtain ⟨z, hz, rfl⟩ := List.mem_map.mp hu2
      have hE3 := (hE.same s1).same s3
      rw [pI_at hE.ok (isOpen d kk) hu2] at q1 q0
      refine ⟨rfl, _, rfl, _, rfl, ed, _, rfl, hE3.get hz, _, rfl, _, rfl, z.1, z.2, d, kk, rfl, hE3.ent z hz, _, rfl, ?_⟩
      refine ite2 (fun c => ?_) (fun c => ?_)
      · exact ⟨_, rfl, q1 c _ (same_refl _)⟩
      · exact q0 (Bool.eq_false_iff.mpr c) _ (same_refl _)
    intro H2 s2 eM
    rw [sel_eq (ys := openOf ys ws m) hE.ok pm up (isOpen d kk) (hO.up.sublist List.filter_sublist) (fun u => ?_)] at eM
    · exact q M1 H2 (s1.trans s2) (none_back s1 nM1) eM
    · unfold openOf
      rw [List.mem_filter]
      constructor
      · rintro ⟨h1, h2⟩
        exact ⟨(hO.mem u h1).1, h2, (hO.mem u h1).2.2⟩
      · rintro ⟨h1, h2, h3⟩
        exact ⟨hO.all u h1 (on_act hws h2) h3, h2⟩
end
end Deed

namespace Deed
open PySem PySem.Spec PyProof.Rows L2 LamX
theorem openOf_one (ys : List En) (x : Str) (m : Int) : openOf ys [x] m = ys.filter (isOn x m) := by
  unfold openOf
  refine List.filter_congr fun u _ => ?_
  unfold onAny isOn
  simp
theorem yes_filt2 {n : Nat} {es : List En} {d k : Int} {ys : List En} (h : Oa n es d k ys) {us : List En} (hs : ∀ u ∈ us, u ∈ ys) : (us.map (pap ys)).filter isYesD = (us.filter (frc es d k)).map (pap ys) := by
  rw [List.filter_map]
  congr 1
  exact List.filter_congr fun u hu => pap_yes h (hs u hu)
theorem frc_none {n : Nat} {es : List En} {d k : Int} {ys : List En} (h : Oa n es d k ys) {e : En} (he : e ∈ ys) : frc es d k e = ((ys.filter (isOn "undone" e.num)).filter (frc es d k)).isEmpty := by
  rw [← pap_yes h he, pap_eq h he, yes_papO, yes_filt2 h fun u hu => (List.mem_filter.mp hu).1]
  cases (ys.filter (isOn "undone" e.num)).filter (frc es d k) <;> rfl
theorem pap_is_yes {n : Nat} {es : List En} {d k : Int} {ys : List En} (h : Oa n es d k ys) {e : En} (he : e ∈ ys) (hf : frc es d k e = true) : pap ys e = .tup [.str "yes", .int e.num, .tup ((ys.filter (isOn "undone" e.num)).map (pap ys))] := by
  rw [pap_eq h he]
  rw [frc_none h he] at hf
  unfold papO
  rw [yes_filt2 h fun u hu => (List.mem_filter.mp hu).1, List.isEmpty_iff.mp hf]
  rfl
theorem pap_is_no {n : Nat} {es : List En} {d k : Int} {ys : List En} (h : Oa n es d k ys) {e u : En} {r : List En} (he : e ∈ ys) (hf : (ys.filter (isOn "undone" e.num)).filter (frc es d k) = u :: r) : pap ys e = .tup [.str "no", .int e.num, pap ys u] := by
  rw [pap_eq h he]
  unfold papO
  rw [yes_filt2 h fun u hu => (List.mem_filter.mp hu).1, hf]
  rfl
end Deed

namespace Deed
open PySem PySem.Spec PyProof.Rows L2 LamX
/-! tuples put together and cut, whatever they are: what follows is shown once -/
theorem catA_same {K : PySem.W.Frag} {H : Hp} {a b : Addr} {xs ys : List V} {Q : VK} (ha : H a = some (.tup xs)) (hb : H b = some (.tup ys)) (hl : xs.length + ys.length ≤ 1000) (q : ∀ t H', Same H H' → H' t = some (.tup (xs ++ ys)) → Q (.ref t) H') : rCatA K (.ref a) (.ref b) H Q := by
  refine ⟨a, b, xs, ys, rfl, rfl, SqT.of ha, SqT.of hb, Nat.le_of_lt (small1000 hl), fun e => ?_, fun _ e => ?_, fun _ _ p np => q p _ (same_new np _) upd_same⟩
  · subst e
    exact q b H (same_refl _) hb
  · subst e
    exact q a H (same_refl _) (by rw [List.append_nil]; exact ha)
theorem slA_same {K : PySem.W.Frag} {H : Hp} {a : Addr} {xs : List V} {lo hi : Option Int} {Q : VK} (ha : H a = some (.tup xs)) (q : ∀ t H', Same H H' → H' t = some (.tup (cutV xs lo hi)) → Q (.ref t) H') : rSlA K (.ref a) lo hi H Q := by
  refine ⟨a, xs, rfl, SqT.of ha, fun e => ?_, fun _ p np => q p _ (same_new np _) upd_same⟩
  refine q a H (same_refl _) ?_
  rw [ha]
  unfold cutV
  rw [e.1, e.2, List.drop_zero, Nat.sub_zero, List.take_length]
end Deed

namespace Deed
open PySem PySem.Spec PyProof.Rows L2 LamX
/-! ### a thing of whatever kind, as data -/
theorem Kp.noneG {p q : Addr} {H H' : Hp} (k : Kp p H H') (n : q ≠ p) (h : H' q = none) : H q = none := by
  cases e : H q with
  | none => rfl
  | some o => rw [k _ _ n e] at h; cases h
inductive Tg where
  | non | bl (b : Bool) | int (i : Int) | str (x : Str) | lst | tup (ts : List Tg) | dct
mutual
inductive TgAt (p : Addr) (H : Hp) : V → Tg → Prop
  | non : TgAt p H .non .non
  | bl (b : Bool) : TgAt p H (.bl b) (.bl b)
  | int (i : Int) : TgAt p H (.int i) (.int i)
  | str (x : Str) : TgAt p H (.str x) (.str x)
  | lst {a : Addr} {xs : List V} : a ≠ p → H a = some (.lst xs) → TgAt p H (.ref a) .lst
  | tup {a : Addr} {xs : List V} {ts : List Tg} : H a = some (.tup xs) → TgAll p H xs ts → TgAt p H (.ref a) (.tup ts)
  | dct {a : Addr} {kvs : List (Key × V)} : a ≠ p → H a = some (.dK kvs) → TgAt p H (.ref a) .dct
inductive TgAll (p : Addr) (H : Hp) : List V → List Tg → Prop
  | nil : TgAll p H [] []
  | cons {v : V} {vs : List V} {t : Tg} {ts : List Tg} : TgAt p H v t → TgAll p H vs ts → TgAll p H (v :: vs) (t :: ts)
end
section
variable {p : Addr} {H H' : Hp} {K : PySem.W.Frag}
mutual
theorem TgAt.kp (k : Kp p H H') (P : PenAt H p) : ∀ (t : Tg) (v : V), TgAt p H v t → TgAt p H' v t
  | .non, _, h => by cases h; exact .non
  | .bl _, _, h => by cases h; exact .bl _
  | .int _, _, h => by cases h; exact .int _
  | .str _, _, h => by cases h; exact .str _
  | .lst, _, h => by
    cases h with
    | lst n e => exact .lst n (k _ _ n e)
  | .tup ts, _, h => by
    cases h with
    | tup e ha => exact .tup (k.tup P _ _ e) (TgAll.kp k P ts _ ha)
  | .dct, _, h => by
    cases h with
    | dct n e => exact .dct n (k _ _ n e)
theorem TgAll.kp (k : Kp p H H') (P : PenAt H p) : ∀ (ts : List Tg) (vs : List V), TgAll p H vs ts → TgAll p H' vs ts
  | [], _, h => by cases h; exact .nil
  | t :: ts, _, h => by
    cases h with
    | cons h1 h2 => exact .cons (TgAt.kp k P t _ h1) (TgAll.kp k P ts _ h2)
end
mutual
theorem TgAt.same (k : Same H H') : ∀ (t : Tg) (v : V), TgAt p H v t → TgAt p H' v t
  | .non, _, h => by cases h; exact .non
  | .bl _, _, h => by cases h; exact .bl _
  | .int _, _, h => by cases h; exact .int _
  | .str _, _, h => by cases h; exact .str _
  | .lst, _, h => by
    cases h with
    | lst n e => exact .lst n (k _ _ e)
  | .tup ts, _, h => by
    cases h with
    | tup e ha => exact .tup (k _ _ e) (TgAll.same k ts _ ha)
  | .dct, _, h => by
    cases h with
    | dct n e => exact .dct n (k _ _ e)
theorem TgAll.same (k : Same H H') : ∀ (ts : List Tg) (vs : List V), TgAll p H vs ts → TgAll p H' vs ts
  | [], _, h => by cases h; exact .nil
  | t :: ts, _, h => by
    cases h with
    | cons h1 h2 => exact .cons (TgAt.same k t _ h1) (TgAll.same k ts _ h2)
end
mutual
/-- a list that changes stays a list -/
theorem TgAt.relist {M : Addr} {xs ys : List V} (e : H M = some (.lst xs)) : ∀ (t : Tg) (v : V), TgAt p H v t → TgAt p (upd H M (.lst ys)) v t
  | .non, _, h => by cases h; exact .non
  | .bl _, _, h => by cases h; exact .bl _
  | .int _, _, h => by cases h; exact .int _
  | .str _, _, h => by cases h; exact .str _
  | .lst, _, h => by
    cases h with
    | @lst a zs n e' =>
      by_cases ha : a = M
      · subst ha
        exact .lst n upd_same
      · exact .lst n (by rw [upd_ne ha]; exact e')
  | .tup ts, _, h => by
    cases h with
    | tup e' ha => exact .tup (by rw [upd_ne fun z => by rw [z, e] at e'; cases e']; exact e') (TgAll.relist e ts _ ha)
  | .dct, _, h => by
    cases h with
    | dct n e' => exact .dct n (by rw [upd_ne fun z => by rw [z, e] at e'; cases e']; exact e')
theorem TgAll.relist {M : Addr} {xs ys : List V} (e : H M = some (.lst xs)) : ∀ (ts : List Tg) (vs : List V), TgAll p H vs ts → TgAll p (upd H M (.lst ys)) vs ts
  | [], _, h => by cases h; exact .nil
  | t :: ts, _, h => by
    cases h with
    | cons h1 h2 => exact .cons (TgAt.relist e t _ h1) (TgAll.relist e ts _ h2)
end
theorem TgAll.length : ∀ {vs : List V} {ts : List Tg}, TgAll p H vs ts → vs.length = ts.length
  | _, [], h => by cases h; rfl
  | _, t :: ts, h => by
    cases h with
    | cons h1 h2 => rw [List.length_cons, List.length_cons, TgAll.length h2]
theorem TgAll.get : ∀ {vs : List V} {ts : List Tg} {i : Nat} {v : V}, TgAll p H vs ts → vs[i]? = some v → ∃ t, ts[i]? = some t ∧ TgAt p H v t
  | _, [], i, v, h, e => by
    cases h
    cases e
  | _, t :: ts, i, v, h, e => by
    cases h with
    | cons h1 h2 =>
      cases i with
      | zero =>
        injection e with e
        subst e
        exact ⟨t, rfl, h1⟩
      | succ i => exact TgAll.get (i := i) h2 (by simpa using e)
theorem TgAll.append : ∀ {vs : List V} {ts : List Tg} {vs' : List V} {ts' : List Tg}, TgAll p H vs ts → TgAll p H vs' ts' → TgAll p H (vs ++ vs') (ts ++ ts')
  | _, [], _, _, h, h' => by
    cases h
    exact h'
  | _, t :: ts, _, _, h, h' => by
    cases h with
    | cons h1 h2 => exact .cons h1 (TgAll.append h2 h')
theorem TgAll.take : ∀ {vs : List V} {ts : List Tg} (n : Nat), TgAll p H vs ts → TgAll p H (vs.take n) (ts.take n)
  | _, _, 0, _ => .nil
  | _, [], n + 1, h => by
    cases h
    exact .nil
  | _, t :: ts, n + 1, h => by
    cases h with
    | cons h1 h2 => exact .cons h1 (TgAll.take n h2)
theorem TgAll.drop : ∀ {vs : List V} {ts : List Tg} (n : Nat), TgAll p H vs ts → TgAll p H (vs.drop n) (ts.drop n)
  | _, _, 0, h => h
  | _, [], n + 1, h => by
    cases h
    exact .nil
  | _, t :: ts, n + 1, h => by
    cases h with
    | cons h1 h2 => exact TgAll.drop n h2
theorem TgAll.reverse : ∀ {vs : List V} {ts : List Tg}, TgAll p H vs ts → TgAll p H vs.reverse ts.reverse
  | _, [], h => by
    cases h
    exact .nil
  | _, t :: ts, h => by
    cases h with
    | cons h1 h2 =>
      rw [List.reverse_cons, List.reverse_cons]
      exact (TgAll.reverse h2).append (.cons h1 .nil)
theorem TgAll.cut {vs : List V} {ts : List Tg} (h : TgAll p H vs ts) (lo hi : Option Int) : ∃ ts', TgAll p H (cutV vs lo hi) ts' := ⟨_, (h.drop _).take _⟩
theorem TgAll.rep {vs : List V} {ts : List Tg} (h : TgAll p H vs ts) : ∀ k : Nat, TgAll p H (List.replicate k vs).flatten (List.replicate k ts).flatten
  | 0 => .nil
  | k + 1 => by
    rw [List.replicate_succ, List.replicate_succ, List.flatten_cons, List.flatten_cons]
    exact h.append (h.rep k)
theorem TgAll.ints : ∀ ns : List Int, TgAll p H (ns.map V.int) (ns.map Tg.int)
  | [] => .nil
  | n :: r => .cons (.int n) (TgAll.ints r)
theorem TgAll.mk {vs : List V} (h : ∀ v ∈ vs, ∃ t, TgAt p H v t) : ∃ ts, TgAll p H vs ts := by
  induction vs with
  | nil => exact ⟨[], .nil⟩
  | cons v r ih =>
    obtain ⟨t, ht⟩ := h v List.mem_cons_self
    obtain ⟨ts, hts⟩ := ih fun x hx => h x (List.mem_cons_of_mem _ hx)
    exact ⟨t :: ts, .cons ht hts⟩
theorem TgAll.mem {vs : List V} {ts : List Tg} (h : TgAll p H vs ts) {v : V} (hv : v ∈ vs) : ∃ t, t ∈ ts ∧ TgAt p H v t := by
  obtain ⟨i, hi, e⟩ := List.mem_iff_getElem.mp hv
  obtain ⟨t, ht, hat⟩ := h.get (i := i) (by rw [List.getElem?_eq_getElem hi, e])
  exact ⟨t, List.mem_of_getElem? ht, hat⟩
theorem TgAt.knd {v : V} {t : Tg} (h : TgAt p H v t) : Knd H v := by
  cases h with
  | non => exact .non
  | bl b => exact .bl b
  | int i => exact .int i
  | str x => exact .str x
  | lst _ e => exact .lst e
  | tup e _ => exact .tup e
  | dct _ e => exact .dct e
def Tg.ty : Tg → String
  | .non => "NoneType" | .bl _ => "bool" | .int _ => "int" | .str _ => "str" | .lst => "list" | .tup _ => "tuple" | .dct => "dict"
theorem TgAt.ty {v : V} {t : Tg} (h : TgAt p H v t) : TyX K H v (.type t.ty) := by
  cases h with
  | non => exact .base .non
  | bl b => exact .base (.bl b)
  | int i => exact .base (.int i)
  | str x => exact .base (.str x)
  | lst _ e => exact .base (.lst e)
  | tup e _ => exact .base (.tup e)
  | dct _ e => exact .base (.dK e)
def Tg.isI : Tg → Bool | .int _ => true | .bl _ => true | _ => false
def Tg.isB : Tg → Bool | .bl _ => true | _ => false
def Tg.isT : Tg → Bool | .tup _ => true | _ => false
def Tg.isS : Tg → Bool | .str _ => true | _ => false
def Tg.isL : Tg → Bool | .lst => true | _ => false
theorem Tg.kI (t : Tg) : kitB t.ty "int" = some t.isI := by cases t <;> (simp only [Tg.ty, Tg.isI]; decide +kernel)
theorem Tg.kB (t : Tg) : kitB t.ty "bool" = some t.isB := by cases t <;> (simp only [Tg.ty, Tg.isB]; decide +kernel)
theorem Tg.kT (t : Tg) : kitB t.ty "tuple" = some t.isT := by cases t <;> (simp only [Tg.ty, Tg.isT]; decide +kernel)
theorem Tg.kS (t : Tg) : kitB t.ty "str" = some t.isS := by cases t <;> (simp only [Tg.ty, Tg.isS]; decide +kernel)
theorem Tg.kL (t : Tg) : kitB t.ty "list" = some t.isL := by cases t <;> (simp only [Tg.ty, Tg.isL]; decide +kernel)
theorem TgAt.tupOf {v : V} {t : Tg} (h : TgAt p H v t) (ht : t.isT = true) : ∃ a xs ts, v = .ref a ∧ t = .tup ts ∧ H a = some (.tup xs) ∧ TgAll p H xs ts := by
  cases h with
  | tup e ha => exact ⟨_, _, _, rfl, rfl, e, ha⟩
  | _ => cases ht
end
end Deed

namespace Deed
open PySem PySem.Spec PyProof.Rows L2 LamX
section
variable {P : Program} {w : World} {K : PySem.W.Frag} {mg : Str → Option Value} {base : Heap}
abbrev CDrw (P : Program) (w : World) (K : PySem.W.Frag) (mg : Str → Option Value) (base : Heap) (k : Nat) := CallOk P w K mg base k "_law_draw" ["_law_pen_here", "_law_bound"] spDraw
abbrev sLThing : Stmt := topS 69
abbrev nLThing : List Str := ["_law_pen_here", "_law_deep", "_law_way", "_law_parts", "_law_k"]
abbrev pLThing : List Str := ["_law_pen_here", "_law_deep"]
theorem scLThing : FnScope nLThing pLThing (defScope sLThing) := ⟨rfl, rfl, rfl, by decide +kernel, rfl, by decide +kernel, by decide +kernel⟩
def spLThing (n : Nat) : Sp := fun vs H Q _ => ∃ (p : Addr) (deep : Int), vs = [.ref p, .int deep] ∧ PenAt H p ∧ 0 ≤ deep ∧ deep < n ∧ ∀ v H', Kp p H H' → PenAt H' p → (∃ t, TgAt p H' v t) → Q v H'
theorem ok_LThing {f : Addr} {fd : FuncData} {k : Nat} (D : Df K mg "_law_thing" sLThing pLThing f fd) (cDr : ∀ n, CDrw P w K mg base (k + n)) (m_range : mg "range" = none) (m_tuple : mg "tuple" = none) : ∀ n : Nat, FnOk P w K mg base CX0 (k + n + 1) f fd pLThing (spLThing n)
  | 0 => by
    refine D.F.ok scLThing (fun vs H Q E h => ?_) (fun cdv A outer s H vs Q E hr h => ?_)
    · obtain ⟨p, deep, rfl, _⟩ := h
      rfl
    · obtain ⟨p, deep, rfl, _, h0, h1, _⟩ := h
      omega
  | n + 1 => by
    have C__law_thing : CallOk P w K mg base (k + (n + 1)) "_law_thing" pLThing (spLThing n) := D.call (ok_LThing D cDr m_range m_tuple n)
    have C__law_draw := cDr (n + 1)
    refine D.F.ok scLThing (fun vs H Q E h => ?_) (fun cdv A outer s H vs Q E hr h => ?_)
    · obtain ⟨p, deep, rfl, _⟩ := h
      rfl
    · obtain ⟨p, deep, rfl, hP, h0, h1, q⟩ := h
      have nd := scLThing.nd
      refine ⟨_, pss_cons (ps_set (i := 2) nd rfl (.inl rfl) (pe_call C__law_draw.ok hr (by rfl) C__law_draw.g C__law_draw.kp C__law_draw.b .nil pass0 (pa_cons (pv 0) (pa_cons pe_int pa_nil))))
      (pss_cons (ps_if (PW.pt (pw_or (pt_cmpR op_lt (pv 2) pe_int (nomark _)) (pw_or1 (pt_cmpR op_eq (pv 1) pe_int (nomark _))))) (pss_one (ps_ret (pe_ix ix_list (pe_lst (pa_cons pe_non (pa_cons pe_bl (pa_cons pe_bl (pa_cons pe_int (pa_cons pe_int (pa_cons (pe_un un_neg pe_int) (pa_cons pe_int (pa_cons (pe_op op_pow pe_int pe_int) (pa_cons pe_str (pa_cons pe_str (pa_cons (pe_tup pa_nil) (pa_cons (pe_lst pa_nil) pa_nil))))))))))))) (pe_call C__law_draw.ok hr (by rfl) C__law_draw.g C__law_draw.kp C__law_draw.b .nil pass0 (pa_cons (pv 0) (pa_cons pe_int pa_nil))) (fun _ _ => rfl)))) pss_nil)
      (pss_cons (ps_setLc (i := 3) (own := [("_law_k", 4)]) (g := gName 4) (by rfl) nd rfl rfl (sw_true rfl rfl rfl (by decide +kernel)) (pi_range1 rfl m_range (pa_cons (pe_call C__law_draw.ok hr (by rfl) C__law_draw.g C__law_draw.kp C__law_draw.b .nil pass0 (pa_cons (pv 0) (pa_cons pe_int pa_nil))) pa_nil)) (blkOk_by (own := [("_law_k", 4)]) (N := nLThing) (sc := defScope sLThing) (by decide +kernel)) (fun _ _ _ _ _ => (pg_name (i := 4) nd rfl (.inl rfl))) (fun _ _ _ _ _ => pts_nil)
          (fun _ _ _ _ _ => (pe_call C__law_thing.ok hr (by rfl) C__law_thing.g C__law_thing.kp C__law_thing.b .nil pass0 (pa_cons (pv 0) (pa_cons (pe_op op_sub (pv 1) pe_int) pa_nil)))))
      (pss_cons (ps_if (pt_cmpR op_eq (pv 2) pe_int (nomark _)) (pss_one (ps_ret (pv 3))) pss_nil)
      (pss_cons (ps_if (pt_cmpR op_eq (pv 2) pe_int (nomark _)) (pss_one (ps_ret (pe_disp (pps_cons pe_str (pv 3) pps_nil) rfl rfl (by simp) (by decide)))) pss_nil)
      (pss_one (ps_ret (pe_callTy call_tuple_of (by rfl) m_tuple (by decide +kernel) (pa_cons (pv 3) pa_nil)))))))), ?_⟩
      refine ⟨_, rfl, p, 12, rfl, hP, by decide, by decide, fun way H1 k1 P1 a1 b1 => ?_⟩
      refine ⟨_, rfl, _, _, rfl, rfl, _, rfl, ?_⟩
      refine ite2 (fun c => ?_) (fun c => ⟨_, rfl, rfl, _, rfl, ite2 (fun c2 => ?_) (fun c2 => ?_)⟩)
      rotate_right 1
      · have hd : deep ≠ 0 := fun h => c2 (decide_eq_true (congrArg V.int h))
        refine ⟨_, rfl, p, 4, rfl, P1, by decide, by decide, fun m H2 k2 P2 a2 b2 => ?_⟩
        refine ⟨_, rfl, by omega, by omega, fun M nM => ?_⟩
        have nMp : M ≠ p := P2.free nM
        refine lc_range (lo := 0) (n := m.toNat) (fun i H' => ∃ (xs : List V) (ts : List Tg), H' M = some (.lst xs) ∧ Kp p H2 H' ∧ PenAt H' p ∧ xs.length = i ∧ TgAll p H' xs ts) ⟨[], [], upd_same, Kp.new nM _, P2.new nM _, rfl, .nil⟩ ?_ ?_
        · rintro i H3 hi ⟨xs, ts, eM, k3, P3, hl, hts⟩
          refine ⟨rfl, ?_⟩
          unfold tYes
          dsimp only
          rw [if_pos rfl]
          refine ⟨_, rfl, _, rfl, _, _, rfl, rfl, p, deep - 1, rfl, P3, by omega, by omega, fun v H4 k4 P4 ⟨t, hv⟩ => ?_⟩
          have eM4 := k4 _ _ nMp eM
          have hxs4 : ∀ x ∈ xs ++ [v], ∃ t, TgAt p (upd H4 M (.lst (xs ++ [v]))) x t := fun x hx => by
            have h5 : ∃ t, TgAt p H4 x t := by
              rcases List.mem_append.mp hx with hx | hx
              · obtain ⟨t', _, ht'⟩ := hts.mem hx
                exact ⟨t', TgAt.kp k4 P3 _ _ ht'⟩
              · rw [List.mem_singleton.mp hx]
                exact ⟨t, hv⟩
            obtain ⟨t5, h5⟩ := h5
            exact ⟨t5, TgAt.relist eM4 t5 x h5⟩
          obtain ⟨ts', hts'⟩ := TgAll.mk hxs4
          exact ⟨_, eM4, small1000 (by omega), xs ++ [v], ts', upd_same, (k3.trans k4).over nM _, P4.put nMp _, by rw [List.length_append, hl]; rfl, hts'⟩
        rintro H3 ⟨xs, ts, eM, k3, P3, hl, hts⟩
        have k03 := k1.trans (k2.trans k3)
        refine ⟨_, rfl, rfl, _, rfl, ite2 (fun c => ⟨_, rfl, q _ H3 k03 P3 ⟨_, .lst nMp eM⟩⟩) (fun c => ⟨_, rfl, rfl, _, rfl, ite2 (fun c => ?_) (fun c => ?_)⟩)⟩
        · intro d nd'
          have ndp : d ≠ p := P3.free nd'
          exact ⟨_, rfl, upd_same, [(Sum.inr "a", .ref M)], rfl, (by show 1 ≤ 15; omega), q _ _ ((k03.trans (Kp.new nd' _)).over (k03.noneG ndp nd') _) ((P3.new nd' _).put ndp _) ⟨_, .dct ndp upd_same⟩⟩
        · exact ⟨_, rfl, M, _, rfl, .inl ⟨SqL.of eM, fun t nt => q _ _ (k03.trans (Kp.new nt _)) (P3.new nt _) ⟨_, .tup upd_same (TgAll.kp (Kp.new nt _) P3 _ _ hts)⟩⟩⟩
      all_goals
        refine ⟨_, rfl, _, _, rfl, rfl, ⟨by decide, by decide, by decide⟩, Nat.zero_le _, fun t1 nt1 => ?_⟩
        have P2 := P1.new nt1 (.tup [])
        have k2 : Kp p H1 (upd H1 t1 (.tup [])) := Kp.new nt1 _
        have e2 : (upd H1 t1 (.tup [])) t1 = some (.tup []) := upd_same
        generalize (upd H1 t1 (.tup [])) = H2 at P2 k2 e2
        refine ⟨Nat.zero_le _, fun l2 nl2 => ?_⟩
        have P3 := P2.new nl2 (.lst [])
        have k3 : Kp p H2 (upd H2 l2 (.lst [])) := Kp.new nl2 _
        have s3 := same_new nl2 (.lst [])
        have e3 : (upd H2 l2 (.lst [])) l2 = some (.lst []) := upd_same
        have np2 : l2 ≠ p := P2.free nl2
        generalize (upd H2 l2 (.lst [])) = H3 at P3 k3 s3 e3
        refine ⟨(by show 12 ≤ sizeLine; decide), fun l3 nl3 => ?_⟩
        have np3 : l3 ≠ p := P3.free nl3
        have s4 := same_new nl3 (.lst [.non, .bl true, .bl false, .int 0, .int 1, .int (-1), .int 9, .int (10 ^ (39 : Int).toNat), .str "", .str "a", .ref t1, .ref l2])
        refine ⟨_, rfl, p, 12, rfl, P3.new nl3 _, by decide, by decide, fun u H5 k5 P5 a5 b5 => ?_⟩
        obtain ⟨v, gv, hv⟩ := pick (xs := [.non, .bl true, .bl false, .int 0, .int 1, .int (-1), .int 9, .int (10 ^ (39 : Int).toNat), .str "", .str "a", .ref t1, .ref l2]) (fun v => ∃ o, TgAt p H5 v o) a5 b5 (am1 ⟨_, .non⟩ (am1 ⟨_, .bl _⟩ (am1 ⟨_, .bl _⟩ (am1 ⟨_, .int _⟩ (am1 ⟨_, .int _⟩ (am1 ⟨_, .int _⟩ (am1 ⟨_, .int _⟩ (am1 ⟨_, .int _⟩ (am1 ⟨_, .str _⟩ (am1 ⟨_, .str _⟩ (am1 ⟨_, .tup (k5.tup (P3.new nl3 _) _ _ (s4 _ _ (s3 _ _ e2))) .nil⟩ (am1 ⟨_, .lst np2 (k5 _ _ np2 (s4 _ _ e3))⟩ am0))))))))))))
        exact ⟨l3, _, u, v, rfl, rfl, SqL.of (k5 _ _ np3 upd_same), gv, q v H5 (k1.trans (k2.trans (k3.trans ((Kp.new nl3 _).trans k5)))) P5 hv⟩
end
end Deed

namespace Deed
open PySem PySem.Spec PyProof.Rows L2 LamX
def FitsN : Nat → Tg → Prop
  | 0, _ => False
  | n + 1, .tup ts => ts.length ≤ 300 ∧ ∀ t ∈ ts, FitsN n t
  | _ + 1, .str x => x.length ≤ 300
  | _ + 1, .int i => i.natAbs.log2 < 1920
  | _ + 1, _ => True
theorem TgAt.num {p : Addr} {H : Hp} {v : V} {t : Tg} {n : Nat} (h : TgAt p H v t) (hf : FitsN (n + 1) t) (hi : t.isI = true) : ∃ i, numOf v = some i ∧ i.natAbs.log2 < 1920 := by
  cases h with
  | int i => exact ⟨i, rfl, hf⟩
  | bl b => exact ⟨_, rfl, by cases b <;> decide⟩
  | _ => cases hi
theorem cutV_le (xs : List V) (lo hi : Option Int) : (cutV xs lo hi).length ≤ xs.length := cutV_length xs lo hi
section
variable {P : Program} {w : World} {K : PySem.W.Frag} {mg : Str → Option Value} {base : Heap}
abbrev sLSpoilt : Stmt := topS 70
abbrev nLSpoilt : List Str := ["_law_pen_here", "_law_thing_here", "_law_at", "_law_way"]
abbrev pLSpoilt : List Str := ["_law_pen_here", "_law_thing_here"]
theorem scLSpoilt : FnScope nLSpoilt pLSpoilt (defScope sLSpoilt) := ⟨rfl, rfl, rfl, by decide +kernel, rfl, by decide +kernel, by decide +kernel⟩
def spLSpoilt (n : Nat) : Sp := fun vs H Q _ => ∃ (p : Addr) (v : V) (t : Tg), vs = [.ref p, v] ∧ PenAt H p ∧ TgAt p H v t ∧ FitsN n t ∧ ∀ v' H', Kp p H H' → PenAt H' p → (∃ t', TgAt p H' v' t') → Q v' H'
theorem ok_LSpoilt {f : Addr} {fd : FuncData} {k : Nat} (D : Df K mg "_law_spoilt" sLSpoilt pLSpoilt f fd) (cDr : ∀ n, CDrw P w K mg base (k + n)) (cTh : ∀ n, CallOk P w K mg base (k + n) "_law_thing" pLThing (spLThing 3)) (m_isinstance : mg "isinstance" = none) (m_tuple : mg "tuple" = none) (m_len : mg "len" = none) (m_list : mg "list" = none) (m_int : mg "int" = none) (m_str : mg "str" = none) : ∀ n : Nat, FnOk P w K mg base CX0 (k + n + 1) f fd pLSpoilt (spLSpoilt n)
  | 0 => by
    refine D.F.ok scLSpoilt (fun vs H Q E h => ?_) (fun cdv A outer s H vs Q E hr h => ?_)
    · obtain ⟨p, v, t, rfl, _⟩ := h
      rfl
    · obtain ⟨p, v, t, rfl, _, _, h0, _⟩ := h
      exact h0.elim
  | n + 1 => by
    have C__law_spoilt : CallOk P w K mg base (k + (n + 1)) "_law_spoilt" pLSpoilt (spLSpoilt n) := D.call (ok_LSpoilt D cDr cTh m_isinstance m_tuple m_len m_list m_int m_str n)
    have C__law_draw := cDr (n + 1)
    have C__law_thing := cTh (n + 1)
    refine D.F.ok scLSpoilt (fun vs H Q E h => ?_) (fun cdv A outer s H vs Q E hr h => ?_)
    · obtain ⟨p, v, t, rfl, _⟩ := h
      rfl
    · obtain ⟨p, v, t, rfl, hP, hT, hf, q⟩ := h
      have nd := scLSpoilt.nd
      refine ⟨_, C8.pss_cut (ps_if (PW.pt (pw_and (pt_val (pe_callB call_isi (by rfl) m_isinstance (by decide +kernel) (pa_cons (pv 1) (pa_cons (pe_bltn (v := .ty "tuple") (by rfl) m_tuple (by decide +kernel) rfl) pa_nil)))) (pw_and (pt_cmpR (op_neTE hr.units) (pv 1) (pe_tup pa_nil) (nomark _)) (pw_and1 (pt_cmpR op_gt (pe_call C__law_draw.ok hr (by rfl) C__law_draw.g C__law_draw.kp C__law_draw.b .nil pass0 (pa_cons (pv 0) (pa_cons pe_int pa_nil))) pe_int (nomark _)))))) (pss_cons (ps_set (i := 2) nd rfl (.inl rfl) (pe_call C__law_draw.ok hr (by rfl) C__law_draw.g C__law_draw.kp C__law_draw.b .nil pass0 (pa_cons (pv 0) (pa_cons (pe_callB call_len_seq (by rfl) m_len (by decide +kernel) (pa_cons (pv 1) pa_nil)) pa_nil))))
      (pss_one (ps_ret (pe_op op_catA (pe_op op_catA (pe_slice sl_tupA (pv 1) po_none (po_some (pv 2))) (pe_tup (pa_cons (pe_call C__law_spoilt.ok hr (by rfl) C__law_spoilt.g C__law_spoilt.kp C__law_spoilt.b .nil pass0 (pa_cons (pv 0) (pa_cons (pe_ix ix_tup (pv 1) (pv 2) (fun _ _ => rfl)) pa_nil))) pa_nil))) (pe_slice sl_tupA (pv 1) (po_some (pe_op op_add (pv 2) pe_int)) po_none))))) pss_nil)
      (pss_cons (ps_set (i := 3) nd rfl (.inl rfl) (pe_call C__law_draw.ok hr (by rfl) C__law_draw.g C__law_draw.kp C__law_draw.b .nil pass0 (pa_cons (pv 0) (pa_cons pe_int pa_nil))))
      (C8.pss_cut (ps_if (PW.pt (pw_and (pt_val (pe_callB call_isi (by rfl) m_isinstance (by decide +kernel) (pa_cons (pv 1) (pa_cons (pe_bltn (v := .ty "tuple") (by rfl) m_tuple (by decide +kernel) rfl) pa_nil)))) (pw_and1 (pt_cmpR op_lt (pv 3) pe_int (nomark _))))) (pss_one (ps_ret (pe_ix ix_list (pe_lst (pa_cons (pe_op op_catA (pv 1) (pe_slice sl_tupA (pv 1) (po_some (pe_un un_neg pe_int)) po_none)) (pa_cons (pe_slice sl_tupA (pv 1) po_none (po_some (pe_un un_neg pe_int))) (pa_cons (pe_callTy call_list_of (by rfl) m_list (by decide +kernel) (pa_cons (pv 1) pa_nil)) (pa_cons (pe_revT (pv 1)) pa_nil))))) (pv 3) (fun _ _ => rfl)))) pss_nil)
      (C8.pss_cut (ps_if (PW.pt (pw_and (pt_val (pe_callB call_isi (by rfl) m_isinstance (by decide +kernel) (pa_cons (pv 1) (pa_cons (pe_bltn (v := .ty "int") (by rfl) m_int (by decide +kernel) rfl) pa_nil)))) (pw_and1 (pt_cmpR op_lt (pv 3) pe_int (nomark _))))) (pss_one (ps_ret (pe_ix ix_list (pe_lst (pa_cons (pe_op op_addTI (pv 1) pe_int) (pa_cons (pe_op op_subTI (pv 1) pe_int) (pa_cons (pe_cmpR op_gtTI (pv 1) pe_int (nomark _)) (pa_cons (pe_callTy call_strTI (by rfl) m_str (by decide +kernel) (pa_cons (pv 1) pa_nil)) pa_nil))))) (pv 3) (fun _ _ => rfl)))) pss_nil)
      (C8.pss_cut (ps_if (PW.pt (pw_and (pt_val (pe_callB call_isi (by rfl) m_isinstance (by decide +kernel) (pa_cons (pv 1) (pa_cons (pe_bltn (v := .ty "str") (by rfl) m_str (by decide +kernel) rfl) pa_nil)))) (pw_and1 (pt_cmpR op_lt (pv 3) pe_int (nomark _))))) (pss_one (ps_ret (pe_ix ix_list (pe_lst (pa_cons (pe_op op_add_str (pv 1) pe_str) (pa_cons (pe_upper (pv 1)) (pa_cons (pe_slice sl_str (pv 1) po_none (po_some (pe_un un_neg pe_int))) (pa_cons (pe_op op_add_str pe_str (pv 1)) pa_nil))))) (pv 3) (fun _ _ => rfl)))) pss_nil)
      (pss_one (ps_ret (pe_call C__law_thing.ok hr (by rfl) C__law_thing.g C__law_thing.kp C__law_thing.b .nil pass0 (pa_cons (pv 0) (pa_cons pe_int pa_nil))))))))), ?_⟩
      refine ⟨fun σ' H' => ∃ y2, σ' = [some (.ref p), some v, y2, none] ∧ Kp p H H' ∧ PenAt H' p, ?_, ?_⟩
      · refine ⟨_, rfl, _, _, _, _, t.isT, rfl, .ty "tuple", hT.ty, kit_ty t.kT, _, rfl, ?_⟩
        refine ite2 (fun c => ?_) (fun c => ⟨_, rfl, Kp.refl _ _, hP⟩)
        obtain ⟨a, xs, ts, rfl, rfl, ea, hts⟩ := hT.tupOf c
        refine ⟨_, rfl, Nat.zero_le _, fun t1 nt1 => ?_⟩
        have s1 := same_new nt1 (.tup [])
        have e1 : (upd H t1 (.tup [])) t1 = some (.tup []) := upd_same
        have P1 := hP.new nt1 (.tup [])
        generalize (upd H t1 (.tup [])) = H1 at s1 e1 P1
        refine ⟨a, t1, xs, rfl, rfl, SqT.of (s1 _ _ ea), SqT.of e1, _, rfl, ?_⟩
        refine ite2 (fun c1 => ?_) (fun c1 => ⟨_, rfl, Kp.same s1, P1⟩)
        refine ⟨_, rfl, p, 6, rfl, P1, by decide, by decide, fun u H2 k2 P2 a2 b2 => ⟨_, _, rfl, rfl, _, rfl, ?_⟩⟩
        have k02 : Kp p H H2 := (Kp.same s1).trans k2
        refine ite2 (fun c2 => ?_) (fun c2 => ⟨_, rfl, k02, P2⟩)
        have hne : xs ≠ [] := fun z => by
          subst z
          cases c1
        have hl0 : 0 < xs.length := List.length_pos_iff.mpr hne
        have hl9 : xs.length ≤ 300 := by rw [hts.length]; exact hf.1
        have ea2 := k02.tup hP _ _ ea
        have hts2 := TgAll.kp k02 hP _ _ hts
        refine ⟨_, rfl, _, rfl, a, _, rfl, .inr (SqT.of ea2), p, _, rfl, P2, by omega, by omega, fun at_ H3 k3 P3 a3 b3 => ?_⟩
        have ea3 := k3.tup P2 _ _ ea2
        have hts3 := TgAll.kp k3 P2 _ _ hts2
        refine ⟨_, rfl, _, rfl, _, rfl, slA_same ea3 fun t4 H4 s4 e4 => ?_⟩
        have P4 : PenAt H4 p := by
          obtain ⟨x1, x2, x3, x4, z1, z2⟩ := P3
          exact ⟨x1, x2, x3, x4, s4 _ _ z1, z2⟩
        have hix : at_.toNat < xs.length := by omega
        have hv : xs[at_.toNat]? = some xs[at_.toNat] := List.getElem?_eq_getElem hix
        obtain ⟨tv, htv, hatv⟩ := (TgAll.same s4 _ _ hts3).get hv
        refine ⟨_, rfl, _, rfl, _, rfl, a, _, at_, xs[at_.toNat], rfl, rfl, SqT.of (s4 _ _ ea3), at_of (j := at_.toNat) (by omega) hv, p, _, tv, rfl, P4, hatv, hf.2 tv (List.mem_of_getElem? htv), fun v5 H5 k5 P5 ⟨t5, h5⟩ => ?_⟩
        refine ⟨(by show 1 ≤ sizeLine; decide), fun t6 nt6 => ?_⟩
        have s6 := same_new nt6 (.tup [v5])
        have e6 : (upd H5 t6 (.tup [v5])) t6 = some (.tup [v5]) := upd_same
        have P6 := P5.new nt6 (.tup [v5])
        generalize (upd H5 t6 (.tup [v5])) = H6 at s6 e6 P6
        have k46 : Kp p H4 H6 := k5.trans (Kp.same s6)
        have hc4 := cutV_le xs none (some at_)
        refine catA_same (k46.tup P4 _ _ e4) e6 (by show _ + 1 ≤ 1000; omega) fun t7 H7 s7 e7 => ?_
        have k37 : Kp p H3 H7 := (Kp.same s4).trans (k46.trans (Kp.same s7))
        refine ⟨_, rfl, _, rfl, _, _, rfl, rfl, _, rfl, ?_⟩
        dsimp only [tNoPart]
        refine slA_same (k37.tup P3 _ _ ea3) fun t8 H8 s8 e8 => ?_
        have hc8 := cutV_le xs (some (at_ + 1)) none
        refine catA_same (s8 _ _ e7) e8 (by rw [List.length_append]; show _ + 1 + _ ≤ 1000; omega) fun t9 H9 s9 e9 => ?_
        have s69 := s7.trans (s8.trans s9)
        have k39 : Kp p H3 H9 := k37.trans (Kp.same (s8.trans s9))
        have P9 : PenAt H9 p := by
          obtain ⟨x1, x2, x3, x4, z1, z2⟩ := P6
          exact ⟨x1, x2, x3, x4, s69 _ _ z1, z2⟩
        have hts9 := TgAll.kp k39 P3 _ _ hts3
        obtain ⟨u1, hu1⟩ := hts9.cut none (some at_)
        obtain ⟨u2, hu2⟩ := hts9.cut (some (at_ + 1)) none
        exact q _ H9 (k02.trans (k3.trans k39)) P9 ⟨_, .tup e9 ((hu1.append (.cons (TgAt.same (s6.trans s69) _ _ h5) .nil)).append hu2)⟩
      rintro _ H1 ⟨y2, rfl, k1, P1⟩
      have hT1 := TgAt.kp k1 hP _ _ hT
      refine ⟨_, rfl, p, 8, rfl, P1, by decide, by decide, fun way H2 k2 P2 a2 b2 => ?_⟩
      have hT2 := TgAt.kp k2 P1 _ _ hT1
      have k02 := k1.trans k2
      refine ⟨fun σ' H' => σ' = [some (.ref p), some v, y2, some (.int way)] ∧ H' = H2, ?_, ?_⟩
      · refine ⟨_, rfl, _, _, _, _, t.isT, rfl, .ty "tuple", hT2.ty, kit_ty t.kT, _, rfl, ?_⟩
        refine ite2 (fun c => ?_) (fun c => ⟨rfl, rfl⟩)
        refine ⟨_, rfl, _, _, rfl, rfl, _, rfl, ?_⟩
        refine ite2 (fun c1 => ?_) (fun c1 => ⟨rfl, rfl⟩)
        have hw4 : way < 4 := of_decide_eq_true c1
        obtain ⟨a, xs, ts, rfl, rfl, ea, hts⟩ := hT2.tupOf c
        have hl9 : xs.length ≤ 300 := by rw [hts.length]; exact hf.1
        refine ⟨_, rfl, _, rfl, _, rfl, _, rfl, ?_⟩
        dsimp only [tNoPart]
        refine slA_same ea fun t3 H3 s3 e3 => ?_
        have hc3 := cutV_le xs (some (-1)) none
        refine catA_same (s3 _ _ ea) e3 (by omega) fun t4 H4 s4 e4 => ?_
        have s24 := s3.trans s4
        refine ⟨_, rfl, _, rfl, _, rfl, slA_same (s24 _ _ ea) fun t5 H5 s5 e5 => ?_⟩
        have s25 := s24.trans s5
        refine ⟨_, rfl, a, _, rfl, .inr (SqT.of (s25 _ _ ea)), fun l6 nl6 => ?_⟩
        have s6 := same_new nl6 (.lst xs)
        have e6 : (upd H5 l6 (.lst xs)) l6 = some (.lst xs) := upd_same
        have nlp : l6 ≠ p := fun z => by
          obtain ⟨x1, x2, x3, x4, z1, z2⟩ := P2
          rw [z, s25 _ _ z1] at nl6
          cases nl6
        generalize (upd H5 l6 (.lst xs)) = H6 at s6 e6
        have s26 := s25.trans s6
        refine ⟨_, rfl, a, _, rfl, SqT.of (s26 _ _ ea), fun t7 nt7 => ?_⟩
        have s7 := same_new nt7 (.tup xs.reverse)
        have e7 : (upd H6 t7 (.tup xs.reverse)) t7 = some (.tup xs.reverse) := upd_same
        generalize (upd H6 t7 (.tup xs.reverse)) = H7 at s7 e7
        have s27 := s26.trans s7
        refine ⟨(by show 4 ≤ sizeLine; decide), fun l8 nl8 => ?_⟩
        have s8 := same_new nl8 (.lst [.ref t4, .ref t5, .ref l6, .ref t7])
        have e8 : (upd H7 l8 (.lst [.ref t4, .ref t5, .ref l6, .ref t7])) l8 = some (.lst [.ref t4, .ref t5, .ref l6, .ref t7]) := upd_same
        generalize (upd H7 l8 (.lst [.ref t4, .ref t5, .ref l6, .ref t7])) = H8 at s8 e8
        have s28 := s27.trans s8
        have hts8 := TgAll.same s28 _ _ hts
        obtain ⟨u1, hu1⟩ := hts8.cut (some (-1)) none
        obtain ⟨u2, hu2⟩ := hts8.cut none (some (-1))
        obtain ⟨vv, gv, hv⟩ := pick (i := way) (xs := [.ref t4, .ref t5, .ref l6, .ref t7]) (fun v => ∃ o, TgAt p H8 v o) a2 (by show way < 4; exact hw4) (am1 ⟨_, .tup ((s5.trans (s6.trans (s7.trans s8))) _ _ e4) (hts8.append hu1)⟩ (am1 ⟨_, .tup ((s6.trans (s7.trans s8)) _ _ e5) hu2⟩ (am1 ⟨_, .lst nlp ((s7.trans s8) _ _ e6)⟩ (am1 ⟨_, .tup (s8 _ _ e7) hts8.reverse⟩ am0))))
        have P8 : PenAt H8 p := by
          obtain ⟨x1, x2, x3, x4, z1, z2⟩ := P2
          exact ⟨x1, x2, x3, x4, s28 _ _ z1, z2⟩
        exact ⟨_, rfl, l8, _, way, vv, rfl, rfl, SqL.of e8, gv, q vv H8 (k02.trans (Kp.same s28)) P8 hv⟩
      rintro _ H2' ⟨rfl, eH⟩
      rw [eH]
      clear eH H2'
      refine ⟨fun σ' H' => σ' = [some (.ref p), some v, y2, some (.int way)] ∧ H' = H2, ?_, ?_⟩
      · refine ⟨_, rfl, _, _, _, _, t.isI, rfl, .ty "int", hT2.ty, kit_ty t.kI, _, rfl, ?_⟩
        refine ite2 (fun c => ?_) (fun c => ⟨rfl, rfl⟩)
        refine ⟨_, rfl, _, _, rfl, rfl, _, rfl, ?_⟩
        refine ite2 (fun c1 => ?_) (fun c1 => ⟨rfl, rfl⟩)
        have hw4 : way < 4 := of_decide_eq_true c1
        obtain ⟨i, hi, hlg⟩ := hT2.num hf c
        refine ⟨_, rfl, i, 1, hi, rfl, _, rfl, i, 1, hi, rfl, _, rfl, i, 0, hi, rfl, _, rfl, v, i, rfl, hi, hlg, (by show 4 ≤ sizeLine; decide), fun l8 nl8 => ?_⟩
        obtain ⟨vv, gv, hv⟩ := pick (i := way) (xs := [.int (i + 1), .int (i - 1), .bl (decide (i > 0)), .str (strTI v i)]) (fun x => ∃ o, TgAt p (upd H2 l8 (.lst [.int (i + 1), .int (i - 1), .bl (decide (i > 0)), .str (strTI v i)])) x o) a2 (by show way < 4; exact hw4) (am1 ⟨_, .int _⟩ (am1 ⟨_, .int _⟩ (am1 ⟨_, .bl _⟩ (am1 ⟨_, .str _⟩ am0))))
        exact ⟨_, rfl, l8, _, way, vv, rfl, rfl, SqL.of upd_same, gv, q vv _ (k02.trans (Kp.new nl8 _)) (P2.new nl8 _) hv⟩
      rintro _ H2' ⟨rfl, eH⟩
      rw [eH]
      clear eH H2'
      refine ⟨fun σ' H' => σ' = [some (.ref p), some v, y2, some (.int way)] ∧ H' = H2, ?_, ?_⟩
      · refine ⟨_, rfl, _, _, _, _, t.isS, rfl, .ty "str", hT2.ty, kit_ty t.kS, _, rfl, ?_⟩
        refine ite2 (fun c => ?_) (fun c => ⟨rfl, rfl⟩)
        refine ⟨_, rfl, _, _, rfl, rfl, _, rfl, ?_⟩
        refine ite2 (fun c1 => ?_) (fun c1 => ⟨rfl, rfl⟩)
        have hw4 : way < 4 := of_decide_eq_true c1
        obtain ⟨z, rfl, rfl⟩ : ∃ z, v = .str z ∧ t = .str z := by
          cases hT2 with
          | str x => exact ⟨_, rfl, rfl⟩
          | _ => cases c
        have hz : z.length ≤ 300 := hf
        have hz1 : z.length + 1 ≤ sizeLine := Nat.le_of_lt (small1000 (by omega))
        refine ⟨_, rfl, z, "a", rfl, rfl, hz1, _, rfl, ⟨_, rfl⟩, z, rfl, rfl, by omega, _, rfl, _, rfl, _, rfl, z, rfl, by omega, _, rfl, "1", z, rfl, rfl, (by show 1 + z.length ≤ sizeLine; omega), (by show 4 ≤ sizeLine; decide), fun l8 nl8 => ?_⟩
        obtain ⟨vv, gv, hv⟩ := pick (i := way) (xs := [.str (z ++ "a"), .str (Txt.upper z), .str (cutS z none (some (-1))), .str ("1" ++ z)]) (fun v => ∃ o, TgAt p (upd H2 l8 (.lst [.str (z ++ "a"), .str (Txt.upper z), .str (cutS z none (some (-1))), .str ("1" ++ z)])) v o) a2 (by show way < 4; exact hw4) (am1 ⟨_, .str _⟩ (am1 ⟨_, .str _⟩ (am1 ⟨_, .str _⟩ (am1 ⟨_, .str _⟩ am0))))
        exact ⟨_, rfl, l8, _, way, vv, rfl, rfl, SqL.of upd_same, gv, q vv _ (k02.trans (Kp.new nl8 _)) (P2.new nl8 _) hv⟩
      rintro _ H2' ⟨rfl, eH⟩
      rw [eH]
      clear eH H2'
      exact ⟨_, rfl, p, 2, rfl, P2, by decide, by decide, fun v' H' k' P' hv => q v' H' (k02.trans k') P' hv⟩
end
end Deed

namespace Deed
open PySem PySem.Spec PyProof.Rows L2 LamX
/-! ### a lambda of two parameters, handed on as a value -/
def Fz (o : Obj) : HO := .frz o (.ext fun _ => True)
theorem fz_ok {P : Program} {w : World} {H : Hp} {h : Heap} {a : Addr} {o : Obj} (e : h.get? a = some o) : ObjOk P w H h a (Fz o) := ⟨e, trivial, ⟨o, e⟩, fun _ _ _ _ => trivial⟩
theorem fz_own {o : Obj} {x : Addr} : HO.own x ≠ Fz o := fun z => by
  have z' : HO.own x = HO.frz o (.ext fun _ => True) := z
  cases z'
theorem fz_tup {o : Obj} {xs : List V} : HO.tup xs ≠ Fz o := fun z => by
  have z' : HO.tup xs = HO.frz o (.ext fun _ => True) := z
  cases z'
theorem fz_tbl {o : Obj} {ps : Array Value} : HO.tbl ps ≠ Fz o := fun z => by
  have z' : HO.tbl ps = HO.frz o (.ext fun _ => True) := z
  cases z'
/-- the objects at L known as they stand; forgotten; known again -/
def trk (L : List Addr) (h : Heap) (H : Hp) : Hp := fun b => if b ∈ L then (h.get? b).map Fz else H b
def frg (L : List Addr) (H : Hp) : Hp := fun b => if b ∈ L then none else H b
def bck (L : List Addr) (H Hb : Hp) : Hp := fun b => (Hb b).or (if b ∈ L then H b else none)
theorem trk_off {L : List Addr} {h : Heap} {H : Hp} {b : Addr} (m : b ∉ L) : trk L h H b = H b := if_neg m
theorem trk_on {L : List Addr} {h : Heap} {H : Hp} {b : Addr} {o : Obj} (m : b ∈ L) (q : h.get? b = some o) : trk L h H b = some (Fz o) := by
  unfold trk
  rw [if_pos m, q]
  rfl
theorem frg_off {L : List Addr} {H : Hp} {b : Addr} (m : b ∉ L) : frg L H b = H b := if_neg m
theorem frg_on {L : List Addr} {H : Hp} {b : Addr} (m : b ∈ L) : frg L H b = none := if_pos m
theorem bck_of {L : List Addr} {H Hb : Hp} {b : Addr} {o : HO} (e : Hb b = some o) : bck L H Hb b = some o := by
  unfold bck
  rw [e]
  rfl
theorem bck_none {L : List Addr} {H Hb : Hp} {b : Addr} (e : Hb b = none) (m : b ∈ L) : bck L H Hb b = H b := by
  unfold bck
  rw [e, if_pos m]
  rfl
theorem bck_off {L : List Addr} {H Hb : Hp} {b : Addr} (m : b ∉ L) : bck L H Hb b = Hb b := by
  unfold bck
  rw [if_neg m]
  cases Hb b <;> rfl
structure Trk (L : List Addr) (base : Heap) (outer : List Env) (h : Heap) (H : Hp) : Prop where
  nw : ∀ b ∈ L, H b = none
  ob : ∀ b ∈ L, ∃ o, h.get? b = some o
  bs : ∀ b ∈ L, base.get? b = none
  fr : ∀ b ∈ L, b ∉ frs outer
section
variable {P : Program} {w : World} {K : PySem.W.Frag} {mg : Str → Option Value} {base : Heap} {A : Around} {outer : List Env} {s : Shared} {H H4 Hb : Hp} {L : List Addr} {h h' : Heap}
theorem Trk.out (t : Trk L base outer h H) {b : Addr} {o : HO} (q : H b = some o) : b ∉ L := fun m => by
  rw [t.nw _ m] at q
  cases q
theorem trk_env0 (e : Env0 P w K mg base A outer s H) (t : Trk L base outer s.heap H) : Env0 P w K mg base A outer s (trk L s.heap H) := by
  refine ⟨e.frames, e.mod, fun b o q => ⟨(e.bs b o q).1, ?_⟩, e.bsz, e.funs, fun b hb => ?_, fun a o q => ?_, e.bare⟩
  · rw [trk_off (fun m => by rw [t.bs _ m] at q; cases q)]
    exact (e.bs b o q).2
  · rw [trk_off (fun m => t.fr _ m hb)]
    exact e.frf b hb
  · by_cases m : a ∈ L
    · obtain ⟨ob, hg⟩ := t.ob a m
      rw [trk_on m hg] at q
      cases q
      exact fz_ok hg
    · rw [trk_off m] at q
      exact (e.hok a o q).stay (fun _ _ _ z => z) (fun b z => (trk_off (t.out z)).trans z) (fun b xs z => (trk_off (t.out z)).trans z)
theorem frg_end (t : Trk L base outer h H) (u : Un (frs outer) [] (trk L h H) H4 h h') (k : HOk P w H4 h') : Un (frs outer) [] H (frg L H4) h h' ∧ HOk P w (frg L H4) h' := by
  have kept : ∀ b ∈ L, ∀ o, h.get? b = some o → h'.get? b = some o ∧ H4 b = some (Fz o) := fun b m o q => by
    have e2 : H4 b = some (Fz o) := u.frzs b o _ (trk_on m q)
    exact ⟨(k b _ e2).1, e2⟩
  refine ⟨⟨fun b o q n hf hx => ?_, fun b o q n hf hx => ?_, fun b o q n hx => ?_, fun b o q hx => u.there b o q hx, fun b xs q => ?_, fun b o x q => ?_, fun b ps q => ?_⟩, fun a o q => ?_⟩
  · by_cases m : b ∈ L
    · exact (kept b m o q).1
    · exact u.keep b o q ((trk_off m).trans n) hf hx
  · by_cases m : b ∈ L
    · exact ⟨o.slots, (kept b m o q).1⟩
    · exact u.slot b o q ((trk_off m).trans n) hf hx
  · by_cases m : b ∈ L
    · exact frg_on m
    · exact (frg_off m).trans (u.free b o q ((trk_off m).trans n) hx)
  · exact (frg_off (t.out q)).trans (u.tups b xs ((trk_off (t.out q)).trans q))
  · exact (frg_off (t.out q)).trans (u.frzs b o x ((trk_off (t.out q)).trans q))
  · obtain ⟨more, z⟩ := u.tbls b ps ((trk_off (t.out q)).trans q)
    exact ⟨more, (frg_off (t.out q)).trans z⟩
  · have m : a ∉ L := fun m => by
      rw [frg_on m] at q
      cases q
    rw [frg_off m] at q
    have nt : ∀ {b : Addr} {o' : HO}, H4 b = some o' → (∀ ob, o' ≠ Fz ob) → b ∉ L := fun {b o'} z ne m => by
      obtain ⟨ob, hob⟩ := t.ob b m
      rw [(kept b m ob hob).2] at z
      exact ne ob (Option.some.inj z).symm
    exact (k a o q).stay (fun _ _ _ z => z) (fun b z => (frg_off (nt z fun ob => fz_own)).trans z) (fun b xs z => (frg_off (nt z fun ob => fz_tup)).trans z)
theorem fz_out (hz : ∀ b ∈ L, ∃ o, H b = some (Fz o)) {b : Addr} {o' : HO} (z : H b = some o') (ne : ∀ ob, o' ≠ Fz ob) : b ∉ L := fun m => by
  obtain ⟨ob, hob⟩ := hz b m
  rw [hob] at z
  exact ne ob (Option.some.inj z).symm
theorem frg_env0 (e : Env0 P w K mg base A outer s H) (hz : ∀ b ∈ L, ∃ o, H b = some (Fz o)) : Env0 P w K mg base A outer s (frg L H) := by
  refine ⟨e.frames, e.mod, fun b o q => ⟨(e.bs b o q).1, ?_⟩, e.bsz, e.funs, fun b hb => ?_, fun a o q => ?_, e.bare⟩
  · by_cases m : b ∈ L
    · exact frg_on m
    · exact (frg_off m).trans (e.bs b o q).2
  · by_cases m : b ∈ L
    · exact frg_on m
    · exact (frg_off m).trans (e.frf b hb)
  · have m : a ∉ L := fun m => by
      rw [frg_on m] at q
      cases q
    rw [frg_off m] at q
    exact (e.hok a o q).stay (fun _ _ _ z => z) (fun b z => (frg_off (fz_out hz z fun ob => fz_own)).trans z) (fun b xs z => (frg_off (fz_out hz z fun ob => fz_tup)).trans z)
theorem bck_end (e : Env0 P w K mg base A outer s H) (hz : ∀ b ∈ L, ∃ o, H b = some (Fz o)) (u : Un (frs outer) [] (frg L H) Hb s.heap h') (k : HOk P w Hb h') : Un (frs outer) [] H (bck L H Hb) s.heap h' ∧ HOk P w (bck L H Hb) h' := by
  have obj : ∀ b ∈ L, ∀ o, H b = some (Fz o) → s.heap.get? b = some o := fun b m o q => (e.hok b _ q).1
  have gone : ∀ b ∈ L, Hb b = none := fun b m => by
    obtain ⟨o, q⟩ := hz b m
    exact u.free b o (obj b m o q) (frg_on m) (by simp)
  have kept : ∀ b ∈ L, ∀ o, H b = some (Fz o) → h'.get? b = some o := fun b m o q => u.keep b o (obj b m o q) (frg_on m) (fun hb => by
    rw [e.frf b hb] at q
    cases q) (by simp)
  have nL : ∀ {b : Addr}, H b = none → b ∉ L := fun {b} n m => by
    obtain ⟨o, q⟩ := hz b m
    rw [n] at q
    cases q
  refine ⟨⟨fun b o q n hf hx => ?_, fun b o q n hf hx => ?_, fun b o q n hx => ?_, fun b o q hx => u.there b o q hx, fun b xs q => ?_, fun b o x q => ?_, fun b ps q => ?_⟩, fun a o q => ?_⟩
  · exact u.keep b o q ((frg_off (nL n)).trans n) hf hx
  · exact u.slot b o q ((frg_off (nL n)).trans n) hf hx
  · exact (bck_off (nL n)).trans (u.free b o q ((frg_off (nL n)).trans n) hx)
  · have m := fz_out hz q fun ob => fz_tup
    exact (bck_off m).trans (u.tups b xs ((frg_off m).trans q))
  · by_cases m : b ∈ L
    · exact (bck_none (gone b m) m).trans q
    · exact (bck_off m).trans (u.frzs b o x ((frg_off m).trans q))
  · have m := fz_out hz q fun ob => fz_tbl
    obtain ⟨more, z⟩ := u.tbls b ps ((frg_off m).trans q)
    exact ⟨more, (bck_off m).trans z⟩
  · by_cases m : a ∈ L
    · rw [bck_none (gone a m) m] at q
      obtain ⟨ob, hob⟩ := hz a m
      rw [hob] at q
      cases q
      exact fz_ok (kept a m ob hob)
    · rw [bck_off m] at q
      exact (k a o q).stay (fun _ _ _ z => z) (fun b z => bck_of z) (fun b xs z => bck_of z)
end
/-- a function known at f that, asked with two things of which R tells r, answers r -/
structure LamOk (P : Program) (w : World) (K : PySem.W.Frag) (mg : Str → Option Value) (base : Heap) (T : List (Addr × Str)) (k : Nat) (f : Addr) (R : V → V → Hp → Bool → Prop) (H : Hp) : Prop where
  obj : ∃ oc od fd sl, H f = some (Fz ⟨oc, od, .func fd, sl⟩)
  run : ∀ (A : Around) (outer : List Env) (s : Shared) (H' : Hp) (u1 u2 : Value) (a b : V) (r : Bool) (Q : VK), Room (k + 1) A → Env0 P w K mg base A outer s H' → ExtN H H' → Tabs T H' → RelV a u1 → RelV b u2 → R a b H' r → (∀ H4, ExtN H' H4 → Tabs T H4 → Q (.bl r) H4) →
    codeAny (model P w) A (.call (.ref f) ⟨[u1, u2], []⟩) (CR L2.CX0 outer P w H' s Q L2.E0) s
theorem fz_ext {H H1 : Hp} {f : Addr} {o : Obj} (e : ExtN H H1) (h : H f = some (Fz o)) : H1 f = some (Fz o) := e _ _ h fun ps z => fz_tbl z.symm
theorem LamOk.mono {P : Program} {w : World} {K : PySem.W.Frag} {mg : Str → Option Value} {base : Heap} {T : List (Addr × Str)} {k : Nat} {f : Addr} {R : V → V → Hp → Bool → Prop} {H H1 : Hp} (l : LamOk P w K mg base T k f R H) (e : ExtN H H1) : LamOk P w K mg base T k f R H1 :=
  ⟨let ⟨oc, od, fd, sl, z⟩ := l.obj; ⟨oc, od, fd, sl, fz_ext e z⟩, fun A outer s H' u1 u2 a b r Q hr e0 ex => l.run A outer s H' u1 u2 a b r Q hr e0 (e.trans ex)⟩
section
variable {X : Cx} {T : List (Addr × Str)} {k : Nat}
def tLamv (P : Program) (w : World) (K : PySem.W.Frag) (mg : Str → Option Value) (base : Heap) (T : List (Addr × Str)) (k i : Nat) (ta : TA) : TE := fun σ H Q => ∃ (f : Addr) (R : V → V → Hp → Bool → Prop), σ[i]? = some (some (.ref f)) ∧ LamOk P w K mg base T k f R H ∧
  ta σ H fun vs H1 => ∃ a b r, vs = [a, b] ∧ ExtN H H1 ∧ Tabs T H1 ∧ R a b H1 r ∧ ∀ H4, ExtN H1 H4 → Tabs T H4 → Q (.bl r) H4
/-- x(a, b), the lambda in a slot -/
theorem pe_lamv {P : Program} {w : World} {K : PySem.W.Frag} {mg : Str → Option Value} {base : Heap} {i : Nat} {x : Str} {e1 e2 : Expr} {ta : TA} {p pos : Pos} (hX : X.prog = P ∧ X.w = w ∧ X.K = K ∧ X.mg = mg ∧ X.base = base) (hr : Room (k + 1) X.A) (hN : X.N[i]? = some x) (hv : Vis X.env.scope x) (ha : PA X [e1, e2] ta)
    (hdb : (x == ("__debug__" : Str)) = false := by decide) (hcd : (x == ("__classdict__" : Str)) = false := by decide)
    (he : starEach [e1, e2] X.env = (false, eval e1 X.env) :: starEach [e2] X.env := by rfl) (hpl : (backTo pos (starEach [e2] X.env)).any (·.1) = false := by rfl) :
    PE X (.Call (.Name x p) [e1, e2] [] pos) (tLamv P w K mg base T k i ta) := by
  obtain ⟨rfl, rfl, rfl, rfl, rfl⟩ := hX
  refine ⟨fun pins s σ H Q I h => ?_⟩
  obtain ⟨f, R, hs, L, ht⟩ := h
  refine wpAny_Call_Name_kw (thn ((pe_var (pos := p) hN hv hdb hcd).run pins s σ H (fun v H1 => v = .ref f ∧ H1 = H) I ⟨.ref f, hs, rfl, rfl⟩) fun u s1 ⟨v, H1, I1, r1, q1⟩ => ?_)
  obtain ⟨rfl, rfl⟩ := q1
  cases r1
  have at_ : ∀ {s : Shared} {H : Hp}, HOk X.prog X.w H s.heap → (∃ oc od fd sl, H f = some (Fz ⟨oc, od, .func fd, sl⟩)) → PySem.W.FnAt f s.heap := fun {s H} hk ⟨oc, od, fd, sl, z⟩ => ⟨oc, od, fd, sl, (hk f _ z).1⟩
  refine PySem.W.callWith_F (at_ I1.hok L.obj) (thn (ha.run pos pins s1 σ _ _ I1 ht) fun us s2 ⟨vs, H2, I2, r, a, b, t, ev, ex, T2, hR, q⟩ => ?_) he hpl
  subst ev
  have L2' := L.mono ex
  refine ⟨at_ I2.hok L2'.obj, ?_⟩
  cases r with
  | cons ra r =>
    cases r with
    | cons rb r =>
      cases r
      refine wpAny_call (codeAny_mono (L2'.run X.A X.stack s2 H2 _ _ a b t Q hr I2.env0 (ExtN.refl _) T2 ra rb hR q) fun r s' hq => ?_)
      cases r with
      | error e => exact (show False from hq).elim
      | ok fl =>
        cases fl with
        | ret u => exact I2.after hq
        | next => exact False.elim hq
        | brk => exact False.elim hq
        | cont => exact False.elim hq
end
end Deed

namespace Deed
open PySem PySem.Spec PyProof.Rows L2 LamX
/-! ### the lambda made; a def called with it; what it answers -/
/-- the names of a lambda: its parameters, captured ones, globals -/
structure LamP (sc scope : Scope) (ps : List Str) : Prop where
  kind : scope.kind = .function
  co : scope.isCoroutine = false
  gen : scope.isGenerator = false
  nocell : ∀ y ∈ scope.names, y.2 ≠ .cell
  loc : ∀ y ∈ ps, scope.names.lookup y = some .local
  free : ∀ y ∈ scope.names, y.2 = .free → sc.names.lookup y.1 = some .cell
def lamPB (sc scope : Scope) (ps : List Str) : Bool :=
  decide (scope.kind = .function) && (!scope.isCoroutine && (!scope.isGenerator && ((scope.names.all fun y => !decide (y.2 = .cell)) && ((ps.all fun y => decide (scope.names.lookup y = some .local)) && scope.names.all fun y => !decide (y.2 = .free) || decide (sc.names.lookup y.1 = some .cell)))))
theorem lamP_by {sc scope : Scope} {ps : List Str} (h : lamPB sc scope ps = true) : LamP sc scope ps := by
  unfold lamPB at h
  simp only [Bool.and_eq_true, Bool.or_eq_true, Bool.not_eq_true', decide_eq_true_eq, decide_eq_false_iff_not, List.all_eq_true] at h
  obtain ⟨h1, h2, h3, h4, h5, h6⟩ := h
  exact ⟨h1, h2, h3, h4, h5, fun y hy e => (h6 y hy).elim (fun z => absurd e z) id⟩
abbrev clo (X : Cx) (scope : Scope) : List (Str × Addr) := cloFrom X.env.cells scope.names []
/-- the captured names' cells, known as they stand -/
structure CellsAt (X : Cx) (scope : Scope) (σ : L2.St) (H : Hp) : Prop where
  inj : ∀ x y c, (clo X scope).lookup x = some c → (clo X scope).lookup y = some c → x = y
  has : ∀ y ∈ scope.names, y.2 = .free → ∃ c, (clo X scope).lookup y.1 = some c
  all : ∀ y c, (clo X scope).lookup y = some c → ∃ o u, H c = some (Fz o) ∧ o.data = .cell u
  val : ∀ (i : Nat) y v, X.N[i]? = some y → σ[i]? = some (some v) → scope.names.lookup y = some .free → ∃ c o u, (clo X scope).lookup y = some c ∧ H c = some (Fz o) ∧ o.data = .cell (some u) ∧ RelV v u
theorem CellsAt.ext {X : Cx} {scope : Scope} {σ : L2.St} {H H1 : Hp} (C : CellsAt X scope σ H) (e : ExtN H H1) : CellsAt X scope σ H1 :=
  ⟨C.inj, C.has, fun y c h => let ⟨o, u, a, b⟩ := C.all y c h; ⟨o, u, fz_ext e a, b⟩, fun i y v h1 h2 h3 => let ⟨c, o, u, a, b, d⟩ := C.val i y v h1 h2 h3; ⟨c, o, u, a, fz_ext e b, d⟩⟩
section
variable {X : Cx} {T : List (Addr × Str)}
theorem clo_in {scope : Scope} (hfree : ∀ y ∈ scope.names, y.2 = .free → ∃ c, X.env.cells.lookup y.1 = some c) {y : Str} {c : Addr} (e : (clo X scope).lookup y = some c) : X.env.cells.lookup y = some c ∧ (y, NameKind.free) ∈ scope.names := by
  rcases cloFrom_mem (PySem.mem_of_lookup e) with hm | ⟨h1, h2⟩
  · cases hm
  · obtain ⟨c1, hc⟩ := hfree _ h1 rfl
    have hc : X.env.cells.lookup y = some c1 := hc
    have e2 : c = c1 := by rw [h2, hc] <;> rfl
    exact ⟨by rw [e2]; exact hc, h1⟩
/-- the lambda made: known at its address -/
def tLamF (X : Cx) (T : List (Addr × Str)) (params : Arguments) (body : Expr) (scope : Scope) : TE := fun σ H Q => Tabs T H ∧ ∀ (f c' : Addr) (pm ctv : Value) (H1 : Hp), ExtN H H1 → Tabs T H1 → H1 f = some (Fz (PySem.W.kla_obj "<lambda>" (X.env.qual ++ "<lambda>") params body scope (clo X scope) pm c' ctv)) → H1 c' = some (CodeO c' (X.env.qual ++ "<lambda>")) → Q (.ref f) H1
theorem pe_lamF {c P : Addr} {params : Arguments} {body : Expr} {scope : Scope} {pos : Pos} {ps : List Str} (TB : TabB X.base X.mg c P) (hcode : X.env.code = .ref c) (hm : (P, X.env.qual ++ "<lambda>") ∈ T) (hu : ∀ p ∈ T, p.1 = P → p.2 = X.env.qual ++ "<lambda>") (L : LamP X.env.scope scope ps) (hdef : defaultsOf params X.env = ([], [])) :
    PE X (.Lambda params body scope pos) (tLamF X T params body scope) := by
  refine ⟨fun pins s σ H Q I h => ?_⟩
  obtain ⟨hT, q⟩ := h
  have hfree : ∀ y ∈ scope.names, y.2 = .free → ∃ c, X.env.cells.lookup y.1 = some c := fun y hy e => I.ok.has _ (.inl (L.free y hy e))
  obtain ⟨tb, hP, ht, ha⟩ := hT _ hm
  have bP : s.heap.BuiltinsAt X.mg P := TB.bm.keeps I.bk
  have hP' : s.heap.get? P = some { cls := .none, data := .fields tb } := I.hok P _ hP
  -- what is laid last
  have fin : ∀ {c' : Addr} {pm ctv : Value} {H1 : Hp} {h' : Heap} {tk : Nat}, Inv X pins σ H1 { s with heap := h', toks := tk } → ExtN H H1 → Tabs T H1 → H1 c' = some (CodeO c' (X.env.qual ++ "<lambda>")) →
      EP X pins σ Q (.ref h'.objs.size) { s with heap := h'.push (PySem.W.kla_obj "<lambda>" (X.env.qual ++ "<lambda>") params body scope (clo X scope) pm c' ctv), toks := tk } := by
    intro c' pm ctv H1 h' tk I1 e1 T1 hc
    have hn : H1 h'.objs.size = none := I1.hok.fresh (Nat.le_refl _)
    have I2 := I1.laid (t' := tk) (a := h'.objs.size) (o := Fz (PySem.W.kla_obj "<lambda>" (X.env.qual ++ "<lambda>") params body scope (clo X scope) pm c' ctv)) (h' := h'.push (PySem.W.kla_obj "<lambda>" (X.env.qual ++ "<lambda>") params body scope (clo X scope) pm c' ctv))
      (fun b o e => Heap.get?_push_of_some _ e) (Nat.le_refl _) (fz_ok (Heap.get?_push_size _ rfl))
    have s1 : Same H1 (upd H1 h'.objs.size (Fz (PySem.W.kla_obj "<lambda>" (X.env.qual ++ "<lambda>") params body scope (clo X scope) pm c' ctv))) := same_new hn _
    exact ⟨.ref h'.objs.size, _, I2, rfl, q _ c' pm ctv _ (e1.trans (.of s1)) (T1.ext s1) upd_same (s1 _ _ hc)⟩
  refine PySem.W.kla_eval hdef ?_
  cases hc : codeAmong pos tb.toList with
  | some cv =>
    obtain ⟨c', e, hco⟩ := ha pos cv hc
    subst e
    refine PySem.W.kla_makeFunctionHit (mg := X.mg) (c := c) (P := P) (ps := tb) (closure_ok hfree) I.ok.glob (I.mod.glob.keeps I.bk) hcode (TB.code.keeps I.bk) hP' ht hc bP fun ctv h' tk hx hsz => ?_
    exact fin (I.kept hx) (ExtN.refl H) hT hco
  | none =>
    refine PySem.W.kla_makeFunction (mg := X.mg) (c := c) (P := P) (ps := tb) (closure_ok hfree) I.ok.glob (I.mod.glob.keeps I.bk) hcode (TB.code.keeps I.bk) hP' ht hc TB.gP bP fun c' ctv h' tk hx hge hlt hrec htb => ?_
    obtain ⟨c2, oc, vs, t, e2, hoc, hd, hv⟩ := hrec
    cases e2
    have nC : H c' = none := I.hok.fresh hge
    have I1 := inv_table (t' := tk) (more := #[rawInt pos.line, rawInt pos.col, .ref c']) (h' := h') I hP (fun b o hb e => hx b o hb e) htb hge ⟨oc, vs, t, hoc, hd, hv⟩
    have hE : ExtN H (upd (upd H P (.tbl (tb ++ #[rawInt pos.line, rawInt pos.col, .ref c']))) c' (CodeO c' (X.env.qual ++ "<lambda>"))) := fun b o e n => by
      rw [upd_ne (ne_of_none e nC), upd_ne (fun z => n tb (Option.some.inj (e.symm.trans (by rw [z]; exact hP))))]
      exact e
    refine fin I1 hE (fun p hp => ?_) upd_same
    by_cases hb : p.1 = P
    · rw [hu p hp hb, hb]
      refine ⟨_, by rw [upd_ne (ne_of_none hP nC), upd_same], ?_, fun p' cv hcv => ?_⟩
      · rw [show (tb ++ #[rawInt pos.line, rawInt pos.col, Value.ref c']).toList = tb.toList ++ [rawInt pos.line, rawInt pos.col, .ref c'] from by simp]
        exact PySem.TriplesOk_snoc _ _ _ _ ht
      · rw [show (tb ++ #[rawInt pos.line, rawInt pos.col, Value.ref c']).toList = tb.toList ++ [rawInt pos.line, rawInt pos.col, .ref c'] from by simp] at hcv
        rcases among_app _ ht hcv with z | z
        · obtain ⟨c0, e1, e2⟩ := ha p' cv z
          exact ⟨c0, e1, hE _ _ e2 codeO_ne⟩
        · exact ⟨c', z, upd_same⟩
    · obtain ⟨ps', a1, a2, a3⟩ := hT p hp
      refine ⟨ps', by rw [upd_ne (ne_of_none a1 nC), upd_ne hb]; exact a1, a2, fun p' cv hcv => ?_⟩
      obtain ⟨c0, e1, e2⟩ := a3 p' cv hcv
      exact ⟨c0, e1, hE _ _ e2 codeO_ne⟩
/-- what is told of a call's end once the cells are forgotten -/
def Back (H1 H4 H5 : Hp) : Prop := (∀ b o, H4 b = some o → (∀ x, o ≠ Fz x) → H5 b = some o) ∧ ∀ b o, H1 b ≠ none → H4 b = some o → H5 b = some o
theorem Back.ext {H1 H2 H4 H5 : Hp} (b : Back H1 H4 H5) (s : Same H1 H2) (e : ExtN H2 H4) : ExtN H1 H5 := fun a o q n => b.2 a o (by rw [q]; simp) (e a o (s a o q) n)
theorem Back.tabs {H1 H4 H5 : Hp} (b : Back H1 H4 H5) (t : Tabs T H4) : Tabs T H5 := fun p hp => by
  obtain ⟨ps, h1, h2, h3⟩ := t p hp
  refine ⟨ps, b.1 _ _ h1 (fun x z => fz_tbl z), h2, fun pos cv hc => ?_⟩
  obtain ⟨c, e1, e2⟩ := h3 pos cv hc
  exact ⟨c, e1, b.1 _ _ e2 fun x z => by
    have z' : HO.ext _ = HO.frz x (.ext fun _ => True) := z
    cases z'⟩
/-- x(e, ..), the captured names' cells told to it -/
theorem pe_callC {k : Nat} {x : Str} {g : Addr} {gd : FuncData} {ps as : List Str} {sp : Sp} {scope : Scope} {p pos : Pos} {e : Expr} {es : List Expr} {t : TA} (F : FnOk X.prog X.w X.K X.mg X.base L2.CX0 k g gd ps sp) (hr : Room k X.A) (hg : Gl X x) (hm : X.mg x = some (.ref g)) (hk : PySem.W.keepIn X.K (.ref g) = true) (hb : Binds X.K gd ps [])
    (L : LamP X.env.scope scope as) (hfn : ∀ y, X.env.scope.names.lookup y = some .cell → X.fn y = true) (ha : PA X (e :: es) t) (hdb : (x == ("__debug__" : Str)) = false := by decide) (he : starEach (e :: es) X.env = (false, eval e X.env) :: starEach es X.env := by rfl) (hpl : (backTo pos (starEach es X.env)).any (·.1) = false := by rfl) :
    PE X (.Call (.Name x p) (e :: es) [] pos) (fun σ H Q => t σ H fun vs H1 => ∀ H2, Same H1 H2 → CellsAt X scope σ H2 → sp vs H2 (fun v H4 => ∀ H5, Back H1 H4 H5 → Q v H5) L2.E0) := by
  refine ⟨fun pins s σ H Q I h => ?_⟩
  refine wpAny_Call_Name_kw (ld_glob I hg hm ?_ hdb)
  refine PySem.W.callWith_K (h₀ := X.base) I.ok.mod.kin hk (thn (ha.run pos pins s σ H _ I h) fun us s1 ⟨vs, H1, I1, r, q⟩ => ⟨I1.kIn, ?_⟩) he hpl
  have hfree : ∀ y ∈ scope.names, y.2 = .free → ∃ c, X.env.cells.lookup y.1 = some c := fun y hy e => I.ok.has _ (.inl (L.free y hy e))
  have cin : ∀ {y c}, (clo X scope).lookup y = some c → X.env.cells.lookup y = some c := fun {y c} z => (clo_in hfree z).1
  have cell : ∀ {c}, c ∈ (clo X scope).map (·.2) → ∃ y, X.env.cells.lookup y = some c ∧ X.fn y = true := fun {c} z => by
    obtain ⟨q, hq, rfl⟩ := List.mem_map.mp z
    obtain ⟨y, c⟩ := q
    rcases cloFrom_mem hq with hm | ⟨h1, h2⟩
    · cases hm
    · obtain ⟨c1, hc⟩ := hfree _ h1 rfl
      have hc : X.env.cells.lookup y = some c1 := hc
      have e2 : c = c1 := by rw [h2, hc] <;> rfl
      exact ⟨y, by rw [e2]; exact hc, hfn y (L.free _ h1 rfl)⟩
  have tk : Trk ((clo X scope).map (·.2)) X.base X.stack s1.heap H1 := by
    refine ⟨fun b hb => ?_, fun b hb => ?_, fun b hb => ?_, fun b hb hf => ?_⟩ <;> obtain ⟨y, hc, hy⟩ := cell hb
    · exact I1.freeC y b hc
    · obtain ⟨v, o, ho, _⟩ := I1.cell y b hc
      exact ⟨o, ho⟩
    · exact Heap.get?_none_of_le (Nat.le_trans I1.ok.bsz (I1.ok.cab y b hy hc))
    · rcases List.mem_cons.mp (I1.stkSub _ hf) with z | z
      · exact I1.cne y b hc z
      · obtain ⟨_, o, ho, _⟩ := I1.ok.funs.mem z
        exact Nat.lt_irrefl _ (Nat.lt_of_lt_of_le (Heap.lt_size ho) (I1.ok.cab y b hy hc))
  have mem : ∀ {y c}, (clo X scope).lookup y = some c → c ∈ (clo X scope).map (·.2) := fun {y c} z => List.mem_map.mpr ⟨(y, c), PySem.mem_of_lookup z, rfl⟩
  have C : CellsAt X scope σ (trk ((clo X scope).map (·.2)) s1.heap H1) := by
    refine ⟨fun x y c h1 h2 => I1.ok.inj x y c (cin h1) (cin h2), fun y hy e => mem_lookup (cloFrom_has (cells := X.env.cells) (acc := []) (by rw [← e]; exact hy)), fun y c z => ?_, fun i y v h1 h2 h3 => ?_⟩
    · obtain ⟨u, o, ho, hd⟩ := I1.cell y c (cin z)
      exact ⟨o, u, trk_on (mem z) ho, hd⟩
    · obtain ⟨m, hn, hl⟩ := I1.loc
      have hsc := L.free _ (PySem.mem_of_lookup h3) rfl
      obtain ⟨u, ru, hq⟩ := hl i y v h1 h2 (.inr (.inl hsc))
      have hsc' : X.env.scope.names.lookup y = some .cell := hsc
      rcases hq with ⟨z, _⟩ | ⟨_, c, hc, o, ho, hd⟩
      · have z : X.env.scope.names.lookup y = some .local := z
        rw [hsc'] at z
        cases z
      · obtain ⟨c2, hc2⟩ := mem_lookup (cloFrom_has (cells := X.env.cells) (acc := []) (PySem.mem_of_lookup h3))
        have := cin hc2
        rw [hc] at this
        cases this
        exact ⟨c, o, u, hc2, trk_on (mem hc2) ho, hd, ru⟩
  have sm : Same H1 (trk ((clo X scope).map (·.2)) s1.heap H1) := fun b o q => (trk_off (tk.out q)).trans q
  have hq := q _ sm C
  have hl : us.length = ps.length := by
    rw [← F.len _ _ _ _ hq]
    exact (Paired.length r).symm
  have bd := hb s1 us I1.kIn (by rw [List.append_nil]; exact hl)
  rw [List.append_nil] at bd
  refine wpAny_call (codeAny_mono (F.run X.A X.stack s1 _ ⟨us, []⟩ us vs _ L2.E0 hr (trk_env0 I1.env0 tk) bd r hq) fun r s' hq => ?_)
  cases r with
  | error e => exact (show False from hq).elim
  | ok fl =>
    cases fl with
    | ret u =>
      obtain ⟨v, H4, os, bare, un, hok, rel, qq⟩ := hq
      obtain ⟨un', hok'⟩ := frg_end tk un hok
      refine I1.after ⟨v, _, os, bare, un', hok', rel, qq _ ⟨fun b o z n => ?_, fun b o z1 z2 => ?_⟩⟩
      · refine (frg_off fun m => ?_).trans z
        obtain ⟨ob, hob⟩ := tk.ob b m
        have e2 := un.frzs b ob _ (trk_on m hob)
        rw [e2] at z
        exact n _ (Option.some.inj z).symm
      · exact (frg_off fun m => z1 (tk.nw b m)).trans z2
    | next => exact False.elim hq
    | brk => exact False.elim hq
    | cont => exact False.elim hq
end
end Deed

namespace Deed
open PySem PySem.Spec PyProof.Rows L2 LamX
/-- the context of the lambda's body -/
def lamCxP (X : Cx) (N : List Str) (A : Around) (outer : List Env) (s : Shared) (H : Hp) (scope : Scope) (f c' : Addr) : Cx := { lamCx X A outer s H L2.E0 scope f c' with N := N, xe := fun _ _ => False }
section
variable {X : Cx} {T : List (Addr × Str)}
theorem lamP_start {A : Around} {outer : List Env} {s1 : Shared} {HZ : Hp} {scope : Scope} {f c' : Addr} {h₁ : Heap} {tk : Nat} {N as : List Str} {binds : List (Str × Value)} {σ : L2.St} (L : LamP X.env.scope scope as)
    (inj : ∀ x y c, (clo X scope).lookup x = some c → (clo X scope).lookup y = some c → x = y) (has : ∀ y ∈ scope.names, y.2 = .free → ∃ c, (clo X scope).lookup y.1 = some c)
    (cl : ∀ y c, (clo X scope).lookup y = some c → HZ c = none ∧ ∃ u, s1.heap.IsCell c u) (e0 : Env0 X.prog X.w X.K X.mg X.base A outer s1 HZ) (hd : A.handled = none)
    (hns : h₁.Ns s1.heap.objs.size fun y => binds.reverse.lookup y) (kp : ∀ b o, s1.heap.get? b = some o → h₁.get? b = some o) (hlen : σ.length = N.length)
    (vals : ∀ (i : Nat) y v, N[i]? = some y → σ[i]? = some (some v) → Vis scope y → ∃ u, RelV v u ∧ ((scope.names.lookup y = some .local ∧ binds.reverse.lookup y = some u) ∨ (scope.names.lookup y = some .free ∧ ∃ c, (clo X scope).lookup y = some c ∧ s1.heap.IsCell c (some u)))) :
    Inv (lamCxP X N A outer s1 HZ scope f c') [] σ HZ { s1 with heap := h₁, toks := tk } := by
  have noA : ∀ b : Addr, b ∉ (lamCxP X N A outer s1 HZ scope f c').ex := fun b z => absurd (show b ∈ ([] : List Addr) from z) (by simp)
  refine ⟨⟨e0.mod, L.kind, rfl, rfl, Nat.le_refl _, fun y z c e1 e2 => inj y z c e1 e2, fun y hy => ?_, fun y c z _ => ?_, fun _ => hd, Around.frames_deeper e0.frames, .inr ⟨rfl, rfl⟩, fun b z => absurd z (noA b), e0.bs, e0.bsz, fun b _ _ => noA b,
      fun b z => absurd z (noA b), e0.funs, e0.frf⟩,
    rfl, e0.bare, Un.kept kp, ⟨_, hns, fun i y v e1 e2 e3 => ?_⟩, fun y c e => ?_, e0.hok.fresh (Nat.le_refl _), fun y c e => ?_, fun q hq => absurd (show q ∈ ([] : List (Addr × Obj)) ++ [] from hq) (by simp), e0.hok.kept kp, hlen⟩
  · have hy : scope.names.lookup y = some .cell ∨ scope.names.lookup y = some .free := hy
    rcases hy with hy | hy
    · exact absurd rfl (L.nocell _ (PySem.mem_of_lookup hy))
    · exact has _ (PySem.mem_of_lookup hy) rfl
  · have z : false = true := z
    cases z
  · obtain ⟨u, ru, q⟩ := vals i y v e1 e2 e3
    refine ⟨u, ru, ?_⟩
    rcases q with ⟨k, hb⟩ | ⟨k, c, hc, hcell⟩
    · exact .inl ⟨k, hb⟩
    · exact .inr ⟨.inr k, c, hc, hcell.keeps kp⟩
  · obtain ⟨_, u, hu⟩ := cl y c e
    exact ⟨u, hu.keeps kp⟩
  · exact (cl y c e).1
/-- what R tells of two things the lambda answers -/
theorem lam_ok {k : Nat} {f c' : Addr} {pm ctv : Value} {params : Arguments} {body : Expr} {scope : Scope} {σ : L2.St} {H : Hp} {caps : List (Nat × Str)} {R : V → V → Hp → Bool → Prop} {tb : TE} {p1 p2 : Str} (L : LamP X.env.scope scope [p1, p2]) (hp : p1 ≠ p2)
    (hf : H f = some (Fz (PySem.W.kla_obj "<lambda>" (X.env.qual ++ "<lambda>") params body scope (clo X scope) pm c' ctv))) (hc : H c' = some (CodeO c' (X.env.qual ++ "<lambda>"))) (C : CellsAt X scope σ H)
    (hcaps : ∀ q ∈ caps, X.N[q.1]? = some q.2 ∧ scope.names.lookup q.2 = some .free)
    (hbind : ∀ (q : Str) (cl : List (Str × Addr)) (pm cv ctv u1 u2 : Value), bindArgs (PySem.W.kla_fn "<lambda>" q params body scope cl pm cv ctv) ⟨[u1, u2], []⟩ = pure [(p1, u1), (p2, u2)])
    (hbody : ∀ (A : Around) (outer : List Env) (s : Shared) (H : Hp), Room k (A.deeper (lamEnv X scope s.heap.objs.size f c')) → PE (lamCxP X (caps.map (·.2) ++ [p1, p2]) A outer s H scope f c') body tb)
    (hR : ∀ (a b : V) (H' : Hp) (r : Bool), R a b H' r → ∀ H'' : Hp, (∀ b o, H' b = some o → (∀ x, o ≠ Fz x) → H'' b = some o) → Tabs T H'' → ∀ Q : VK, (∀ H4, ExtN H'' H4 → Tabs T H4 → Q (.bl r) H4) → tb ((caps.map fun q => (σ[q.1]?).join) ++ [some a, some b]) H'' Q) :
    LamOk X.prog X.w X.K X.mg X.base T k f R H := by
  refine ⟨⟨_, _, _, _, hf⟩, fun A outer s H' u1 u2 a b r Q hr e0 ex T' ra rb hab q => ?_⟩
  have of1 : s.heap.get? f = some (PySem.W.kla_obj "<lambda>" (X.env.qual ++ "<lambda>") params body scope (clo X scope) pm c' ctv) := (e0.hok f _ (fz_ext ex hf)).1
  obtain ⟨⟨oc, vs, t, hoc, hdc, hvc⟩, _, _⟩ := e0.hok c' _ (ex _ _ hc codeO_ne)
  have C' := C.ext ex
  have cell : ∀ {b}, b ∈ (clo X scope).map (·.2) → ∃ y, (clo X scope).lookup y = some b := fun {b} z => by
    obtain ⟨q, hq, rfl⟩ := List.mem_map.mp z
    obtain ⟨y, c⟩ := q
    rcases cloFrom_mem hq with hm | ⟨h1, h2⟩
    · cases hm
    · obtain ⟨c1, hc1⟩ := C.has _ h1 rfl
      refine ⟨y, ?_⟩
      rcases cloFrom_mem (PySem.mem_of_lookup hc1) with hm | ⟨_, h4⟩
      · cases hm
      · rw [hc1, h4, h2]
  have mem : ∀ {y c}, (clo X scope).lookup y = some c → c ∈ (clo X scope).map (·.2) := fun {y c} z => List.mem_map.mpr ⟨(y, c), PySem.mem_of_lookup z, rfl⟩
  have hz : ∀ b ∈ (clo X scope).map (·.2), ∃ o, H' b = some (Fz o) := fun b hb => by
    obtain ⟨y, hy⟩ := cell hb
    obtain ⟨o, u, h1, _⟩ := C'.all y b hy
    exact ⟨o, h1⟩
  have e1 := frg_env0 e0 hz
  refine PySem.W.kla_callFunE hr.depth of1 rfl L.co L.gen rfl ⟨c', oc, vs, t, rfl, hoc, hdc, hvc⟩ ?_
  rw [hbind]
  have lim : s.heap.NoLimit := e0.mod.nolimit.keeps fun b o e => (e0.bs b o e).1
  refine wpAny_pure (wpAny_newFunctionEnv L.nocell (fun y hy => ?_) (fun h₁ hns hsb => ⟨lim.fresh _ hsb, ?_⟩) L.kind)
  · simp only [List.mem_cons, List.not_mem_nil, or_false] at hy
    rcases hy with rfl | rfl
    · exact L.loc _ (by simp)
    · exact L.loc _ (by simp)
  show codeAny _ _ (.expr body (lamEnv X scope s.heap.objs.size f c')) _ _
  have kp : ∀ b o, s.heap.get? b = some o → h₁.get? b = some o := fun b o e => hsb.extBut b o (Nat.ne_of_lt (Heap.lt_size e)) (Heap.get?_push_of_some _ e)
  have J : Inv (lamCxP X (caps.map (·.2) ++ [p1, p2]) A outer s (frg ((clo X scope).map (·.2)) H') scope f c') [] ((caps.map fun q => (σ[q.1]?).join) ++ [some a, some b]) (frg ((clo X scope).map (·.2)) H') { s with heap := h₁, toks := s.toks + [(p1, u1), (p2, u2)].length } := by
    refine lamP_start L C.inj C.has (fun y c hy => ?_) e1 hr.hd hns kp (by simp) (fun i y v h1 h2 h3 => ?_)
    · obtain ⟨o, u, h1, h2⟩ := C'.all y c hy
      exact ⟨frg_on (mem hy), u, o, (e0.hok c _ h1).1, h2⟩
    · by_cases hi : i < caps.length
      · have hi2 : i < (caps.map (·.2)).length := by rw [List.length_map]; exact hi
        have hi3 : i < (caps.map fun q => (σ[q.1]?).join).length := by rw [List.length_map]; exact hi
        rw [List.getElem?_append_left hi2, List.getElem?_map, List.getElem?_eq_getElem hi] at h1
        rw [List.getElem?_append_left hi3, List.getElem?_map, List.getElem?_eq_getElem hi] at h2
        obtain ⟨g1, g2⟩ := hcaps _ (List.getElem_mem hi)
        cases h1
        have h2' : (σ[(caps[i]).1]?).join = some v := Option.some.inj h2
        have h2'' : σ[(caps[i]).1]? = some (some v) := by
          cases hs : σ[(caps[i]).1]? with
          | none => rw [hs] at h2'; cases h2'
          | some w => rw [hs] at h2'; rw [show w = some v from h2']
        obtain ⟨c, o, u, d1, d2, d3, d4⟩ := C'.val _ _ v g1 h2'' g2
        exact ⟨u, d4, .inr ⟨g2, c, d1, o, (e0.hok c _ d2).1, d3⟩⟩
      · have hi2 : (caps.map (·.2)).length ≤ i := by rw [List.length_map]; omega
        have hi3 : (caps.map fun q => (σ[q.1]?).join).length ≤ i := by rw [List.length_map]; omega
        rw [List.getElem?_append_right hi2, List.length_map] at h1
        rw [List.getElem?_append_right hi3, List.length_map] at h2
        generalize i - caps.length = j at h1 h2
        match j, h1, h2 with
        | 0, h1, h2 =>
          cases h1
          cases h2
          refine ⟨u1, ra, .inl ⟨L.loc _ (by simp), ?_⟩⟩
          have hpb : (p1 == p2) = false := by simpa using hp
          simp [List.lookup, hpb]
        | 1, h1, h2 =>
          cases h1
          cases h2
          refine ⟨u2, rb, .inl ⟨L.loc _ (by simp), ?_⟩⟩
          simp [List.lookup]
        | j + 2, h1, h2 => cases h1
  have red : tb ((caps.map fun q => (σ[q.1]?).join) ++ [some a, some b]) (frg ((clo X scope).map (·.2)) H') (fun v Hb => (∀ c ∈ (clo X scope).map (·.2), Hb c = none) → Q v (bck ((clo X scope).map (·.2)) H' Hb)) := by
    have toF : ∀ b o, H' b = some o → (∀ x, o ≠ Fz x) → frg ((clo X scope).map (·.2)) H' b = some o := fun b o z n => (frg_off fun m => by
      obtain ⟨ob, hob⟩ := hz b m
      rw [hob] at z
      exact n _ (Option.some.inj z).symm).trans z
    refine hR a b H' r hab _ toF (fun p hp => ?_) _ fun H4 x4 T4 hg => q _ (fun c o z n => ?_) (fun p hp => ?_)
    · obtain ⟨ps, h1, h2, h3⟩ := T' p hp
      refine ⟨ps, toF _ _ h1 (fun x z => fz_tbl z), h2, fun pos cv hcv => ?_⟩
      obtain ⟨c, e1, e2⟩ := h3 pos cv hcv
      exact ⟨c, e1, toF _ _ e2 fun x z => by
        have z' : HO.ext _ = HO.frz x (.ext fun _ => True) := z
        cases z'⟩
    · by_cases m : c ∈ (clo X scope).map (·.2)
      · exact (bck_none (hg c m) m).trans z
      · exact bck_of (x4 c o ((frg_off m).trans z) n)
    · exact (T4 p hp).ext fun b o z => bck_of z
  refine PySem.W.kla_codeExpr (wpAny_mono ((hbody A outer s _ (hr.deeper _)).run [] _ _ _ _ J red) (fun v s' hq => ?_) fun e s' hq => (show False from hq).elim)
  obtain ⟨w', Hb, J', rv, qq⟩ := hq
  obtain ⟨un', hok'⟩ := bck_end e0 hz J'.base J'.hok
  exact ⟨w', _, J'.os, J'.bare, un', hok', rv, qq fun c m => by
    obtain ⟨o, ho⟩ := hz c m
    exact J'.base.free c o (e0.hok c _ ho).1 (frg_on m) (fun z => nomatch (show c ∈ ([] : List Addr) from z))⟩
end
end Deed

namespace Deed
open PySem PySem.Spec PyProof.Rows L2 LamX
theorem Tabs.putL {T : List (Addr × Str)} {H : Hp} {D : Addr} {xs ys : List V} (t : Tabs T H) (e : H D = some (.lst xs)) : Tabs T (upd H D (.lst ys)) := fun p hp => by
  obtain ⟨ps, h1, h2, h3⟩ := t p hp
  have n1 : p.1 ≠ D := fun z => by
    rw [z, e] at h1
    cases h1
  refine ⟨ps, by rw [upd_ne n1]; exact h1, h2, fun pos cv hc => ?_⟩
  obtain ⟨c, e1, e2⟩ := h3 pos cv hc
  have n2 : c ≠ D := fun z => by
    rw [z, e] at e2
    have z' : HO.lst xs = HO.ext _ := Option.some.inj e2
    cases z'
  exact ⟨c, e1, by rw [upd_ne n2]; exact e2⟩
section
variable {J : It} {n : Nat} {G : Hp → Prop} {Y : Nat → Hp → V → Hp → Prop} {g : TG} {tt : TT} {te : TE} {vs : List Nat} {σ : L2.St} {H1 : Hp} {D : Addr} {Qd : Hp → Prop} {α : Type}
/-- values; the tables may be otherwise -/
theorem lc_extV (T : List (Addr × Str)) (w : Walk J n G Y) (ys : List α) (p : α → Bool) (v : α → V) (hn : ys.length = n) (hlen : ys.length ≤ 1000) (nD : H1 D = none) (hT : Tabs T H1) (hG : ∀ H, ExtN H1 H → G H)
    (hs : ∀ i y x H H', ys[i]? = some y → ExtN H1 H → Tabs T H → Y i H x H' → ∀ (Q1 : V → Hp → Prop) (Q0 : Hp → Prop), (p y = true → ∀ H4, ExtN H H4 → Tabs T H4 → Q1 (v y) H4) → (p y = false → ∀ H3, ExtN H H3 → Tabs T H3 → Q0 H3) →
      g x (wipe σ vs) H' fun σ2 H2 => wipe σ2 vs = wipe σ vs ∧ tt σ2 H2 fun b H3 => if b = true then te σ2 H3 Q1 else Q0 H3)
    (hd : ∀ H, ExtN H1 H → Tabs T H → H D = some (.lst ((ys.filter p).map v)) → Qd H) : LcGoal J g tt te vs σ H1 D Qd := by
  refine lc_gen w ys p (fun H => ExtN H1 H ∧ Tabs T H) (fun H H' => ExtN H H' ∧ Tabs T H') (fun _ y u => u = v y) hn hlen ⟨.of (same_new nD _), hT.ext (same_new nD _)⟩ (fun H h => hG H h.1) (fun H H' h1 h2 => ⟨⟨h1.1.trans h2.1, h2.2⟩, fun xs e => h2.1 _ _ e fun _ z => nomatch z⟩) (fun H xs l h1 e => ⟨fun b o q n => ?_, Tabs.putL h1.2 e⟩) (fun _ _ _ _ _ _ e => e) (fun _ _ _ _ _ _ _ e => e) (fun i y x H H' hy h1 hY Q1 Q0 q1 q0 => ?_) (fun H zs h1 e ez hz => ?_)
  · have hb : b ≠ D := fun z => by
      rw [z, nD] at q
      cases q
    rw [upd_ne hb]
    exact h1.1 b o q n
  · exact hs i y x H H' hy h1.1 h1.2 hY Q1 Q0 (fun hp H4 e4 T4 => q1 hp _ H4 ⟨e4, T4⟩ rfl) fun hp H3 e3 T3 => q0 hp H3 ⟨e3, T3⟩
  · refine hd H h1.1 h1.2 ?_
    rw [e, ← ez, List.map_map]
    congr 2
    exact List.map_congr_left fun z hzz => hz z hzz
end
def isStrT : Dat → Bool
  | .str _ => true
  | _ => false
theorem Da.tyS {K : PySem.W.Frag} {H : Hp} {v : V} {x : Dat} (h : Da H v x) : ∃ t : String, TyX K H v (.type t) ∧ kitB t "str" = some (isStrT x) := by
  cases h with
  | non => exact ⟨"NoneType", .base .non, (by decide +kernel : kitB "NoneType" "str" = some false)⟩
  | bl b => exact ⟨"bool", .base (.bl b), (by decide +kernel : kitB "bool" "str" = some false)⟩
  | int i => exact ⟨"int", .base (.int i), (by decide +kernel : kitB "int" "str" = some false)⟩
  | str s => exact ⟨"str", .base (.str s), (by decide +kernel : kitB "str" "str" = some true)⟩
  | tup e _ => exact ⟨"tuple", .base (.tup e), (by decide +kernel : kitB "tuple" "str" = some false)⟩
  | lst e => exact ⟨"list", .base (.lst e), (by decide +kernel : kitB "list" "str" = some false)⟩
  | dct e => exact ⟨"dict", .base (.dK e), (by decide +kernel : kitB "dict" "str" = some false)⟩
/-- of numbers and a tuple's parts: as many, each so -/
theorem nosD_whys {n : Nat} {es : List En} {d k : Int} {ys : List En} (h : Oa n es d k ys) {us : List En} (hs : ∀ u ∈ us, u ∈ ys) (x : Dat) : whysD (fun m y => ys.any fun u => decide (u.num = m) && hold ys false u y) (us.map (·.num)) x = nosD ys us x := by
  have one : ∀ u ∈ us, ∀ y, (ys.any fun v => decide (v.num = u.num) && hold ys false v y) = hold ys false u y := fun u hu y => by
    rw [Bool.eq_iff_iff, List.any_eq_true]
    constructor
    · rintro ⟨v, hv, hh⟩
      rw [Bool.and_eq_true] at hh
      rw [← num_inj h.bk (h.mem v hv).1 (h.mem u (hs u hu)).1 (of_decide_eq_true hh.1)]
      exact hh.2
    · intro hh
      exact ⟨u, hs u hu, by rw [Bool.and_eq_true]; exact ⟨decide_eq_true rfl, hh⟩⟩
  unfold whysD nosD
  cases x with
  | tup ps =>
    dsimp only
    rw [List.length_map]
    congr 1
    clear hs
    induction us generalizing ps with
    | nil => rfl
    | cons u r ih =>
      cases ps with
      | nil => rfl
      | cons p q =>
        rw [List.map_cons, List.zip_cons_cons, List.zip_cons_cons, List.all_cons, List.all_cons, ih (fun v hv => one v (List.mem_cons_of_mem _ hv)) q, one u List.mem_cons_self]
  | _ => rfl
def seqI (c : Bool) (rs : List Int) : HO := if c = true then .lst (rs.map V.int) else .tup (rs.map V.int)
abbrev sLHead : Stmt := topS 63
abbrev nLHead : List Str := ["_law_thing_here", "_law_word", "_law_number", "_law_many"]
abbrev pLHead : List Str := ["_law_thing_here", "_law_word", "_law_number", "_law_many"]
theorem scLHead : FnScope nLHead pLHead (defScope sLHead) := ⟨rfl, rfl, rfl, by decide +kernel, rfl, by decide +kernel, by decide +kernel⟩
abbrev sLEach : Stmt := topS 64
abbrev nLEach : List Str := ["_law_some", "_law_thing_here", "_law_look", "_law_one", "_law_part"]
abbrev pLEach : List Str := ["_law_some", "_law_thing_here", "_law_look"]
theorem scLEach : FnScope nLEach pLEach (defScope sLEach) := ⟨rfl, rfl, rfl, by decide +kernel, rfl, by decide +kernel, by decide +kernel⟩
section
variable {P : Program} {w : World} {K : PySem.W.Frag} {mg : Str → Option Value} {base : Heap} {T : List (Addr × Str)}
def spLHead : Sp := fun vs H Q _ => ∃ (v : V) (x : Dat) (sz : Nat) (wd : Str) (m : Int), vs = [v, .str wd, .int m, .int sz] ∧ Da H v x ∧ 2 ≤ sz ∧ Q (.bl (headD x sz wd m)) H
theorem dec_str (a b : Str) : decide (V.str a = V.str b) = decide (a = b) := by
  by_cases h : a = b
  · rw [decide_eq_true (by rw [h]), decide_eq_true h]
  · rw [decide_eq_false (fun z => h (by injection z)), decide_eq_false h]
theorem dec_int (a b : Int) : decide (V.int a = V.int b) = decide (a = b) := by
  by_cases h : a = b
  · rw [decide_eq_true (by rw [h]), decide_eq_true h]
  · rw [decide_eq_false (fun z => h (by injection z)), decide_eq_false h]
theorem ok_LHead {f : Addr} {fd : FuncData} {k : Nat} (F : Fun K "_law_head" "_law_head" sLHead f fd) (m_isinstance : mg "isinstance" = none) (m_tuple : mg "tuple" = none) (m_len : mg "len" = none) (m_str : mg "str" = none) (m_int : mg "int" = none) (m_bool : mg "bool" = none) : FnOk P w K mg base CX0 (k + 1) f fd pLHead spLHead := by
  refine F.ok scLHead (fun vs H Q E h => ?_) (fun cdv A outer s H vs Q E hr h => ?_)
  · obtain ⟨v, x, sz, wd, m, rfl, _⟩ := h
    rfl
  · obtain ⟨v, x, sz, wd, m, rfl, hd, hsz, q⟩ := h
    obtain ⟨t, ht, h1, _, _⟩ := hd.ty (K := K)
    have nd := scLHead.nd
    refine ⟨_, pss_cons (ps_if (PW.pt (pw_or (pt_not (pt_val (pe_callB call_isi (by rfl) m_isinstance (by decide +kernel) (pa_cons (pv 0) (pa_cons (pe_bltn (v := .ty "tuple") (by rfl) m_tuple (by decide +kernel) rfl) pa_nil))))) (pw_or (pt_cmpR op_ne (pe_callB call_len_seq (by rfl) m_len (by decide +kernel) (pa_cons (pv 0) pa_nil)) (pv 3) (nomark _)) (pw_or1 (pt_not (pt_val (pe_callB call_isi (by rfl) m_isinstance (by decide +kernel) (pa_cons (pe_ix ix_tup (pv 0) pe_int (fun _ _ => rfl)) (pa_cons (pe_bltn (v := .ty "str") (by rfl) m_str (by decide +kernel) rfl) pa_nil))))))))) (pss_one (ps_ret pe_bl)) pss_nil)
      (pss_cons (ps_if (PW.pt (pw_or (pt_not (pt_val (pe_callB call_isi (by rfl) m_isinstance (by decide +kernel) (pa_cons (pe_ix ix_tup (pv 0) pe_int (fun _ _ => rfl)) (pa_cons (pe_bltn (v := .ty "int") (by rfl) m_int (by decide +kernel) rfl) pa_nil))))) (pw_or1 (pt_val (pe_callB call_isi (by rfl) m_isinstance (by decide +kernel) (pa_cons (pe_ix ix_tup (pv 0) pe_int (fun _ _ => rfl)) (pa_cons (pe_bltn (v := .ty "bool") (by rfl) m_bool (by decide +kernel) rfl) pa_nil))))))) (pss_one (ps_ret pe_bl)) pss_nil)
      (pss_one (ps_ret (pe_and (pe_cmpR op_eq (pe_ix ix_tup (pv 0) pe_int (fun _ _ => rfl)) (pv 1) (nomark _)) (pe_one (pe_cmpR op_eq (pe_ix ix_tup (pv 0) pe_int (fun _ _ => rfl)) (pv 2) (nomark _))))))), ?_⟩
    refine ⟨_, rfl, _, _, _, _, _, rfl, .ty "tuple", ht, kit_ty h1, _, rfl, ?_⟩
    by_cases hx : isTupD x = true
    · rw [hx]
      refine iteF ?_
      cases x with
      | tup ds =>
        cases hd with
        | tup e hda =>
          rename_i a xs
          have hl := hda.len
          refine ⟨_, rfl, a, _, rfl, .inr (SqT.of e), _, rfl, rfl, _, rfl, ?_⟩
          refine ite2 (fun c => ?_) (fun c => ?_)
          · have hno : headD (.tup ds) sz wd m = false := by
              unfold headD
              split
              · next r he =>
                injection he with he
                subst he
                rw [List.length_cons, List.length_cons] at hl
                rw [decide_eq_false, Bool.false_and]
                intro z
                simp at c
                omega
              · rfl
            rw [hno] at q
            exact iteT q
          · have hc : xs.length = sz := by simp at c; omega
            match ds, xs, hda, hl, e, hc with
            | d1 :: d2 :: r, _, .cons (v := v1) h1 (.cons (v := v2) h2 h3), hl, e, hc =>
              rename_i vr
              have hsz2 : decide (r.length + 2 = sz) = true := by
                rw [List.length_cons, List.length_cons] at hl hc
                exact decide_eq_true (by simp at hl; omega)
              rw [headD_two, hsz2, Bool.true_and] at q
              obtain ⟨t1, ht1, k1⟩ := h1.tyS (K := K)
              refine ⟨_, rfl, a, _, _, _, rfl, rfl, SqT.of e, (atI_nat (j := 0) rfl), _, _, _, _, _, rfl, .ty "str", ht1, kit_ty k1, _, rfl, ?_⟩
              cases d1 with
              | str sx =>
                cases h1
                refine iteF ?_
                obtain ⟨t2, ht2, _, k2, k3⟩ := h2.ty (K := K)
                refine ⟨_, rfl, a, _, _, _, rfl, rfl, SqT.of e, (atI_nat (j := 1) rfl), _, _, _, _, _, rfl, .ty "int", ht2, kit_ty k2, _, rfl, ?_⟩
                cases d2 with
                | int b =>
                  cases h2
                  refine iteF ?_
                  refine ⟨_, rfl, a, _, _, _, rfl, rfl, SqT.of e, (atI_nat (j := 1) rfl), _, _, _, _, _, rfl, .ty "bool", ht2, kit_ty k3, _, rfl, ?_⟩
                  refine iteF ?_
                  refine ⟨_, rfl, a, _, _, _, rfl, rfl, SqT.of e, (atI_nat (j := 0) rfl), _, rfl, rfl, _, rfl, ?_⟩
                  rw [dec_str]
                  refine ite2 (fun c1 => ?_) (fun c1 => ?_)
                  · refine ⟨_, rfl, a, _, _, _, rfl, rfl, SqT.of e, (atI_nat (j := 1) rfl), _, rfl, rfl, ?_⟩
                    rw [dec_int]
                    rw [show isStrD wd (.str sx) = true from c1, Bool.true_and] at q
                    exact q
                  · rw [show isStrD wd (.str sx) = false from Bool.eq_false_iff.mpr c1, Bool.false_and] at q
                    exact q
                | bl b =>
                  refine iteF ?_
                  refine ⟨_, rfl, a, _, _, _, rfl, rfl, SqT.of e, (atI_nat (j := 1) rfl), _, _, _, _, _, rfl, .ty "bool", ht2, kit_ty k3, _, rfl, ?_⟩
                  refine iteT ?_
                  rw [show isIntD (.bl b) = false from rfl, Bool.false_and, Bool.and_false] at q
                  exact q
                | _ =>
                  refine iteT ?_
                  simp only [isIntD, Bool.false_and, Bool.and_false] at q
                  exact q
              | _ =>
                refine iteT ?_
                simp only [isStrD, Bool.false_and] at q
                exact q
            | [], _, .nil, hl, e, hc => simp at hc; omega
            | [d1], _, .cons h1 .nil, hl, e, hc => simp at hc; omega
      | _ => cases hx
    · rw [Bool.eq_false_iff.mpr hx]
      refine iteT ?_
      have hno : headD x sz wd m = false := by
        cases x with
        | tup ds => exact absurd rfl hx
        | _ => rfl
      rw [hno] at q
      exact q
def spLEach (P : Program) (w : World) (K : PySem.W.Frag) (mg : Str → Option Value) (base : Heap) (T : List (Addr × Str)) (k : Nat) (c : Bool) : Sp := fun vs H Q _ => ∃ (l f : Addr) (rs : List Int) (v : V) (x : Dat) (R : V → V → Hp → Bool → Prop) (φ : Int → Dat → Bool), vs = [.ref l, v, .ref f] ∧ H l = some (seqI c rs) ∧ rs.length ≤ 1000 ∧ Da H v x ∧ Tabs T H ∧ LamOk P w K mg base T k f R H ∧
  (∀ r ∈ rs, ∀ (y : Dat) (u : V) (H' : Hp), ExtN H H' → Tabs T H' → Da H' u y → (∀ n, FineT n x → FineT n y) → R (.int r) u H' (φ r y)) ∧ ∀ H', ExtN H H' → Tabs T H' → Q (.bl (whysD φ rs x)) H'
theorem all_notn {α : Type} (p : α → Bool) : ∀ l : List α, decide (((l.filter fun a => !p a).map fun _ => (1 : Int)) = []) = l.all p
  | [] => rfl
  | a :: r => by
    have ih := all_notn p r
    rw [List.filter_cons, List.all_cons]
    cases p a with
    | true => exact ih
    | false => rfl
theorem any_ones {α : Type} (p : α → Bool) : ∀ l : List α, (!decide (((l.filter p).map fun _ => (1 : Int)) = [])) = l.any p
  | [] => rfl
  | a :: r => by
    have ih := any_ones p r
    rw [List.filter_cons, List.any_cons]
    cases p a with
    | true => rfl
    | false => exact ih
theorem ok_LEach (c : Bool) {f : Addr} {fd : FuncData} {k : Nat} (F : Fun K "_law_each" "_law_each" sLEach f fd) (m_isinstance : mg "isinstance" = none) (m_tuple : mg "tuple" = none) (m_len : mg "len" = none) (m_zip : mg "zip" = none) : FnOk P w K mg base CX0 (k + 2) f fd pLEach (spLEach P w K mg base T k c) := by
  refine F.ok scLEach (fun vs H Q E h => ?_) (fun cdv A outer s H vs Q E hr h => ?_)
  · obtain ⟨l, f, rs, v, x, R, φ, rfl, _⟩ := h
    rfl
  · obtain ⟨l, fl, rs, v, x, R, φ, rfl, el, hln, hd, hT, hL, hR, q⟩ := h
    have nd := scLEach.nd
    have hu := hr.units
    obtain ⟨t, ht, h1, _, _⟩ := hd.ty (K := K)
    refine ⟨_, pss_cons (ps_if (PW.pt (pw_or (pt_not (pt_val (pe_callB call_isi (by rfl) m_isinstance (by decide +kernel) (pa_cons (pv 1) (pa_cons (pe_bltn (v := .ty "tuple") (by rfl) m_tuple (by decide +kernel) rfl) pa_nil))))) (pw_or1 (pt_cmpR op_ne (pe_callB call_len_seq (by rfl) m_len (by decide +kernel) (pa_cons (pv 1) pa_nil)) (pe_callB call_len_seq (by rfl) m_len (by decide +kernel) (pa_cons (pv 0) pa_nil)) (nomark _))))) (pss_one (ps_ret pe_bl)) pss_nil)
      (pss_one (ps_ret (pe_cmpR (op_eqD hr.units) (pe_lc (own := [("_law_one", 3), ("_law_part", 4)]) (g := gTup K 2 (gCons (gName 3) (gCons (gName 4) gNil))) (by rfl) nd (pi_zipB c false (by rfl) m_zip (pa_cons (pv 0) (pa_cons (pv 1) pa_nil))) (blkOk_by (own := [("_law_one", 3), ("_law_part", 4)]) (N := nLEach) (sc := defScope sLEach) (by decide +kernel)) (fun _ _ _ _ _ => (pg_tup (by rfl) (pgs_cons (pg_name (i := 3) nd rfl (.inl rfl)) (pgs_cons (pg_name (i := 4) nd rfl (.inl rfl)) pgs_nil))))
          (fun _ _ _ _ _ => pts_one (pt_not (pt_val (pe_lamv (P := P) (w := w) (K := K) (mg := mg) (base := base) (T := T) (k := k) (i := 2) (by exact ⟨rfl, rfl, rfl, rfl, rfl⟩) hr (by rfl) (by first | exact .inl rfl | exact .inr (.inl rfl) | exact .inr (.inr rfl)) (pa_cons (pv 3) (pa_cons (pv 4) pa_nil))))))
          (fun _ _ _ _ _ => pe_int)) (pe_lst pa_nil) (nomark _)))), ?_⟩
    refine ⟨_, rfl, _, _, _, _, _, rfl, .ty "tuple", ht, kit_ty h1, _, rfl, ?_⟩
    cases hd with
    | @tup a xs ds e hda =>
      refine iteF ?_
      have hl := hda.len
      have sq : Sq2 K c H l (rs.map V.int) := by
        cases c
        · exact SqT.of el
        · exact SqL.of el
      refine ⟨_, rfl, a, _, rfl, .inr (SqT.of e), _, rfl, l, _, rfl, (by
        cases c
        · exact .inr (SqT.of el)
        · exact .inl (SqL.of el)), rfl, _, rfl, ?_⟩
      refine ite2 (fun c1 => ?_) (fun c1 => ?_)
      · have hno : whysD φ rs (.tup ds) = false := by
          unfold whysD
          dsimp only
          rw [decide_eq_false, Bool.false_and]
          intro z
          simp at c1
          omega
        rw [hno] at q
        exact q _ (ExtN.refl _) hT
      · have hc : xs.length = rs.length := by simp at c1; omega
        have hzl : (rs.zip ds).length = rs.length := by rw [List.length_zip]; omega
        refine ⟨_, rfl, _, rfl, l, a, _, _, rfl, sq, SqT.of e, fun M1 nM1 => ?_⟩
        refine lc_extV T (walk_zipB (n := rs.length) (xs := rs.map V.int) (ys := xs) (by rw [List.length_map]) hc) (rs.zip ds) (fun y => !φ y.1 y.2) (fun _ => .int 1) hzl (by omega) nM1 hT (fun H' s => ⟨?_, SqT.of (s _ _ e fun _ z => nomatch z)⟩) ?_ ?_
        · cases c
          · exact SqT.of (s _ _ el fun _ z => nomatch z)
          · exact SqL.of (s _ _ el fun _ z => nomatch z)
        · rintro i y x1 H3 H4 hy s3 T3 ⟨T1, w1, w2, rfl, nT, rfl, g1, g2⟩ Q1 Q0 q1 q0
          obtain ⟨j1, j2⟩ := List.getElem?_zip_eq_some.mp hy
          dsimp only at g1 g2
          rw [List.getElem?_map, j1] at g1
          injection g1 with g1
          subst g1
          obtain ⟨dd, hdd, hda2⟩ := hda.at g2
          rw [j2] at hdd
          injection hdd with hdd
          subst hdd
          have s4 := same_new nT (.tup [.int y.1, w2])
          have s34 := s3.trans (.of s4)
          refine ⟨T1, _, rfl, SqT.of upd_same, rfl, _, _, rfl, _, _, rfl, rfl, ?_⟩
          refine ⟨rfl, fl, R, rfl, hL.mono s34, _, rfl, _, rfl, _, _, φ y.1 y.2, rfl, ExtN.refl _, T3.ext s4, hR y.1 (List.mem_of_getElem? j1) y.2 w2 _ s34 (T3.ext s4) (hda2.ext s34) (fun n hf => hf.part (List.mem_of_getElem? j2)), fun H5 e5 T5 => ⟨_, rfl, ?_⟩⟩
          cases hφ : φ y.1 y.2 with
          | true => exact iteF (q0 (by rw [hφ]; rfl) _ ((ExtN.of s4).trans e5) T5)
          | false => exact iteT (q1 (by rw [hφ]; rfl) _ ((ExtN.of s4).trans e5) T5)
        intro H2 s2 T2 eM
        have eM' : H2 M1 = some (.lst ((((rs.zip ds).filter fun y => !φ y.1 y.2).map fun _ => (1 : Int)).map V.int)) := by rw [eM, List.map_map]; rfl
        refine ⟨Nat.zero_le _, fun g ng => ?_⟩
        have s3 := same_new ng (.lst [])
        have eg : (upd H2 g (.lst [])) g = some (.lst []) := upd_same
        refine ⟨.list ((((rs.zip ds).filter fun y => !φ y.1 y.2).map fun _ => (1 : Int)).map .int), .list (([] : List Int).map .int), .lst (SqL.of (s3 _ _ eM')) (dp_ints _), .lst (SqL.of eg) (dp_ints []), shaped_ints _, shaped_ints [], ?_⟩
        rw [eqv_ints, all_notn (fun y : Int × Dat => φ y.1 y.2)]
        have := q _ (s2.trans (.of s3)) (T2.ext s3)
        unfold whysD at this
        dsimp only at this
        rw [decide_eq_true (by omega), Bool.true_and] at this
        exact this
    | _ => exact iteT (q _ (ExtN.refl _) hT)
end
end Deed

namespace Deed
open PySem PySem.Spec PyProof.Rows L2 LamX
theorem fz_lst {o : Obj} {xs : List V} : HO.lst xs ≠ Fz o := fun z => by
  have z' : HO.lst xs = HO.frz o (.ext fun _ => True) := z
  cases z'
theorem fz_dK {o : Obj} {xs : List (Key × V)} : HO.dK xs ≠ Fz o := fun z => by
  have z' : HO.dK xs = HO.frz o (.ext fun _ => True) := z
  cases z'
theorem fz_frK {o o' : Obj} {xs : List (Key × V)} : HO.frz o' (.dK xs) ≠ Fz o := fun z => by
  have z' : HO.frz o' (.dK xs) = HO.frz o (.ext fun _ => True) := z
  cases z'
/-- all but what is only known as it stands -/
def NF (H H' : Hp) : Prop := ∀ b o, H b = some o → (∀ x, o ≠ Fz x) → H' b = some o
theorem NF.tup {H H' : Hp} (e : NF H H') : KpT H H' := fun b xs z => e _ _ z fun x q => fz_tup q
mutual
theorem Da.nf {H H' : Hp} (e : NF H H') : ∀ {d : Dat} {v : V}, Da H v d → Da H' v d
  | .non, _, h => by cases h; exact .non
  | .bl b, _, h => by cases h; exact .bl b
  | .int i, _, h => by cases h; exact .int i
  | .str x, _, h => by cases h; exact .str x
  | .tup ds, _, h => by
    cases h with
    | tup z h => exact .tup (e _ _ z fun x q => fz_tup q) (DaAll.nf e h)
  | .oth, _, h => by
    cases h with
    | lst z => exact .lst (e _ _ z fun x q => fz_lst q)
    | dct z => exact .dct (e _ _ z fun x q => fz_dK q)
theorem DaAll.nf {H H' : Hp} (e : NF H H') : ∀ {ds : List Dat} {vs : List V}, DaAll H vs ds → DaAll H' vs ds
  | [], _, h => by cases h; exact .nil
  | d :: r, _, h => by
    cases h with
    | cons h1 h2 => exact .cons (Da.nf e h1) (DaAll.nf e h2)
end
theorem EdAt.nf {H H' : Hp} {ed : Addr} {n : Nat} {zs : List (Addr × En)} (h : EdAt H ed n zs) (e : NF H H') : EdAt H' ed n zs :=
  ⟨e _ _ h.at_ (fun x q => fz_dK q), fun z hz => (h.ent z hz).kp e.tup, h.ok, h.len⟩
section
variable {X : Cx}
theorem pe_callC3 {k : Nat} {x : Str} {g : Addr} {gd : FuncData} {ps as : List Str} {sp : Sp} {params : Arguments} {body : Expr} {scope : Scope} {p lpos pos : Pos} {e1 e2 : Expr} {t : TA} (F : FnOk X.prog X.w X.K X.mg X.base L2.CX0 k g gd ps sp) (hr : Room k X.A) (hg : Gl X x) (hm : X.mg x = some (.ref g)) (hk : PySem.W.keepIn X.K (.ref g) = true) (hb : Binds X.K gd ps [])
    (L : LamP X.env.scope scope as) (hfn : ∀ y, X.env.scope.names.lookup y = some .cell → X.fn y = true) (ha : PA X [e1, e2, .Lambda params body scope lpos] t) (hdb : (x == ("__debug__" : Str)) = false := by decide) (he : starEach [e1, e2, .Lambda params body scope lpos] X.env = (false, eval e1 X.env) :: starEach [e2, .Lambda params body scope lpos] X.env := by rfl) (hpl : (backTo pos (starEach [e2, .Lambda params body scope lpos] X.env)).any (·.1) = false := by rfl) :
    PE X (.Call (.Name x p) [e1, e2, .Lambda params body scope lpos] [] pos) (fun σ H Q => t σ H fun vs H1 => ∀ H2, Same H1 H2 → CellsAt X scope σ H2 → sp vs H2 (fun v H4 => ∀ H5, Back H1 H4 H5 → Q v H5) L2.E0) :=
  pe_callC (scope := scope) F hr hg hm hk hb L hfn ha hdb he hpl
end
theorem some_eq {n : Nat} {es : List En} {d k : Int} {ys : List En} (h : Oa n es d k ys) {ns : List Int} {m : Int} (pm : ns.Perm ((es.filter (onAny ["undone"] m)).map (·.num))) (y : Dat) : ns.any (pI (fun u => isOpen d k u && hold ys true u y) es) = someYes ys (ys.filter (isOn "undone" m)) y := by
  have on : ∀ u, onAny ["undone"] m u = isOn "undone" m u := fun u => by
    unfold onAny isOn
    simp
  unfold someYes
  rw [Bool.eq_iff_iff, List.any_eq_true, List.any_eq_true]
  constructor
  · rintro ⟨x, hx, hh⟩
    obtain ⟨u, hu, rfl⟩ := List.mem_map.mp (pm.mem_iff.mp hx)
    obtain ⟨h1, h2⟩ := List.mem_filter.mp hu
    rw [pI_at h.bk _ h1, Bool.and_eq_true] at hh
    have ha : u.isDeed = false := on_act (ws := ["undone"]) (by decide) h2
    exact ⟨u, List.mem_filter.mpr ⟨h.all u h1 ha hh.1, by rw [← on]; exact h2⟩, hh.2⟩
  · rintro ⟨u, hu, hh⟩
    obtain ⟨h1, h2⟩ := List.mem_filter.mp hu
    obtain ⟨m1, m2, m3⟩ := h.mem u h1
    refine ⟨u.num, pm.mem_iff.mpr (List.mem_map.mpr ⟨u, List.mem_filter.mpr ⟨m1, by rw [on]; exact h2⟩, rfl⟩), ?_⟩
    rw [pI_at h.bk _ m1, m3, Bool.true_and]
    exact hh
abbrev sLIsYes : Stmt := topS 65
abbrev nLIsYes : List Str := ["_law_entries_here", "_law_act", "_law_d", "_law_k", "_law_thing_here", "_law_some"]
abbrev pLIsYes : List Str := ["_law_entries_here", "_law_act", "_law_d", "_law_k", "_law_thing_here"]
theorem scLIsYes : FnScope nLIsYes pLIsYes (defScope sLIsYes) := ⟨rfl, rfl, rfl, by decide +kernel, rfl, by decide +kernel, by decide +kernel⟩
abbrev sLIsNo : Stmt := topS 66
abbrev nLIsNo : List Str := ["_law_entries_here", "_law_act", "_law_d", "_law_k", "_law_thing_here", "_law_one"]
abbrev pLIsNo : List Str := ["_law_entries_here", "_law_act", "_law_d", "_law_k", "_law_thing_here"]
theorem scLIsNo : FnScope nLIsNo pLIsNo (defScope sLIsNo) := ⟨rfl, rfl, rfl, by decide +kernel, rfl, by decide +kernel, by decide +kernel⟩
def qLIsYes : Str := "_law_is_yes.<locals>.<lambda>"
section
variable {P : Program} {w : World} {K : PySem.W.Frag} {mg : Str → Option Value} {base : Heap} {T : List (Addr × Str)}
def spLIs2 (T : List (Addr × Str)) (b : Bool) (m : Nat) : Sp := fun vs H Q _ => ∃ (ed : Addr) (d k : Int) (n : Nat) (zs : List (Addr × En)) (ys : List En) (e : En) (v : V) (x : Dat), vs = [.ref ed, .int e.num, .int d, .int k, v] ∧ EdAt H ed n zs ∧ Oa n (ens zs) d k ys ∧ e ∈ ens zs ∧ e.isDeed = false ∧ tillN m e ∧ Da H v x ∧ Tabs T H ∧ ∀ H', ExtN H H' → Tabs T H' → Q (.bl (isOpen d k e && hold ys b e x)) H'
theorem undo_of {n : Nat} {es : List En} {d k : Int} {ys : List En} (h : Oa n es d k ys) {ns : List Int} {e : En} {m : Nat} (he : e ∈ es) (ht : tillN (m + 1) e) (pm : ns.Perm ((es.filter (onAny ["undone"] e.num)).map (·.num))) {y : Int} (hy : y ∈ ns) : ∃ u ∈ es, u.num = y ∧ u.isDeed = false ∧ tillN m u := by
  obtain ⟨u, hu, rfl⟩ := List.mem_map.mp (pm.mem_iff.mp hy)
  obtain ⟨h1, h2⟩ := List.mem_filter.mp hu
  have ha : u.isDeed = false := on_act (ws := ["undone"]) (by decide) h2
  refine ⟨u, h1, rfl, ha, ?_⟩
  have hok := h.bk.ok u h1
  unfold onAny at h2
  have hr := h.bk.rng u h1
  have he' := h.bk.rng e he
  unfold tillN at ht ⊢
  have hlt : e.num < u.num := by
    have h2' : isOn "undone" e.num u = true := by
      unfold isOn
      simpa using h2
    obtain ⟨a1, a2, a3⟩ := isOn_act hok (by decide) h2'
    have := hok.of_lt ha
    rw [← a3]
    exact this.1
  omega
theorem ok_LIsNo {f : Addr} {fd : FuncData} {k m : Nat} (F : Fun K "_law_is_no" "_law_is_no" sLIsNo f fd) (C_open : CallOk P w K mg base k "_law_open" nOpen spOpen) (C_head : CallOk P w K mg base k "_law_head" pLHead spLHead) (C_of : CallOk P w K mg base k "_law_of" pOf spOf) (C_yes : CallOk P w K mg base k "_law_is_yes" pLIsYes (spLIs2 T true m)) : FnOk P w K mg base CX0 (k + 1) f fd pLIsNo (spLIs2 T false (m + 1)) := by
  refine F.ok scLIsNo (fun vs H Q E h => ?_) (fun cdv A outer s H vs Q E hr h => ?_)
  · obtain ⟨ed, d, k, n, zs, ys, e, v, x, rfl, _⟩ := h
    rfl
  · obtain ⟨ed, d, kk, n, zs, ys, e, v, x, rfl, hE, hO, he, hea, ht, hd, hT, q⟩ := h
    have nd := scLIsNo.nd
    have hu := hu_of hr
    refine ⟨_, pss_cons (ps_if (PW.pt (pw_or (pt_not (pt_val (pe_call C_open.ok hr (by rfl) C_open.g C_open.kp C_open.b .nil pass0 (pa_cons (pe_dget hu (pv 0) (pv 1) (fun _ _ => rfl)) (pa_cons (pv 2) (pa_cons (pv 3) pa_nil)))))) (pw_or1 (pt_not (pt_val (pe_call C_head.ok hr (by rfl) C_head.g C_head.kp C_head.b .nil pass0 (pa_cons (pv 4) (pa_cons pe_str (pa_cons (pv 1) (pa_cons pe_int pa_nil)))))))))) (pss_one (ps_ret pe_bl)) pss_nil)
      (pss_one (ps_ret (pe_cmpR (op_neD hr.units) (pe_lc (own := [("_law_one", 5)]) (g := gName 5) (by rfl) nd (pi_list (pe_call C_of.ok hr (by rfl) C_of.g C_of.kp C_of.b .nil pass0 (pa_cons (pv 0) (pa_cons (pv 1) (pa_cons (pe_tup (pa_cons pe_str pa_nil)) pa_nil))))) (blkOk_by (own := [("_law_one", 5)]) (N := nLIsNo) (sc := defScope sLIsNo) (by decide +kernel)) (fun _ _ _ _ _ => (pg_name (i := 5) nd rfl (.inl rfl)))
          (fun _ _ _ _ _ => pts_one (pt_val (pe_call C_yes.ok hr (by rfl) C_yes.g C_yes.kp C_yes.b .nil pass0 (pa_cons (pv 0) (pa_cons (pv 5) (pa_cons (pv 2) (pa_cons (pv 3) (pa_cons (pe_ix (ix_tupK (K := K) (by rfl)) (pv 4) pe_int (fun _ _ => rfl)) pa_nil))))))))
          (fun _ _ _ _ _ => pe_int)) (pe_lst pa_nil) (nomark _)))), ?_⟩
    obtain ⟨z, hz, rfl⟩ := List.mem_map.mp he
    refine ⟨_, rfl, _, rfl, ed, _, rfl, hE.get hz, _, rfl, _, rfl, z.1, z.2, d, kk, rfl, hE.ent z hz, _, rfl, ?_⟩
    cases ho : isOpen d kk z.2 with
    | false =>
      rw [ho, Bool.false_and] at q
      exact iteT (iteT (q _ (ExtN.refl _) hT))
    | true =>
      have heo := hO.all z.2 he hea ho
      rw [ho, Bool.true_and, hold_no hO heo] at q
      refine iteF ?_
      refine ⟨_, rfl, _, rfl, v, x, 3, "no", z.2.num, rfl, hd, by decide, _, rfl, ?_⟩
      cases hh : headD x 3 "no" z.2.num with
      | false =>
        rw [hh, Bool.false_and] at q
        exact iteT (q _ (ExtN.refl _) hT)
      | true =>
        rw [hh, Bool.true_and] at q
        refine iteF ?_
        refine ⟨_, rfl, _, rfl, (by show 1 ≤ sizeLine; decide), fun t1 nt1 => ?_⟩
        have s1 := same_new nt1 (.tup [.str "undone"])
        have e1 : (upd H t1 (.tup [.str "undone"])) t1 = some (.tup [.str "undone"]) := upd_same
        generalize upd H t1 (.tup [.str "undone"]) = H1 at s1 e1
        refine ⟨ed, t1, z.2.num, ["undone"], n, zs, rfl, hE.same s1, e1, by decide, fun p ns H2 s2 np ep pm up => ?_⟩
        have s12 := s1.trans s2
        have hlen : ns.length ≤ 1000 := by
          rw [pm.length_eq, List.length_map]
          have a1 := List.length_filter_le (onAny ["undone"] z.2.num) (ens zs)
          rw [List.length_map] at a1
          have a2 := hE.len
          omega
        obtain ⟨a, xs, rfl, ea, hn⟩ := (hd.ext (.of s12)).nth hh
        obtain ⟨u2, hu2, hdu, _⟩ := hn 2 (by decide)
        refine ⟨p, rfl, ⟨_, SqL.of ep⟩, fun M1 nM1 => ?_⟩
        refine lc_extV T (walk_list (xs := ns.map V.int)) ns (pI (fun u => isOpen d kk u && hold ys true u (x.at 2)) (ens zs)) (fun _ => .int 1) (by rw [List.length_map]) hlen nM1 (hT.ext s12) (fun H' s => SqL.of (s _ _ ep fun _ z => nomatch z)) ?_ ?_
        · rintro i y x1 H3 H4 hy s3 T3 ⟨rfl, hx⟩ Q1 Q0 q1 q0
          rw [List.getElem?_map, hy] at hx
          injection hx with hx
          subst hx
          obtain ⟨u, hu1, rfl, hua, hut⟩ := undo_of hO he ht pm (List.mem_of_getElem? hy)
          rw [pI_at hO.bk _ hu1] at q1 q0
          refine ⟨rfl, _, rfl, _, rfl, _, rfl, _, rfl, _, rfl, a, _, _, _, rfl, rfl, SqT.of (s3 _ _ ea fun _ z => nomatch z), (atI_nat (j := 2) hu2), ed, d, kk, n, zs, ys, u, u2, x.at 2, rfl, (hE.same s12).extN s3, hO, hu1, hua, hut, hdu.ext s3, T3, fun H5 e5 T5 => ⟨_, rfl, ?_⟩⟩
          refine ite2 (fun c => ?_) (fun c => ?_)
          · exact q1 c _ e5 T5
          · exact q0 (Bool.eq_false_iff.mpr c) _ e5 T5
        intro H2' s2' T2' eM
        generalize hns : (ns.filter (pI (fun u => isOpen d kk u && hold ys true u (x.at 2)) (ens zs))).map (fun _ => (1 : Int)) = os
        have eM' : H2' M1 = some (.lst (os.map V.int)) := by rw [eM, ← hns, List.map_map]; rfl
        refine ⟨Nat.zero_le _, fun g ng => ?_⟩
        have s3 := same_new ng (.lst [])
        have eg : (upd H2' g (.lst [])) g = some (.lst []) := upd_same
        refine ⟨.list (os.map .int), .list (([] : List Int).map .int), .lst (SqL.of (s3 _ _ eM')) (dp_ints _), .lst (SqL.of eg) (dp_ints []), shaped_ints _, shaped_ints [], ?_⟩
        rw [eqv_ints, ← hns, any_ones]
        have hq := q _ (((ExtN.of s12).trans s2').trans (.of s3)) (T2'.ext s3)
        rw [← some_eq hO pm] at hq
        exact hq
theorem ok_LIsYes {f c tb : Addr} {fd : FuncData} {k m : Nat} (F : Fun K "_law_is_yes" "_law_is_yes" sLIsYes f fd) (hc : fd.code = .ref c) (TB : TabB base mg c tb) (hmT : (tb, qLIsYes) ∈ T) (hu : ∀ p ∈ T, p.1 = tb → p.2 = qLIsYes) (C_open : CallOk P w K mg base (k + 2) "_law_open" nOpen spOpen) (C_head : CallOk P w K mg base (k + 2) "_law_head" pLHead spLHead) (C_oof : CallOk P w K mg base (k + 2) "_law_open_of" pLOpenOf spLOpenOf) (C_each : CallOk P w K mg base (k + 2) "_law_each" pLEach (spLEach P w K mg base T k true)) (C_no : CallOk P w K mg base k "_law_is_no" pLIsNo (spLIs2 T false m)) : FnOk P w K mg base CX0 (k + 3) f fd pLIsYes (spLIs2 T true (m + 1)) := by
  refine okC F hc scLIsYes (fun vs H Q E h => ?_) (fun A outer s H vs Q E hr h => ?_)
  · obtain ⟨ed, d, k, n, zs, ys, e, v, x, rfl, _⟩ := h
    rfl
  · obtain ⟨ed, d, kk, n, zs, ys, e, v, x, rfl, hE, hO, he, hea, ht, hd, hT, q⟩ := h
    have nd := scLIsYes.nd
    have hu2 := hu_of hr
    refine ⟨_, pss_cons (ps_if (PW.pt (pw_or (pt_not (pt_val (pe_call C_open.ok hr (by rfl) C_open.g C_open.kp C_open.b .nil pass0 (pa_cons (pe_dget hu2 (pv 0) (pv 1) (fun _ _ => rfl)) (pa_cons (pv 2) (pa_cons (pv 3) pa_nil)))))) (pw_or1 (pt_not (pt_val (pe_call C_head.ok hr (by rfl) C_head.g C_head.kp C_head.b .nil pass0 (pa_cons (pv 4) (pa_cons pe_str (pa_cons (pv 1) (pa_cons pe_int pa_nil)))))))))) (pss_one (ps_ret pe_bl)) pss_nil)
      (pss_cons (ps_set (i := 5) nd rfl (.inl rfl) (pe_call C_oof.ok hr (by rfl) C_oof.g C_oof.kp C_oof.b .nil pass0 (pa_cons (pv 0) (pa_cons (pv 1) (pa_cons (pe_tup (pa_cons pe_str pa_nil)) (pa_cons (pv 2) (pa_cons (pv 3) pa_nil)))))))
      (pss_one (ps_ret (pe_callC3 (as := ["_law_one", "_law_part"]) C_each.ok hr (by rfl) C_each.g C_each.kp C_each.b (lamP_by (sc := defScope sLIsYes) (by decide +kernel)) (fun y h => rfl) (pa_cons (pv 5) (pa_cons (pe_ix ix_tup (pv 4) pe_int (fun _ _ => rfl)) (pa_cons (pe_lamF (T := T) (ps := ["_law_one", "_law_part"]) TB rfl hmT hu (lamP_by (sc := defScope sLIsYes) (by decide +kernel)) rfl) pa_nil))))))), ?_⟩
    obtain ⟨z, hz, rfl⟩ := List.mem_map.mp he
    refine ⟨_, rfl, _, rfl, ed, _, rfl, hE.get hz, _, rfl, _, rfl, z.1, z.2, d, kk, rfl, hE.ent z hz, _, rfl, ?_⟩
    cases ho : isOpen d kk z.2 with
    | false =>
      rw [ho, Bool.false_and] at q
      exact iteT (iteT (q _ (ExtN.refl _) hT))
    | true =>
      have heo := hO.all z.2 he hea ho
      rw [ho, Bool.true_and, hold_yes hO heo] at q
      refine iteF ?_
      refine ⟨_, rfl, _, rfl, v, x, 3, "yes", z.2.num, rfl, hd, by decide, _, rfl, ?_⟩
      cases hh : headD x 3 "yes" z.2.num with
      | false =>
        rw [hh, Bool.false_and] at q
        exact iteT (q _ (ExtN.refl _) hT)
      | true =>
        rw [hh, Bool.true_and] at q
        refine iteF ?_
        refine ⟨_, rfl, _, rfl, (by show 1 ≤ sizeLine; decide), fun t1 nt1 => ?_⟩
        have s1 := same_new nt1 (.tup [.str "undone"])
        have e1 : (upd H t1 (.tup [.str "undone"])) t1 = some (.tup [.str "undone"]) := upd_same
        generalize upd H t1 (.tup [.str "undone"]) = H1 at s1 e1
        refine ⟨_, rfl, _, rfl, ed, t1, z.2.num, d, kk, ["undone"], n, zs, ys, rfl, hE.same s1, e1, by decide, hO, fun p H2 s2 np ep => ?_⟩
        rw [openOf_one] at ep
        have s12 := s1.trans s2
        obtain ⟨a, xs, rfl, ea, hn⟩ := (hd.ext (.of s12)).nth hh
        obtain ⟨u2, hu2, hdu, _⟩ := hn 2 (by decide)
        refine ⟨_, rfl, _, rfl, a, _, _, _, rfl, rfl, SqT.of ea, (atI_nat (j := 2) hu2), hT.ext s12, fun fl c' pm ctv H3 e3 T3 hf hc' => ?_⟩
        intro H4 s4 C4
        generalize hus : ys.filter (isOn "undone" z.2.num) = us at ep q
        have hsub : ∀ u ∈ us, u ∈ ys ∧ tillN m u := fun u hu => by
          rw [← hus] at hu
          exact undo_till hO ht u hu
        have e24 := e3.trans (.of s4)
        have hl : LamOk P w K mg base T k fl (fun a b H' r => ∃ (u : En) (y : Dat), a = .int u.num ∧ u ∈ ys ∧ tillN m u ∧ EdAt H' ed n zs ∧ Da H' b y ∧ r = hold ys false u y) H4 := by
          refine lam_ok (caps := [(0, "_law_entries_here"), (2, "_law_d"), (3, "_law_k")]) (lamP_by (sc := defScope sLIsYes) (by decide +kernel)) (by decide) (s4 _ _ hf) (s4 _ _ hc') C4 (fun q hq => ?_) (fun _ _ _ _ _ _ _ => rfl)
            (fun A outer s H hr' => pe_call C_no.ok hr' (by rfl) C_no.g C_no.kp C_no.b .nil pass0 (pa_cons (pv 0) (pa_cons (pv 3) (pa_cons (pv 1) (pa_cons (pv 2) (pa_cons (pv 4) pa_nil)))))) (fun a b H' r hR H'' nf T'' Q q => ?_)
          · simp only [List.mem_cons, List.not_mem_nil, or_false] at hq
            rcases hq with rfl | rfl | rfl <;> exact ⟨rfl, by decide +kernel⟩
          · obtain ⟨u, y, rfl, hu1, hu2, hE', hd', rfl⟩ := hR
            obtain ⟨m1, m2, m3⟩ := hO.mem u hu1
            refine ⟨_, rfl, _, rfl, _, rfl, _, rfl, _, rfl, ed, d, kk, n, zs, ys, u, b, y, rfl, hE'.nf nf, hO, m1, m2, hu2, hd'.nf nf, T'', fun H4 e4 T4 => ?_⟩
            rw [m3, Bool.true_and]
            exact q H4 e4 T4
        refine ⟨p, fl, us.map (·.num), u2, x.at 2, _, fun mm y => ys.any fun u => decide (u.num = mm) && hold ys false u y, rfl, (show H4 p = some (seqI true (us.map (·.num))) from e24 _ _ ep (fun _ z => nomatch z)), ?_, hdu.ext e24, T3.ext s4, hl, fun r hr y u H' e' T' hd' _ => ?_, fun H' e' T' H5 b5 => ?_⟩
        · rw [List.length_map, ← hus]
          have h1 := List.length_filter_le (isOn "undone" z.2.num) ys
          have h2 := hO.len
          have h3 := hE.len
          rw [List.length_map] at h2
          omega
        · obtain ⟨u0, hu0, rfl⟩ := List.mem_map.mp hr
          obtain ⟨h1, h2⟩ := hsub u0 hu0
          refine ⟨u0, y, rfl, h1, h2, (hE.same s12).extN (e24.trans e'), hd', ?_⟩
          rw [Bool.eq_iff_iff, List.any_eq_true]
          constructor
          · rintro ⟨v0, hv, hv2⟩
            rw [Bool.and_eq_true] at hv2
            rw [← num_inj hO.bk (hO.mem v0 hv).1 (hO.mem u0 h1).1 (of_decide_eq_true hv2.1)]
            exact hv2.2
          · intro hv
            exact ⟨u0, h1, by rw [Bool.and_eq_true]; exact ⟨decide_eq_true rfl, hv⟩⟩
        · rw [nosD_whys hO fun u hu => (hsub u hu).1]
          exact q H5 (((ExtN.of s12).trans e3).trans (b5.ext s4 e')) (b5.tabs T')
end
end Deed

namespace Deed
open PySem PySem.Spec PyProof.Rows L2 LamX
theorem onAny_one (wd : Str) (m : Int) (u : En) : onAny [wd] m u = isOn wd m u := by
  unfold onAny isOn
  simp
theorem some_eqW {n : Nat} {es : List En} {d k : Int} {ys : List En} (h : Oa n es d k ys) {wd : Str} (hw : wd ≠ "deed") {ns : List Int} {m : Int} (pm : ns.Perm ((es.filter (onAny [wd] m)).map (·.num))) (y : Dat) : ns.any (pI (fun u => isOpen d k u && hold ys true u y) es) = someYes ys (ys.filter (isOn wd m)) y := by
  have hd : ("deed" : Str) ∉ [wd] := by
    simp only [List.mem_cons, List.not_mem_nil, or_false]
    exact fun z => hw z.symm
  unfold someYes
  rw [Bool.eq_iff_iff, List.any_eq_true, List.any_eq_true]
  constructor
  · rintro ⟨x, hx, hh⟩
    obtain ⟨u, hu, rfl⟩ := List.mem_map.mp (pm.mem_iff.mp hx)
    obtain ⟨h1, h2⟩ := List.mem_filter.mp hu
    rw [pI_at h.bk _ h1, Bool.and_eq_true] at hh
    have ha : u.isDeed = false := on_act hd h2
    exact ⟨u, List.mem_filter.mpr ⟨h.all u h1 ha hh.1, by rw [← onAny_one]; exact h2⟩, hh.2⟩
  · rintro ⟨u, hu, hh⟩
    obtain ⟨h1, h2⟩ := List.mem_filter.mp hu
    obtain ⟨m1, m2, m3⟩ := h.mem u h1
    refine ⟨u.num, pm.mem_iff.mpr (List.mem_map.mpr ⟨u, List.mem_filter.mpr ⟨m1, by rw [onAny_one]; exact h2⟩, rfl⟩), ?_⟩
    rw [pI_at h.bk _ m1, m3, Bool.true_and]
    exact hh
theorem act_of {n : Nat} {es : List En} (hB : BkOk n es) {wd : Str} (hw : wd ≠ "deed") {ns : List Int} {m : Int} (pm : ns.Perm ((es.filter (onAny [wd] m)).map (·.num))) {y : Int} (hy : y ∈ ns) : ∃ u ∈ es, u.num = y ∧ u.isDeed = false ∧ tillN 31 u := by
  have hd : ("deed" : Str) ∉ [wd] := by
    simp only [List.mem_cons, List.not_mem_nil, or_false]
    exact fun z => hw z.symm
  obtain ⟨u, hu, rfl⟩ := List.mem_map.mp (pm.mem_iff.mp hy)
  obtain ⟨h1, h2⟩ := List.mem_filter.mp hu
  have hr := hB.rng u h1
  refine ⟨u, h1, rfl, on_act hd h2, ?_⟩
  unfold tillN
  omega
abbrev sLBy : Stmt := topS 67
abbrev nLBy : List Str := ["_law_entries_here", "_law_deed_here", "_law_word", "_law_d", "_law_k", "_law_thing_here", "_law_one"]
abbrev pLBy : List Str := ["_law_entries_here", "_law_deed_here", "_law_word", "_law_d", "_law_k", "_law_thing_here"]
theorem scLBy : FnScope nLBy pLBy (defScope sLBy) := ⟨rfl, rfl, rfl, by decide +kernel, rfl, by decide +kernel, by decide +kernel⟩
abbrev sLIsWhy : Stmt := topS 68
abbrev nLIsWhy : List Str := ["_law_entries_here", "_law_words_here", "_law_deed_here", "_law_d", "_law_k", "_law_thing_here", "_law_word", "_law_rests", "_law_lost", "_law_against", "_law_some", "_law_rest"]
abbrev pLIsWhy : List Str := ["_law_entries_here", "_law_words_here", "_law_deed_here", "_law_d", "_law_k", "_law_thing_here"]
theorem scLIsWhy : FnScope nLIsWhy pLIsWhy (defScope sLIsWhy) := ⟨rfl, rfl, rfl, by decide +kernel, rfl, by decide +kernel, by decide +kernel⟩
def qLIsWhy : Str := "_law_is_why.<locals>.<lambda>"
section
variable {P : Program} {w : World} {K : PySem.W.Frag} {mg : Str → Option Value} {base : Heap} {T : List (Addr × Str)}
theorem lis2_never (b : Bool) {vs : List V} {H : Hp} {Q : V → Hp → Prop} {E : _} (h : spLIs2 T b 0 vs H Q E) : False := by
  obtain ⟨ed, d, k, n, zs, ys, e, v, x, rfl, _, hO, he, _, ht, _⟩ := h
  have := hO.bk.rng e he
  unfold tillN at ht
  omega
variable {fY fN fE : Addr} {dY dN dE : FuncData}
theorem lis2_all {c tb : Addr} {b0 : Nat} (DY : Df K mg "_law_is_yes" sLIsYes pLIsYes fY dY) (DN : Df K mg "_law_is_no" sLIsNo pLIsNo fN dN) (DE : Df K mg "_law_each" sLEach pLEach fE dE) (hc : dY.code = .ref c) (TB : TabB base mg c tb) (hmT : (tb, qLIsYes) ∈ T) (hu : ∀ p ∈ T, p.1 = tb → p.2 = qLIsYes)
    (C_open : CallOk P w K mg base b0 "_law_open" nOpen spOpen) (C_head : CallOk P w K mg base b0 "_law_head" pLHead spLHead) (C_of : CallOk P w K mg base b0 "_law_of" pOf spOf) (C_oof : CallOk P w K mg base b0 "_law_open_of" pLOpenOf spLOpenOf) (m_isinstance : mg "isinstance" = none) (m_tuple : mg "tuple" = none) (m_len : mg "len" = none) (m_zip : mg "zip" = none) :
    ∀ m : Nat, FnOk P w K mg base CX0 (3 * m + b0 + 3) fY dY pLIsYes (spLIs2 T true m) ∧ FnOk P w K mg base CX0 (3 * m + b0 + 3) fN dN pLIsNo (spLIs2 T false m)
  | 0 => ⟨DY.F.ok scLIsYes (fun _ _ _ _ h => (lis2_never _ h).elim) (fun _ _ _ _ _ _ _ _ _ h => (lis2_never _ h).elim), DN.F.ok scLIsNo (fun _ _ _ _ h => (lis2_never _ h).elim) (fun _ _ _ _ _ _ _ _ _ h => (lis2_never _ h).elim)⟩
  | m + 1 => by
    obtain ⟨hY, hN⟩ := lis2_all DY DN DE hc TB hmT hu C_open C_head C_of C_oof m_isinstance m_tuple m_len m_zip m
    refine ⟨(ok_LIsYes (k := 3 * m + b0 + 3) DY.F hc TB hmT hu (C_open.mono (by omega)) (C_head.mono (by omega)) (C_oof.mono (by omega)) (DE.call (ok_LEach true DE.F m_isinstance m_tuple m_len m_zip)) (DN.call hN)).mono (by omega), (ok_LIsNo (k := 3 * m + b0 + 3) DN.F (C_open.mono (by omega)) (C_head.mono (by omega)) (C_of.mono (by omega)) (DY.call hY)).mono (by omega)⟩
def spLBy (T : List (Addr × Str)) : Sp := fun vs H Q _ => ∃ (ed : Addr) (d k : Int) (n : Nat) (zs : List (Addr × En)) (ys : List En) (e : En) (wd : Str) (v : V) (x : Dat), vs = [.ref ed, .int e.num, .str wd, .int d, .int k, v] ∧ wd ≠ "deed" ∧ EdAt H ed n zs ∧ Oa n (ens zs) d k ys ∧ Da H v x ∧ Tabs T H ∧ ∀ H', ExtN H H' → Tabs T H' → Q (.bl (someYes ys (ys.filter (isOn wd e.num)) x)) H'
theorem ok_LBy {f : Addr} {fd : FuncData} {k : Nat} (F : Fun K "_law_by" "_law_by" sLBy f fd) (C_of : CallOk P w K mg base k "_law_of" pOf spOf) (C_yes : CallOk P w K mg base k "_law_is_yes" pLIsYes (spLIs2 T true 31)) : FnOk P w K mg base CX0 (k + 1) f fd pLBy (spLBy T) := by
  refine F.ok scLBy (fun vs H Q E h => ?_) (fun cdv A outer s H vs Q E hr h => ?_)
  · obtain ⟨ed, d, k, n, zs, ys, e, wd, v, x, rfl, _⟩ := h
    rfl
  · obtain ⟨ed, d, kk, n, zs, ys, e, wd, v, x, rfl, hw, hE, hO, hd, hT, q⟩ := h
    have nd := scLBy.nd
    refine ⟨_, pss_one (ps_ret (pe_cmpR (op_neD hr.units) (pe_lc (own := [("_law_one", 6)]) (g := gName 6) (by rfl) nd (pi_list (pe_call C_of.ok hr (by rfl) C_of.g C_of.kp C_of.b .nil pass0 (pa_cons (pv 0) (pa_cons (pv 1) (pa_cons (pe_tup (pa_cons (pv 2) pa_nil)) pa_nil))))) (blkOk_by (own := [("_law_one", 6)]) (N := nLBy) (sc := defScope sLBy) (by decide +kernel)) (fun _ _ _ _ _ => (pg_name (i := 6) nd rfl (.inl rfl)))
          (fun _ _ _ _ _ => pts_one (pt_val (pe_call C_yes.ok hr (by rfl) C_yes.g C_yes.kp C_yes.b .nil pass0 (pa_cons (pv 0) (pa_cons (pv 6) (pa_cons (pv 3) (pa_cons (pv 4) (pa_cons (pv 5) pa_nil))))))))
          (fun _ _ _ _ _ => pe_int)) (pe_lst pa_nil) (nomark _))), ?_⟩
    refine ⟨_, rfl, _, rfl, _, rfl, (by show 1 ≤ sizeLine; decide), fun t1 nt1 => ?_⟩
    have s1 := same_new nt1 (.tup [.str wd])
    have e1 : (upd H t1 (.tup [.str wd])) t1 = some (.tup [.str wd]) := upd_same
    generalize upd H t1 (.tup [.str wd]) = H1 at s1 e1
    have hd0 : ("deed" : Str) ∉ [wd] := by
      simp only [List.mem_cons, List.not_mem_nil, or_false]
      exact fun z => hw z.symm
    refine ⟨ed, t1, e.num, [wd], n, zs, rfl, hE.same s1, e1, hd0, fun p ns H2 s2 np ep pm up => ?_⟩
    have s12 := s1.trans s2
    have hlen : ns.length ≤ 1000 := by
      rw [pm.length_eq, List.length_map]
      have a1 := List.length_filter_le (onAny [wd] e.num) (ens zs)
      rw [List.length_map] at a1
      have a2 := hE.len
      omega
    refine ⟨p, rfl, ⟨_, SqL.of ep⟩, fun M1 nM1 => ?_⟩
    refine lc_extV T (walk_list (xs := ns.map V.int)) ns (pI (fun u => isOpen d kk u && hold ys true u x) (ens zs)) (fun _ => .int 1) (by rw [List.length_map]) hlen nM1 (hT.ext s12) (fun H' s => SqL.of (s _ _ ep fun _ z => nomatch z)) ?_ ?_
    · rintro i y x1 H3 H4 hy s3 T3 ⟨rfl, hx⟩ Q1 Q0 q1 q0
      rw [List.getElem?_map, hy] at hx
      injection hx with hx
      subst hx
      obtain ⟨u, hu1, rfl, hua, hut⟩ := act_of hO.bk hw pm (List.mem_of_getElem? hy)
      rw [pI_at hO.bk _ hu1] at q1 q0
      refine ⟨rfl, _, rfl, _, rfl, _, rfl, _, rfl, _, rfl, ed, d, kk, n, zs, ys, u, v, x, rfl, (hE.same s12).extN s3, hO, hu1, hua, hut, hd.ext ((ExtN.of s12).trans s3), T3, fun H5 e5 T5 => ⟨_, rfl, ?_⟩⟩
      refine ite2 (fun c => ?_) (fun c => ?_)
      · exact q1 c _ e5 T5
      · exact q0 (Bool.eq_false_iff.mpr c) _ e5 T5
    intro H2' s2' T2' eM
    generalize hns : (ns.filter (pI (fun u => isOpen d kk u && hold ys true u x) (ens zs))).map (fun _ => (1 : Int)) = os
    have eM' : H2' M1 = some (.lst (os.map V.int)) := by rw [eM, ← hns, List.map_map]; rfl
    refine ⟨Nat.zero_le _, fun g ng => ?_⟩
    have s3 := same_new ng (.lst [])
    have eg : (upd H2' g (.lst [])) g = some (.lst []) := upd_same
    refine ⟨.list (os.map .int), .list (([] : List Int).map .int), .lst (SqL.of (s3 _ _ eM')) (dp_ints _), .lst (SqL.of eg) (dp_ints []), shaped_ints _, shaped_ints [], ?_⟩
    rw [eqv_ints, ← hns, any_ones]
    have hq := q _ (((ExtN.of s12).trans s2').trans (.of s3)) (T2'.ext s3)
    rw [← some_eqW hO hw pm] at hq
    exact hq
end
end Deed

namespace Deed
open PySem PySem.Spec PyProof.Rows L2 LamX
theorem openOf_both (ys : List En) (e : En) : openOf ys ["void", "paid"] e.num = both ys e := by
  unfold openOf both
  refine List.filter_congr fun u _ => ?_
  unfold onAny isOn
  by_cases h1 : u.word = "void"
  · simp [h1]
  · by_cases h2 : u.word = "paid"
    · simp [h2]
    · simp [h1, h2]
section
variable (es ys : List En) (d k : Int) (p : Int → Dat → Bool) (e : En) (x : Dat)
theorem whyB_un : whyB es ys d k p "unknown" e x = headD x 2 "unknown" e.num := (Bool.and_true _ : (headD x 2 "unknown" e.num && true) = headD x 2 "unknown" e.num)
theorem whyB_ah : whyB es ys d k p "ahead" e x = headD x 2 "ahead" e.num := (Bool.and_true _ : (headD x 2 "ahead" e.num && true) = headD x 2 "ahead" e.num)
theorem whyB_vo : whyB es ys d k p "void" e x = (headD x 3 "void" e.num && someYes ys (voids ys e) (x.at 2)) := rfl
theorem whyB_fa : whyB es ys d k p "fallen" e x = (headD x 3 "fallen" e.num && (e.rests.filter (restLost es d k)).any fun r => p r (x.at 2)) := rfl
theorem whyB_pa : whyB es ys d k p "paid" e x = (headD x 5 "paid" e.num && (nosD ys (voids ys e) (x.at 2) && (whysD p e.rests (x.at 3) && someYes ys (paids ys e) (x.at 4)))) := rfl
theorem whyB_st : whyB es ys d k p "stands" e x = (headD x 4 "stands" e.num && (nosD ys (both ys e) (x.at 2) && whysD p e.rests (x.at 3))) := rfl
end
theorem nt_t {b : Bool} (h : (!b) = true) : b = false := by cases b <;> first | rfl | cases h
theorem nt_f {b : Bool} (h : ¬ (!b) = true) : b = true := by cases b <;> first | rfl | exact absurd rfl h
theorem rd_kp {H H' : Hp} {a : Addr} {u : HO} (h : Rd H a u) (e : ∀ o, H a = some o → (o = u ∨ ∃ x, o = .frz x u) → H' a = some o) : Rd H' a u := by
  rcases h with h | ⟨o, h⟩
  · exact .inl (e _ h (.inl rfl))
  · exact .inr ⟨o, e _ h (.inr ⟨o, rfl⟩)⟩
def WordR (H : Hp) (wd : Addr) (es : List En) (d k : Int) : Prop := ∃ zs ys : List (Addr × En), ens zs = es ∧ DeedsUp zs ys ∧ Rd H wd (.dK (wdE es d k (ens ys)))
theorem WordR.get {H : Hp} {wd : Addr} {es : List En} {d k : Int} (h : WordR H wd es d k) {u : En} (hu : u ∈ es) (hd : u.isDeed = true) : DGet H wd (.int u.num) (some (.str (st es d k u))) := by
  obtain ⟨zs, ys, rfl, hD, e⟩ := h
  obtain ⟨v, hv, rfl⟩ := List.mem_map.mp ((hD.2.1 u).mpr ⟨hu, hd⟩)
  have h4 : DGet H wd (kV (Sum.inl v.2.num)) (valV (wdE (ens zs) d k (ens ys)) (Sum.inl v.2.num)) := .inl ⟨_, Sum.inl v.2.num, e, rfl, rfl⟩
  have hnd := hD.nodup
  rw [show (ens ys).map (·.num) = ys.map (fun z => z.2.num) by simp [ens, List.map_map, Function.comp_def]] at hnd
  have hv1 := valV_map (f := fun z : Addr × En => z.2.num) (g := fun z : Addr × En => V.str (st (ens zs) d k z.2)) hnd hv
  rw [show wdE (ens zs) d k (ens ys) = ys.map (fun z : Addr × En => ((Sum.inl z.2.num : Key), V.str (st (ens zs) d k z.2))) by simp [wdE, ens, List.map_map, Function.comp_def], hv1] at h4
  exact h4
theorem WordR.ext {H H' : Hp} {wd : Addr} {es : List En} {d k : Int} (h : WordR H wd es d k) (s : Same H H') : WordR H' wd es d k := by
  obtain ⟨zs, ys, h1, h2, h3⟩ := h
  exact ⟨zs, ys, h1, h2, rd_kp h3 fun o e _ => s _ _ e⟩
theorem WordR.extN {H H' : Hp} {wd : Addr} {es : List En} {d k : Int} (h : WordR H wd es d k) (s : ExtN H H') : WordR H' wd es d k := by
  obtain ⟨zs, ys, h1, h2, h3⟩ := h
  refine ⟨zs, ys, h1, h2, rd_kp h3 fun o e c => s _ _ e fun _ z => ?_⟩
  rcases c with rfl | ⟨x, rfl⟩ <;> cases z
theorem WordR.nf {H H' : Hp} {wd : Addr} {es : List En} {d k : Int} (h : WordR H wd es d k) (s : NF H H') : WordR H' wd es d k := by
  obtain ⟨zs, ys, h1, h2, h3⟩ := h
  refine ⟨zs, ys, h1, h2, rd_kp h3 fun o e c => s _ _ e fun x z => ?_⟩
  rcases c with rfl | ⟨y, rfl⟩
  · exact fz_dK z
  · exact fz_frK z
section
variable {P : Program} {w : World} {K : PySem.W.Frag} {mg : Str → Option Value} {base : Heap} {T : List (Addr × Str)}
def spLIsWhy (T : List (Addr × Str)) (f : Nat) : Sp := fun vs H Q _ => ∃ (ed wd : Addr) (r d k : Int) (n : Nat) (zs : List (Addr × En)) (ys : List En) (v : V) (x : Dat), vs = [.ref ed, .ref wd, .int r, .int d, .int k, v] ∧ EdAt H ed n zs ∧ WordR H wd (ens zs) d k ∧ Oa n (ens zs) d k ys ∧ lessN (ens zs) f r ∧ Da H v x ∧ Tabs T H ∧ ∀ H', ExtN H H' → Tabs T H' → Q (.bl (whyH (ens zs) ys d k r x)) H'
theorem ok_LIsWhy {f c tb : Addr} {fd : FuncData} {k m : Nat} (F : Fun K "_law_is_why" "_law_is_why" sLIsWhy f fd) (hc : fd.code = .ref c) (TB : TabB base mg c tb) (hmT : (tb, qLIsWhy) ∈ T) (hu0 : ∀ p ∈ T, p.1 = tb → p.2 = qLIsWhy) (C_head : CallOk P w K mg base (k + 2) "_law_head" pLHead spLHead) (C_by : CallOk P w K mg base (k + 2) "_law_by" pLBy (spLBy T)) (C_oof : CallOk P w K mg base (k + 2) "_law_open_of" pLOpenOf spLOpenOf) (C_eachL : CallOk P w K mg base (k + 2) "_law_each" pLEach (spLEach P w K mg base T k true)) (C_eachT : CallOk P w K mg base (k + 2) "_law_each" pLEach (spLEach P w K mg base T k false)) (C_no : CallOk P w K mg base k "_law_is_no" pLIsNo (spLIs2 T false 31)) (C_why : CallOk P w K mg base k "_law_is_why" pLIsWhy (spLIsWhy T m)) (m_int : mg "int" = none) : FnOk P w K mg base CX0 (k + 3) f fd pLIsWhy (spLIsWhy T (m + 1)) := by
  have C_why2 : CallOk P w K mg base (k + 2) "_law_is_why" pLIsWhy (spLIsWhy T m) := C_why.mono (by omega)
  refine okC F hc scLIsWhy (fun vs H Q E h => ?_) (fun A outer s H vs Q E hr h => ?_)
  · obtain ⟨ed, wd, r, d, k, n, zs, ys, v, x, rfl, _⟩ := h
    rfl
  · obtain ⟨ed, wd, r, d, kk, n, zs, ys, v, x, rfl, hE, hW, hO, ⟨e, he, hed, rfl, hlt⟩, hd, hT, q⟩ := h
    have nd := scLIsWhy.nd
    have hu := hu_of hr
    have hB := hO.bk
    have hyl : ys.length ≤ 16 := by
      have h2 := hO.len
      have h3 := hE.len
      rw [List.length_map] at h2
      omega
    have hsl : ∀ p : En → Bool, (ys.filter p).length ≤ 1000 := fun p => Nat.le_trans (List.length_filter_le p ys) (by omega)
    have hrl := rests_len hB he
    have hls : ∀ r ∈ e.rests, lessN (ens zs) m r := fun r hr => by
      obtain ⟨u, hu, hud, hun, hl⟩ := rest_deed hB he hr
      have := hB.rng u hu
      exact ⟨u, hu, hud, hun, by omega⟩
    obtain ⟨z, hz, rfl⟩ := List.mem_map.mp he
    refine ⟨_, pss_cons (ps_par (i := 6) (j := 7) (by rfl) nd rfl rfl (by decide) rfl rfl (pa_cons (pe_dget hu (pv 1) (pv 2) (fun _ _ => rfl)) (pa_cons (pe_ix ix_tup (pe_dget hu (pv 0) (pv 2) (fun _ _ => rfl)) pe_int (fun _ _ => rfl)) pa_nil)) (by rfl))
      (pss_cons (ps_if (pt_cmpR op_in_seq (pv 6) (pe_tup (pa_cons pe_str (pa_cons pe_str pa_nil))) (by rfl)) (pss_one (ps_ret (pe_call C_head.ok hr (by rfl) C_head.g C_head.kp C_head.b .nil pass0 (pa_cons (pv 5) (pa_cons (pv 6) (pa_cons (pv 2) (pa_cons pe_int pa_nil))))))) pss_nil)
      (pss_cons (ps_if (pt_cmpR op_eq (pv 6) pe_str (nomark _)) (pss_one (ps_ret (pe_and (pe_call C_head.ok hr (by rfl) C_head.g C_head.kp C_head.b .nil pass0 (pa_cons (pv 5) (pa_cons (pv 6) (pa_cons (pv 2) (pa_cons pe_int pa_nil))))) (pe_one (pe_call C_by.ok hr (by rfl) C_by.g C_by.kp C_by.b .nil pass0 (pa_cons (pv 0) (pa_cons (pv 2) (pa_cons pe_str (pa_cons (pv 3) (pa_cons (pv 4) (pa_cons (pe_ix ix_tup (pv 5) pe_int (fun _ _ => rfl)) pa_nil))))))))))) pss_nil)
      (pss_cons (ps_if (pt_cmpR op_eq (pv 6) pe_str (nomark _)) (pss_cons (ps_setLc (i := 8) (own := [("_law_rest", 11)]) (g := gName 11) (by rfl) nd rfl rfl (sw_true rfl rfl rfl (by decide +kernel)) (pi_tup (pv 7)) (blkOk_by (own := [("_law_rest", 11)]) (N := nLIsWhy) (sc := defScope sLIsWhy) (by decide +kernel)) (fun _ _ _ _ _ => (pg_name (i := 11) nd rfl (.inl rfl))) (fun _ _ _ _ _ => (pts_one (pt_cmpR (notIn_seqK (K := K) (by rfl)) (pe_dget hu (pv 1) (pv 11) (fun _ _ => rfl)) (pe_tup (pa_cons pe_str (pa_cons pe_str pa_nil))) (by rfl))))
          (fun _ _ _ _ _ => (pv 11)))
        (pss_cons (ps_if (pt_not (pt_val (pe_call C_head.ok hr (by rfl) C_head.g C_head.kp C_head.b .nil pass0 (pa_cons (pv 5) (pa_cons (pv 6) (pa_cons (pv 2) (pa_cons pe_int pa_nil))))))) (pss_one (ps_ret pe_bl)) pss_nil)
        (pss_one (ps_ret (pe_cmpR (op_neD hr.units) (pe_lc (own := [("_law_rest", 11)]) (g := gName 11) (by rfl) nd (pi_list (pv 8)) (blkOk_by (own := [("_law_rest", 11)]) (N := nLIsWhy) (sc := defScope sLIsWhy) (by decide +kernel)) (fun _ _ _ _ _ => (pg_name (i := 11) nd rfl (.inl rfl))) (fun _ _ _ _ _ => pts_one (pt_val (pe_call C_why2.ok hr (by rfl) C_why2.g C_why2.kp C_why2.b .nil pass0 (pa_cons (pv 0) (pa_cons (pv 1) (pa_cons (pv 11) (pa_cons (pv 3) (pa_cons (pv 4) (pa_cons (pe_ix (ix_tupK (K := K) (by rfl)) (pv 5) pe_int (fun _ _ => rfl)) pa_nil)))))))))
          (fun _ _ _ _ _ => pe_int)) (pe_lst pa_nil) (nomark _)))))) pss_nil)
      (pss_cons (ps_if (pt_not (pt_val (pe_call C_head.ok hr (by rfl) C_head.g C_head.kp C_head.b .nil pass0 (pa_cons (pv 5) (pa_cons (pv 6) (pa_cons (pv 2) (pa_cons (pe_op op_add pe_int (pe_callTy call_int1 (by rfl) m_int (by decide +kernel) (pa_cons (pe_cmpR op_eq (pv 6) pe_str (nomark _)) pa_nil))) pa_nil))))))) (pss_one (ps_ret pe_bl)) pss_nil)
      (pss_cons (ps_if (PW.pt (pw_and (pt_cmpR op_eq (pv 6) pe_str (nomark _)) (pw_and1 (pt_not (pt_val (pe_call C_by.ok hr (by rfl) C_by.g C_by.kp C_by.b .nil pass0 (pa_cons (pv 0) (pa_cons (pv 2) (pa_cons pe_str (pa_cons (pv 3) (pa_cons (pv 4) (pa_cons (pe_ix ix_tup (pv 5) pe_int (fun _ _ => rfl)) pa_nil)))))))))))) (pss_one (ps_ret pe_bl)) pss_nil)
      (pss_cons (ps_set (i := 9) nd rfl (.inl rfl) (pe_ix ix_list (pe_lst (pa_cons (pe_tup (pa_cons pe_str pa_nil)) (pa_cons (pe_tup (pa_cons pe_str (pa_cons pe_str pa_nil))) pa_nil))) (pe_callTy call_int1 (by rfl) m_int (by decide +kernel) (pa_cons (pe_cmpR op_eq (pv 6) pe_str (nomark _)) pa_nil)) (fun _ _ => rfl)))
      (pss_cons (ps_set (i := 10) nd rfl (.inl rfl) (pe_call C_oof.ok hr (by rfl) C_oof.g C_oof.kp C_oof.b .nil pass0 (pa_cons (pv 0) (pa_cons (pv 2) (pa_cons (pv 9) (pa_cons (pv 3) (pa_cons (pv 4) pa_nil)))))))
      (pss_cons (ps_if (pt_not (pt_val (pe_callC3 (as := ["_law_one", "_law_part"]) C_eachL.ok hr (by rfl) C_eachL.g C_eachL.kp C_eachL.b (lamP_by (sc := defScope sLIsWhy) (by decide +kernel)) (fun y h => rfl) (pa_cons (pv 10) (pa_cons (pe_ix ix_tup (pv 5) pe_int (fun _ _ => rfl)) (pa_cons (pe_lamF (T := T) (ps := ["_law_one", "_law_part"]) TB rfl hmT hu0 (lamP_by (sc := defScope sLIsWhy) (by decide +kernel)) rfl) pa_nil)))))) (pss_one (ps_ret pe_bl)) pss_nil)
      (pss_one (ps_ret (pe_callC3 (as := ["_law_rest", "_law_part"]) C_eachT.ok hr (by rfl) C_eachT.g C_eachT.kp C_eachT.b (lamP_by (sc := defScope sLIsWhy) (by decide +kernel)) (fun y h => rfl) (pa_cons (pv 7) (pa_cons (pe_ix ix_tup (pv 5) pe_int (fun _ _ => rfl)) (pa_cons (pe_lamF (T := T) (ps := ["_law_rest", "_law_part"]) TB rfl hmT hu0 (lamP_by (sc := defScope sLIsWhy) (by decide +kernel)) rfl) pa_nil)))))))))))))), ?_⟩
    obtain ⟨xs2, ar, ex2, g7, er⟩ := (hE.ent z hz).seven hed
    refine ⟨_, rfl, _, rfl, wd, _, rfl, hW.get he hed, _, rfl, _, rfl, ed, _, rfl, hE.get hz, z.1, _, _, _, rfl, rfl, SqT.of ex2, g7, _, _, rfl, ?_⟩
    rw [whyH_eq hB ys d kk he hed] at q
    refine ⟨_, rfl, (by show 2 ≤ sizeLine; decide), fun t1 nt1 => ?_⟩
    have s1 := same_new nt1 (.tup [.str "unknown", .str "ahead"])
    have e1 : (upd H t1 (.tup [.str "unknown", .str "ahead"])) t1 = some (.tup [.str "unknown", .str "ahead"]) := upd_same
    generalize upd H t1 (.tup [.str "unknown", .str "ahead"]) = H1 at s1 e1
    refine ⟨t1, _, rfl, .inr (SqT.of e1), rfl, flat_strs ["unknown", "ahead"], _, rfl, ?_⟩
    rw [show inV (.str (st (ens zs) d kk z.2)) [.str "unknown", .str "ahead"] = decide (st (ens zs) d kk z.2 ∈ (["unknown", "ahead"] : List Str)) from mem_inS (ws := ["unknown", "ahead"])]
    have hE1 := hE.same s1
    have hd1 := hd.ext (.of s1)
    have T1 := hT.ext s1
    rcases st_cases hB d kk he with ⟨h1, h2⟩ | ⟨h1, h2⟩ | ⟨h1, h2⟩ | ⟨h1, h2, h3⟩ | ⟨h1, h2, h3, h4⟩ | ⟨h1, h2, h3, h4⟩
    · rw [h1] at q ⊢
      rw [whyB_un] at q
      refine iteT ?_
      exact ⟨_, rfl, _, rfl, _, rfl, v, x, 2, "unknown", z.2.num, rfl, hd1, by decide, q _ (.of s1) T1⟩
    · rw [h1] at q ⊢
      rw [whyB_ah] at q
      refine iteT ?_
      exact ⟨_, rfl, _, rfl, _, rfl, v, x, 2, "ahead", z.2.num, rfl, hd1, by decide, q _ (.of s1) T1⟩
    · rw [h1] at q ⊢
      rw [whyB_vo] at q
      refine iteF ?_
      refine ⟨_, rfl, rfl, _, rfl, ?_⟩
      refine iteT ?_
      refine ⟨_, rfl, _, rfl, _, rfl, v, x, 3, "void", z.2.num, rfl, hd1, by decide, _, rfl, ?_⟩
      refine ite2 (fun hh => ?_) (fun c => ?_)
      · rw [hh, Bool.true_and] at q
        obtain ⟨a, xs, rfl, ea, hn⟩ := hd1.nth hh
        obtain ⟨p2, hp2, hdp2, _⟩ := hn 2 (by decide)
        exact ⟨_, rfl, _, rfl, _, rfl, _, rfl, _, rfl, a, _, _, _, rfl, rfl, SqT.of ea, (atI_nat (j := 2) hp2), ed, d, kk, n, zs, ys, z.2, "void", p2, x.at 2, rfl, by decide, hE1, hO, hdp2, T1, fun H' e' T' => q H' ((ExtN.of s1).trans e') T'⟩
      · rw [Bool.eq_false_iff.mpr c, Bool.false_and] at q
        exact q _ (.of s1) T1
    · rw [h1] at q ⊢
      rw [whyB_fa] at q
      refine iteF ?_
      refine ⟨_, rfl, rfl, _, rfl, ?_⟩
      refine iteF ?_
      refine ⟨_, rfl, rfl, _, rfl, ?_⟩
      refine iteT ?_
      have er1 := s1 _ _ er
      refine ⟨_, rfl, ar, rfl, ⟨_, SqT.of er1⟩, fun M1 nM1 => ?_⟩
      refine lc_sameV (walk_tup (xs := z.2.rests.map V.int)) z.2.rests (restLost (ens zs) d kk) V.int (by rw [List.length_map]) hrl nM1 (fun H s => SqT.of (s _ _ er1)) ?_ ?_
      · rintro i y x1 H3 H4 hy s3 ⟨rfl, hx⟩ Q1 Q0 q1 q0
        rw [List.getElem?_map, hy] at hx
        injection hx with hx
        subst hx
        obtain ⟨u1, hu1, hud1, hun1, _⟩ := rest_deed hB he (List.mem_of_getElem? hy)
        have hg1 := (hW.ext (s1.trans s3)).get hu1 hud1
        rw [hun1] at hg1
        have hl5 : restLost (ens zs) d kk y = !carries (st (ens zs) d kk u1) := by rw [← hun1]; exact restLost_at hB d kk hu1 hud1
        refine ⟨rfl, _, rfl, _, rfl, wd, _, rfl, hg1, (by show 2 ≤ sizeLine; decide), fun t5 nt5 => ?_⟩
        have s5 := same_new nt5 (.tup [.str "stands", .str "paid"])
        refine ⟨t5, _, rfl, .inr (SqT.of upd_same), rfl, flat_strs ["stands", "paid"], _, rfl, ?_⟩
        have hin : inV (.str (st (ens zs) d kk u1)) [.str "stands", .str "paid"] = carries (st (ens zs) d kk u1) := mem_inS (ws := ["stands", "paid"])
        rw [hin]
        refine ite2 (fun c => ?_) (fun c => ?_)
        · exact ⟨_, rfl, q1 (by rw [hl5]; exact c) _ s5⟩
        · exact q0 (by rw [hl5]; simpa using c) _ s5
      intro H3 s3 eM
      generalize hls2 : z.2.rests.filter (restLost (ens zs) d kk) = ls at eM q
      have s13 := s1.trans s3
      have hd3 := hd.ext (.of s13)
      refine ⟨_, rfl, _, rfl, _, rfl, v, x, 3, "fallen", z.2.num, rfl, hd3, by decide, _, rfl, ?_⟩
      cases hh : headD x 3 "fallen" z.2.num with
      | false =>
        rw [hh, Bool.false_and] at q
        exact iteT (q _ (.of s13) (hT.ext s13))
      | true =>
        rw [hh, Bool.true_and] at q
        refine iteF ?_
        obtain ⟨a, xs, rfl, ea, hn⟩ := hd3.nth hh
        obtain ⟨p2, hp2, hdp2, _⟩ := hn 2 (by decide)
        have hll : ls.length ≤ 1000 := by rw [← hls2]; exact Nat.le_trans (List.length_filter_le _ _) hrl
        refine ⟨_, rfl, M1, rfl, ⟨_, SqL.of eM⟩, fun M2 nM2 => ?_⟩
        refine lc_extV T (walk_list (xs := ls.map V.int)) ls (fun r => whyH (ens zs) ys d kk r (x.at 2)) (fun _ => .int 1) (by rw [List.length_map]) hll nM2 (hT.ext s13) (fun H' s => SqL.of (s _ _ eM fun _ z => nomatch z)) ?_ ?_
        · rintro i y x1 H3' H4 hy s5 T5 ⟨rfl, hx⟩ Q1 Q0 q1 q0
          rw [List.getElem?_map, hy] at hx
          injection hx with hx
          subst hx
          have hyr : y ∈ z.2.rests := by
            have := List.mem_of_getElem? hy
            rw [← hls2] at this
            exact (List.mem_filter.mp this).1
          refine ⟨rfl, _, rfl, _, rfl, _, rfl, _, rfl, _, rfl, _, rfl, a, _, _, _, rfl, rfl, SqT.of (s5 _ _ ea fun _ z => nomatch z), (atI_nat (j := 2) hp2), ed, wd, y, d, kk, n, zs, ys, p2, x.at 2, rfl, (hE.same s13).extN s5, (hW.ext s13).extN s5, hO, hls y hyr, hdp2.ext s5, T5, fun H6 e6 T6 => ⟨_, rfl, ?_⟩⟩
          refine ite2 (fun c => ?_) (fun c => ?_)
          · exact q1 c _ e6 T6
          · exact q0 (Bool.eq_false_iff.mpr c) _ e6 T6
        intro H2' s2' T2' eM2
        generalize hns : (ls.filter (fun r => whyH (ens zs) ys d kk r (x.at 2))).map (fun _ => (1 : Int)) = os
        have eM' : H2' M2 = some (.lst (os.map V.int)) := by rw [eM2, ← hns, List.map_map]; rfl
        refine ⟨Nat.zero_le _, fun g ng => ?_⟩
        have s4 := same_new ng (.lst [])
        have eg : (upd H2' g (.lst [])) g = some (.lst []) := upd_same
        refine ⟨.list (os.map .int), .list (([] : List Int).map .int), .lst (SqL.of (s4 _ _ eM')) (dp_ints _), .lst (SqL.of eg) (dp_ints []), shaped_ints _, shaped_ints [], ?_⟩
        rw [eqv_ints, ← hns, any_ones]
        exact q _ (((ExtN.of s13).trans s2').trans (.of s4)) (T2'.ext s4)
    · rw [h1] at q ⊢
      rw [whyB_pa] at q
      refine iteF ?_
      refine ⟨_, rfl, rfl, _, rfl, ?_⟩
      refine iteF ?_
      refine ⟨_, rfl, rfl, _, rfl, ?_⟩
      refine iteF ?_
      refine ⟨_, rfl, _, rfl, _, rfl, _, rfl, rfl, .inr ⟨_, rfl, _, _, rfl, rfl, v, x, 5, "paid", z.2.num, rfl, hd1, by decide, _, rfl, ?_⟩⟩
      cases hh : headD x 5 "paid" z.2.num with
      | false =>
        rw [hh, Bool.false_and] at q
        exact iteT (q _ (.of s1) T1)
      | true =>
      rw [hh, Bool.true_and] at q
      refine iteF ?_
      refine ⟨_, rfl, rfl, _, rfl, ?_⟩
      refine iteT ?_
      obtain ⟨a4, xs4, hv4, ea4, hn4⟩ := hd1.nth hh
      obtain ⟨p4, hp4, hdp4, _⟩ := hn4 4 (by decide)
      refine ⟨_, rfl, _, rfl, _, rfl, _, rfl, _, (by rw [hv4]; rfl), a4, _, _, _, rfl, rfl, SqT.of ea4, (atI_nat (j := 4) hp4), ed, d, kk, n, zs, ys, z.2, "paid", p4, x.at 4, rfl, by decide, hE1, hO, hdp4, T1, fun HB eB1 THB => ⟨_, rfl, ?_⟩⟩
      have eHB : ExtN H HB := (ExtN.of s1).trans eB1
      refine ite2 (fun cs => ?_) (fun cs => ?_)
      · have hsy : someYes ys (paids ys z.2) (x.at 4) = false := nt_t cs
        rw [hsy] at q
        simp only [Bool.and_false] at q
        exact q _ eHB THB
      have hsy : someYes ys (paids ys z.2) (x.at 4) = true := nt_f cs
      rw [hsy] at q
      simp only [Bool.and_true] at q
      rw [show voids ys z.2 = ys.filter (isOn "void" z.2.num) from rfl] at q
      refine ⟨(by show 1 ≤ sizeLine; decide), fun t8 nt8 => ?_⟩
      have s8 := same_new nt8 (.tup [.str "void"])
      have e8 : (upd HB t8 (.tup [.str "void"])) t8 = some (.tup [.str "void"]) := upd_same
      generalize upd HB t8 (.tup [.str "void"]) = H8 at s8 e8
      refine ⟨(by show 2 ≤ sizeLine; decide), fun t9 nt9 => ?_⟩
      have s9 := same_new nt9 (.tup [.str "void", .str "paid"])
      have e9 : (upd H8 t9 (.tup [.str "void", .str "paid"])) t9 = some (.tup [.str "void", .str "paid"]) := upd_same
      generalize upd H8 t9 (.tup [.str "void", .str "paid"]) = H9 at s9 e9
      refine ⟨(by show 2 ≤ sizeLine; decide), fun l10 nl10 => ?_⟩
      have s10 := same_new nl10 (.lst [.ref t8, .ref t9])
      have e10 : (upd H9 l10 (.lst [.ref t8, .ref t9])) l10 = some (.lst [.ref t8, .ref t9]) := upd_same
      generalize upd H9 l10 (.lst [.ref t8, .ref t9]) = H10 at s10 e10
      have s810 := s8.trans (s9.trans s10)
      refine ⟨_, rfl, rfl, .inr ⟨_, rfl, ?_⟩⟩
      refine ⟨l10, _, _, _, rfl, rfl, SqL.of e10, (atI_nat (j := 0) rfl), ?_⟩
      have eB : ExtN H H10 := eHB.trans (.of s810)
      have TB10 : Tabs T H10 := THB.ext s810
      have eW : H10 t8 = some (.tup ((["void"] : List Str).map V.str)) := s10 _ _ (s9 _ _ e8)
      refine ⟨_, rfl, _, rfl, _, rfl, _, rfl, _, rfl, ed, t8, z.2.num, d, kk, ["void"], n, zs, ys, rfl, hE.extN eB, eW, by decide, hO, fun p H11 s11 np ep => ?_⟩
      rw [openOf_one] at ep
      have eC : ExtN H H11 := eB.trans (.of s11)
      have TC : Tabs T H11 := TB10.ext s11
      have hdC := hd.ext eC
      obtain ⟨a, xs, rfl, ea, hn⟩ := hdC.nth hh
      obtain ⟨p2, hp2, hdp2, _⟩ := hn 2 (by decide)
      obtain ⟨p3, hp3, hdp3, _⟩ := hn 3 (by decide)
      refine ⟨_, rfl, _, rfl, a, _, _, _, rfl, rfl, SqT.of ea, (atI_nat (j := 2) hp2), TC, fun fl c' pm ctv H3 e3 T3 hf hc' => ?_⟩
      intro H4 s4 C4
      have hsub : ∀ u ∈ ys.filter (isOn "void" z.2.num), u ∈ ys := fun u hu => (List.mem_filter.mp hu).1
      have hul : (ys.filter (isOn "void" z.2.num)).length ≤ 1000 := hsl _
      have e34 := e3.trans (.of s4)
      have eD : ExtN H H4 := eC.trans e34
      have hl1 : LamOk P w K mg base T k fl (fun a b H' r => ∃ (u : En) (y : Dat), a = .int u.num ∧ u ∈ ys ∧ EdAt H' ed n zs ∧ Da H' b y ∧ r = hold ys false u y) H4 := by
        refine lam_ok (caps := [(0, "_law_entries_here"), (3, "_law_d"), (4, "_law_k")]) (lamP_by (sc := defScope sLIsWhy) (by decide +kernel)) (by decide) (s4 _ _ hf) (s4 _ _ hc') C4 (fun q hq => ?_) (fun _ _ _ _ _ _ _ => rfl)
          (fun A outer s H hr' => pe_call C_no.ok hr' (by rfl) C_no.g C_no.kp C_no.b .nil pass0 (pa_cons (pv 0) (pa_cons (pv 3) (pa_cons (pv 1) (pa_cons (pv 2) (pa_cons (pv 4) pa_nil)))))) (fun a b H' r hR H'' nf T'' Q q => ?_)
        · simp only [List.mem_cons, List.not_mem_nil, or_false] at hq
          rcases hq with rfl | rfl | rfl <;> exact ⟨rfl, by decide +kernel⟩
        · obtain ⟨u, y, rfl, hu1, hE', hd', rfl⟩ := hR
          obtain ⟨m1, m2, m3⟩ := hO.mem u hu1
          refine ⟨_, rfl, _, rfl, _, rfl, _, rfl, _, rfl, ed, d, kk, n, zs, ys, u, b, y, rfl, hE'.nf nf, hO, m1, m2, (till31 hO hu1).2, hd'.nf nf, T'', fun H4 e4 T4 => ?_⟩
          rw [m3, Bool.true_and]
          exact q H4 e4 T4
      refine ⟨p, fl, (ys.filter (isOn "void" z.2.num)).map (·.num), p2, x.at 2, _, fun mm y => ys.any fun u => decide (u.num = mm) && hold ys false u y, rfl, (show H4 p = some (seqI true ((ys.filter (isOn "void" z.2.num)).map (·.num))) from e34 _ _ ep (fun _ z => nomatch z)), by rw [List.length_map]; exact hul, hdp2.ext e34, T3.ext s4, hl1, fun r hr y u H' e' T' hd' _ => ?_, fun H' e' T' H5 b5 => ?_⟩
      · obtain ⟨u0, hu0, rfl⟩ := List.mem_map.mp hr
        have h1 := hsub u0 hu0
        refine ⟨u0, y, rfl, h1, hE.extN (eD.trans e'), hd', ?_⟩
        rw [Bool.eq_iff_iff, List.any_eq_true]
        constructor
        · rintro ⟨v0, hv, hv2⟩
          rw [Bool.and_eq_true] at hv2
          rw [← num_inj hO.bk (hO.mem v0 hv).1 (hO.mem u0 h1).1 (of_decide_eq_true hv2.1)]
          exact hv2.2
        · intro hv
          exact ⟨u0, h1, by rw [Bool.and_eq_true]; exact ⟨decide_eq_true rfl, hv⟩⟩
      rw [nosD_whys hO hsub]
      have eF : ExtN H H5 := eC.trans (e3.trans (b5.ext s4 e'))
      have TF : Tabs T H5 := b5.tabs T'
      have eCF : ExtN H11 H5 := e3.trans (b5.ext s4 e')
      refine ⟨_, rfl, ?_⟩
      cases hno : nosD ys (ys.filter (isOn "void" z.2.num)) (x.at 2) with
      | false =>
        rw [hno] at q
        simp only [Bool.false_and, Bool.and_false] at q
        exact iteT (q _ eF TF)
      | true =>
        rw [hno] at q
        simp only [Bool.true_and] at q
        refine iteF ?_
        have ea5 := eCF _ _ ea fun _ z => nomatch z
        refine ⟨_, rfl, _, rfl, a, _, _, _, rfl, rfl, SqT.of ea5, (atI_nat (j := 3) hp3), TF, fun fl2 c2 pm2 ctv2 H6 e6 T6 hf2 hc2 => ?_⟩
        intro H7 s7 C7
        have e67 := e6.trans (.of s7)
        have eG : ExtN H H7 := eF.trans e67
        have hl2 : LamOk P w K mg base T k fl2 (fun a b H' r => ∃ (m' : Int) (y : Dat), a = .int m' ∧ lessN (ens zs) m m' ∧ EdAt H' ed n zs ∧ WordR H' wd (ens zs) d kk ∧ Da H' b y ∧ r = whyH (ens zs) ys d kk m' y) H7 := by
          refine lam_ok (caps := [(0, "_law_entries_here"), (1, "_law_words_here"), (3, "_law_d"), (4, "_law_k")]) (lamP_by (sc := defScope sLIsWhy) (by decide +kernel)) (by decide) (s7 _ _ hf2) (s7 _ _ hc2) C7 (fun q hq => ?_) (fun _ _ _ _ _ _ _ => rfl)
            (fun A outer s H hr' => pe_call C_why.ok hr' (by rfl) C_why.g C_why.kp C_why.b .nil pass0 (pa_cons (pv 0) (pa_cons (pv 1) (pa_cons (pv 4) (pa_cons (pv 2) (pa_cons (pv 3) (pa_cons (pv 5) pa_nil))))))) (fun a b H' r hR H'' nf T'' Q q => ?_)
          · simp only [List.mem_cons, List.not_mem_nil, or_false] at hq
            rcases hq with rfl | rfl | rfl | rfl <;> exact ⟨rfl, by decide +kernel⟩
          · obtain ⟨m', y, rfl, hu1, hE', hW', hd', rfl⟩ := hR
            exact ⟨_, rfl, _, rfl, _, rfl, _, rfl, _, rfl, _, rfl, ed, wd, m', d, kk, n, zs, ys, b, y, rfl, hE'.nf nf, hW'.nf nf, hO, hu1, hd'.nf nf, T'', fun H4 e4 T4 => q H4 e4 T4⟩
        refine ⟨ar, fl2, z.2.rests, p3, x.at 3, _, fun mm y => whyH (ens zs) ys d kk mm y, rfl, (show H7 ar = some (seqI false z.2.rests) from eG _ _ er (fun _ z => nomatch z)), hrl, hdp3.ext (eCF.trans e67), T6.ext s7, hl2, fun r hr y u H' e' T' hd' _ => ⟨r, y, rfl, hls r hr, hE.extN (eG.trans e'), hW.extN (eG.trans e'), hd', rfl⟩, fun H' e' T' H8' b8 => ?_⟩
        exact q H8' (eF.trans (e6.trans (b8.ext s7 e'))) (b8.tabs T')
    · rw [h1] at q ⊢
      rw [whyB_st] at q
      refine iteF ?_
      refine ⟨_, rfl, rfl, _, rfl, ?_⟩
      refine iteF ?_
      refine ⟨_, rfl, rfl, _, rfl, ?_⟩
      refine iteF ?_
      refine ⟨_, rfl, _, rfl, _, rfl, _, rfl, rfl, .inr ⟨_, rfl, _, _, rfl, rfl, v, x, 4, "stands", z.2.num, rfl, hd1, by decide, _, rfl, ?_⟩⟩
      cases hh : headD x 4 "stands" z.2.num with
      | false =>
        rw [hh, Bool.false_and] at q
        exact iteT (q _ (.of s1) T1)
      | true =>
      rw [hh, Bool.true_and] at q
      refine iteF ?_
      refine ⟨_, rfl, rfl, _, rfl, ?_⟩
      refine iteF ?_
      generalize hHB : H1 = HB at *
      have eHB : ExtN H HB := .of s1
      have THB : Tabs T HB := T1
      refine ⟨(by show 1 ≤ sizeLine; decide), fun t8 nt8 => ?_⟩
      have s8 := same_new nt8 (.tup [.str "void"])
      have e8 : (upd HB t8 (.tup [.str "void"])) t8 = some (.tup [.str "void"]) := upd_same
      generalize upd HB t8 (.tup [.str "void"]) = H8 at s8 e8
      refine ⟨(by show 2 ≤ sizeLine; decide), fun t9 nt9 => ?_⟩
      have s9 := same_new nt9 (.tup [.str "void", .str "paid"])
      have e9 : (upd H8 t9 (.tup [.str "void", .str "paid"])) t9 = some (.tup [.str "void", .str "paid"]) := upd_same
      generalize upd H8 t9 (.tup [.str "void", .str "paid"]) = H9 at s9 e9
      refine ⟨(by show 2 ≤ sizeLine; decide), fun l10 nl10 => ?_⟩
      have s10 := same_new nl10 (.lst [.ref t8, .ref t9])
      have e10 : (upd H9 l10 (.lst [.ref t8, .ref t9])) l10 = some (.lst [.ref t8, .ref t9]) := upd_same
      generalize upd H9 l10 (.lst [.ref t8, .ref t9]) = H10 at s10 e10
      have s810 := s8.trans (s9.trans s10)
      refine ⟨_, rfl, rfl, .inr ⟨_, rfl, ?_⟩⟩
      refine ⟨l10, _, _, _, rfl, rfl, SqL.of e10, (atI_nat (j := 1) rfl), ?_⟩
      have eB : ExtN H H10 := eHB.trans (.of s810)
      have TB10 : Tabs T H10 := THB.ext s810
      have eW : H10 t9 = some (.tup ((["void", "paid"] : List Str).map V.str)) := s10 _ _ e9
      refine ⟨_, rfl, _, rfl, _, rfl, _, rfl, _, rfl, ed, t9, z.2.num, d, kk, ["void", "paid"], n, zs, ys, rfl, hE.extN eB, eW, by decide, hO, fun p H11 s11 np ep => ?_⟩
      rw [openOf_both] at ep
      have eC : ExtN H H11 := eB.trans (.of s11)
      have TC : Tabs T H11 := TB10.ext s11
      have hdC := hd.ext eC
      obtain ⟨a, xs, rfl, ea, hn⟩ := hdC.nth hh
      obtain ⟨p2, hp2, hdp2, _⟩ := hn 2 (by decide)
      obtain ⟨p3, hp3, hdp3, _⟩ := hn 3 (by decide)
      refine ⟨_, rfl, _, rfl, a, _, _, _, rfl, rfl, SqT.of ea, (atI_nat (j := 2) hp2), TC, fun fl c' pm ctv H3 e3 T3 hf hc' => ?_⟩
      intro H4 s4 C4
      have hsub : ∀ u ∈ both ys z.2, u ∈ ys := fun u hu => (List.mem_filter.mp hu).1
      have hul : (both ys z.2).length ≤ 1000 := hsl _
      have e34 := e3.trans (.of s4)
      have eD : ExtN H H4 := eC.trans e34
      have hl1 : LamOk P w K mg base T k fl (fun a b H' r => ∃ (u : En) (y : Dat), a = .int u.num ∧ u ∈ ys ∧ EdAt H' ed n zs ∧ Da H' b y ∧ r = hold ys false u y) H4 := by
        refine lam_ok (caps := [(0, "_law_entries_here"), (3, "_law_d"), (4, "_law_k")]) (lamP_by (sc := defScope sLIsWhy) (by decide +kernel)) (by decide) (s4 _ _ hf) (s4 _ _ hc') C4 (fun q hq => ?_) (fun _ _ _ _ _ _ _ => rfl)
          (fun A outer s H hr' => pe_call C_no.ok hr' (by rfl) C_no.g C_no.kp C_no.b .nil pass0 (pa_cons (pv 0) (pa_cons (pv 3) (pa_cons (pv 1) (pa_cons (pv 2) (pa_cons (pv 4) pa_nil)))))) (fun a b H' r hR H'' nf T'' Q q => ?_)
        · simp only [List.mem_cons, List.not_mem_nil, or_false] at hq
          rcases hq with rfl | rfl | rfl <;> exact ⟨rfl, by decide +kernel⟩
        · obtain ⟨u, y, rfl, hu1, hE', hd', rfl⟩ := hR
          obtain ⟨m1, m2, m3⟩ := hO.mem u hu1
          refine ⟨_, rfl, _, rfl, _, rfl, _, rfl, _, rfl, ed, d, kk, n, zs, ys, u, b, y, rfl, hE'.nf nf, hO, m1, m2, (till31 hO hu1).2, hd'.nf nf, T'', fun H4 e4 T4 => ?_⟩
          rw [m3, Bool.true_and]
          exact q H4 e4 T4
      refine ⟨p, fl, (both ys z.2).map (·.num), p2, x.at 2, _, fun mm y => ys.any fun u => decide (u.num = mm) && hold ys false u y, rfl, (show H4 p = some (seqI true ((both ys z.2).map (·.num))) from e34 _ _ ep (fun _ z => nomatch z)), by rw [List.length_map]; exact hul, hdp2.ext e34, T3.ext s4, hl1, fun r hr y u H' e' T' hd' _ => ?_, fun H' e' T' H5 b5 => ?_⟩
      · obtain ⟨u0, hu0, rfl⟩ := List.mem_map.mp hr
        have h1 := hsub u0 hu0
        refine ⟨u0, y, rfl, h1, hE.extN (eD.trans e'), hd', ?_⟩
        rw [Bool.eq_iff_iff, List.any_eq_true]
        constructor
        · rintro ⟨v0, hv, hv2⟩
          rw [Bool.and_eq_true] at hv2
          rw [← num_inj hO.bk (hO.mem v0 hv).1 (hO.mem u0 h1).1 (of_decide_eq_true hv2.1)]
          exact hv2.2
        · intro hv
          exact ⟨u0, h1, by rw [Bool.and_eq_true]; exact ⟨decide_eq_true rfl, hv⟩⟩
      rw [nosD_whys hO hsub]
      have eF : ExtN H H5 := eC.trans (e3.trans (b5.ext s4 e'))
      have TF : Tabs T H5 := b5.tabs T'
      have eCF : ExtN H11 H5 := e3.trans (b5.ext s4 e')
      refine ⟨_, rfl, ?_⟩
      cases hno : nosD ys (both ys z.2) (x.at 2) with
      | false =>
        rw [hno] at q
        simp only [Bool.false_and, Bool.and_false] at q
        exact iteT (q _ eF TF)
      | true =>
        rw [hno] at q
        simp only [Bool.true_and] at q
        refine iteF ?_
        have ea5 := eCF _ _ ea fun _ z => nomatch z
        refine ⟨_, rfl, _, rfl, a, _, _, _, rfl, rfl, SqT.of ea5, (atI_nat (j := 3) hp3), TF, fun fl2 c2 pm2 ctv2 H6 e6 T6 hf2 hc2 => ?_⟩
        intro H7 s7 C7
        have e67 := e6.trans (.of s7)
        have eG : ExtN H H7 := eF.trans e67
        have hl2 : LamOk P w K mg base T k fl2 (fun a b H' r => ∃ (m' : Int) (y : Dat), a = .int m' ∧ lessN (ens zs) m m' ∧ EdAt H' ed n zs ∧ WordR H' wd (ens zs) d kk ∧ Da H' b y ∧ r = whyH (ens zs) ys d kk m' y) H7 := by
          refine lam_ok (caps := [(0, "_law_entries_here"), (1, "_law_words_here"), (3, "_law_d"), (4, "_law_k")]) (lamP_by (sc := defScope sLIsWhy) (by decide +kernel)) (by decide) (s7 _ _ hf2) (s7 _ _ hc2) C7 (fun q hq => ?_) (fun _ _ _ _ _ _ _ => rfl)
            (fun A outer s H hr' => pe_call C_why.ok hr' (by rfl) C_why.g C_why.kp C_why.b .nil pass0 (pa_cons (pv 0) (pa_cons (pv 1) (pa_cons (pv 4) (pa_cons (pv 2) (pa_cons (pv 3) (pa_cons (pv 5) pa_nil))))))) (fun a b H' r hR H'' nf T'' Q q => ?_)
          · simp only [List.mem_cons, List.not_mem_nil, or_false] at hq
            rcases hq with rfl | rfl | rfl | rfl <;> exact ⟨rfl, by decide +kernel⟩
          · obtain ⟨m', y, rfl, hu1, hE', hW', hd', rfl⟩ := hR
            exact ⟨_, rfl, _, rfl, _, rfl, _, rfl, _, rfl, _, rfl, ed, wd, m', d, kk, n, zs, ys, b, y, rfl, hE'.nf nf, hW'.nf nf, hO, hu1, hd'.nf nf, T'', fun H4 e4 T4 => q H4 e4 T4⟩
        refine ⟨ar, fl2, z.2.rests, p3, x.at 3, _, fun mm y => whyH (ens zs) ys d kk mm y, rfl, (show H7 ar = some (seqI false z.2.rests) from eG _ _ er (fun _ z => nomatch z)), hrl, hdp3.ext (eCF.trans e67), T6.ext s7, hl2, fun r hr y u H' e' T' hd' _ => ⟨r, y, rfl, hls r hr, hE.extN (eG.trans e'), hW.extN (eG.trans e'), hd', rfl⟩, fun H' e' T' H8' b8 => ?_⟩
        exact q H8' (eF.trans (e6.trans (b8.ext s7 e'))) (b8.tabs T')
end
end Deed

namespace Deed
open PySem PySem.Spec PyProof.Rows L2 LamX
/-! ### things as data, data as things; reasons are small -/
mutual
def Tg.dat : Tg → Dat
  | .non => .non
  | .bl b => .bl b
  | .int i => .int i
  | .str x => .str x
  | .lst => .oth
  | .dct => .oth
  | .tup ts => .tup (Tg.datAll ts)
def Tg.datAll : List Tg → List Dat
  | [] => []
  | t :: r => t.dat :: Tg.datAll r
end
mutual
theorem TgAt.da {p : Addr} {H : Hp} : ∀ {t : Tg} {v : V}, TgAt p H v t → Da H v t.dat
  | .non, _, h => by cases h; exact .non
  | .bl b, _, h => by cases h; exact .bl b
  | .int i, _, h => by cases h; exact .int i
  | .str x, _, h => by cases h; exact .str x
  | .lst, _, h => by
    cases h with
    | lst n e => exact .lst e
  | .dct, _, h => by
    cases h with
    | dct n e => exact .dct e
  | .tup ts, _, h => by
    cases h with
    | tup e ha => exact .tup e (TgAll.da ha)
theorem TgAll.da {p : Addr} {H : Hp} : ∀ {ts : List Tg} {vs : List V}, TgAll p H vs ts → DaAll H vs (Tg.datAll ts)
  | [], _, h => by cases h; exact .nil
  | t :: r, _, h => by
    cases h with
    | cons h1 h2 => exact .cons (TgAt.da h1) (TgAll.da h2)
end
mutual
def Dat.tg : Dat → Tg
  | .non => .non
  | .bl b => .bl b
  | .int i => .int i
  | .str x => .str x
  | .oth => .lst
  | .tup ds => .tup (Dat.tgAll ds)
def Dat.tgAll : List Dat → List Tg
  | [] => []
  | d :: r => d.tg :: Dat.tgAll r
end
theorem tgAll_map : ∀ l : List Dat, Dat.tgAll l = l.map Dat.tg
  | [] => by unfold Dat.tgAll; rfl
  | d :: r => by
    unfold Dat.tgAll
    rw [tgAll_map r]
    rfl
mutual
def Dat.sm : Dat → Bool
  | .str x => decide (x.length ≤ 300)
  | .int i => decide (0 ≤ i) && decide (i ≤ 30)
  | .tup xs => decide (xs.length ≤ 300) && Dat.smAll xs
  | .oth => false
  | _ => true
def Dat.smAll : List Dat → Bool
  | [] => true
  | x :: r => x.sm && Dat.smAll r
end
theorem smAll_of : ∀ {l : List Dat}, (∀ x ∈ l, x.sm = true) → Dat.smAll l = true
  | [], _ => by unfold Dat.smAll; rfl
  | x :: r, h => by
    unfold Dat.smAll
    rw [h x List.mem_cons_self, smAll_of fun y hy => h y (List.mem_cons_of_mem _ hy)]
    rfl
theorem smAll_at : ∀ {l : List Dat}, Dat.smAll l = true → ∀ x ∈ l, x.sm = true
  | x :: r, h, y, hy => by
    unfold Dat.smAll at h
    rw [Bool.and_eq_true] at h
    rcases List.mem_cons.mp hy with rfl | hy
    · exact h.1
    · exact smAll_at h.2 y hy
theorem sm_tup {l : List Dat} (hl : l.length ≤ 300) (h : ∀ x ∈ l, x.sm = true) : (Dat.tup l).sm = true := by
  unfold Dat.sm
  rw [decide_eq_true hl, smAll_of h]
  rfl
theorem sm_int {i : Int} (h0 : 0 ≤ i) (h1 : i ≤ 30) : (Dat.int i).sm = true := by
  unfold Dat.sm
  rw [decide_eq_true h0, decide_eq_true h1]
  rfl
theorem depAll_le : ∀ {l : List Dat}, ∀ x ∈ l, x.dep ≤ Dat.depAll l
  | y :: r, x, hx => by
    unfold Dat.depAll
    rcases List.mem_cons.mp hx with rfl | hx
    · omega
    · have := depAll_le x hx
      omega
mutual
theorem Da.tgAt {p : Addr} {H : Hp} : ∀ {d : Dat} {v : V}, Da H v d → d.sm = true → TgAt p H v d.tg
  | .non, _, h, _ => by cases h; exact .non
  | .bl b, _, h, _ => by cases h; exact .bl b
  | .int i, _, h, _ => by cases h; exact .int i
  | .str x, _, h, _ => by cases h; exact .str x
  | .oth, _, h, o => by unfold Dat.sm at o; cases o
  | .tup ds, _, h, o => by
    cases h with
    | tup e ha =>
      unfold Dat.sm at o
      rw [Bool.and_eq_true] at o
      exact .tup e (DaAll.tgAll ha o.2)
theorem DaAll.tgAll {p : Addr} {H : Hp} : ∀ {ds : List Dat} {vs : List V}, DaAll H vs ds → Dat.smAll ds = true → TgAll p H vs (Dat.tgAll ds)
  | [], _, h, _ => by cases h; exact .nil
  | d :: r, _, h, o => by
    unfold Dat.smAll at o
    rw [Bool.and_eq_true] at o
    cases h with
    | cons h1 h2 => exact .cons (Da.tgAt h1 o.1) (DaAll.tgAll h2 o.2)
end
theorem sm_fits : ∀ (n : Nat) (x : Dat), x.sm = true → x.dep < n → FitsN n x.tg
  | 0, _, _, h => absurd h (Nat.not_lt_zero _)
  | n + 1, x, hs, hd => by
    cases x with
    | str s =>
      unfold Dat.sm at hs
      show s.length ≤ 300
      exact of_decide_eq_true hs
    | int i =>
      unfold Dat.sm at hs
      rw [Bool.and_eq_true] at hs
      have h0 := of_decide_eq_true hs.1
      have h1 := of_decide_eq_true hs.2
      show i.natAbs.log2 < 1920
      have : i.natAbs ≤ 30 := by omega
      exact Nat.lt_of_le_of_lt (Nat.log2_le_self _) (by omega)
    | tup ds =>
      unfold Dat.sm at hs
      rw [Bool.and_eq_true] at hs
      unfold Dat.dep at hd
      unfold Dat.tg
      show (Dat.tgAll ds).length ≤ 300 ∧ ∀ t ∈ Dat.tgAll ds, FitsN n t
      rw [tgAll_map]
      refine ⟨by rw [List.length_map]; exact of_decide_eq_true hs.1, fun t ht => ?_⟩
      obtain ⟨y, hy, rfl⟩ := List.mem_map.mp ht
      have := depAll_le y hy
      exact sm_fits n y (smAll_at hs.2 y hy) (by omega)
    | oth =>
      unfold Dat.sm at hs
      cases hs
    | _ => exact True.intro
theorem pap_smF {n : Nat} {es : List En} {d k : Int} {ys : List En} (h : Oa n es d k ys) (hl : ys.length ≤ 300) : ∀ (f : Nat) (e : En), e ∈ ys → (31 - e.num).toNat ≤ f → (pap ys e).sm = true
  | 0, e, he, hf => by
    have hr := h.bk.rng e (h.mem e he).1
    omega
  | f + 1, e, he, hf => by
    have hr := h.bk.rng e (h.mem e he).1
    have ih : ∀ u ∈ ys.filter (isOn "undone" e.num), (pap ys u).sm = true := fun u hu => by
      obtain ⟨a1, a2, a3, a4⟩ := h.undo hu
      exact pap_smF h hl f u a1 (by omega)
    have three : ∀ {w : Str} {x : Dat}, w.length ≤ 300 → x.sm = true → (Dat.tup [.str w, .int e.num, x]).sm = true := fun {w x} hw hx => sm_tup (by show 3 ≤ 300; decide) fun y hy => by
      simp only [List.mem_cons, List.not_mem_nil, or_false] at hy
      rcases hy with rfl | rfl | rfl
      · unfold Dat.sm
        exact decide_eq_true hw
      · exact sm_int hr.1 hr.2
      · exact hx
    cases hc : frc es d k e with
    | true =>
      rw [pap_is h he hc]
      refine three (by decide +kernel) (sm_tup (by rw [List.length_map]; exact Nat.le_trans (List.length_filter_le _ _) hl) fun x hx => ?_)
      obtain ⟨u, hu, rfl⟩ := List.mem_map.mp hx
      exact ih u hu
    | false =>
      obtain ⟨u, r, hu, e1⟩ := pap_not h he hc
      have hm : u ∈ (ys.filter (isOn "undone" e.num)).filter (frc es d k) := by rw [hu]; exact List.mem_cons_self
      rw [e1]
      exact three (by decide +kernel) (ih u (List.mem_filter.mp hm).1)
theorem pap_sm {n : Nat} {es : List En} {d k : Int} {ys : List En} (h : Oa n es d k ys) (hl : ys.length ≤ 300) {e : En} (he : e ∈ ys) : (pap ys e).sm = true := pap_smF h hl _ e he (Nat.le_refl _)
theorem rests_len2 {n : Nat} {es : List En} (hB : BkOk n es) {e : En} (he : e ∈ es) : e.rests.length ≤ 300 := by
  have h := hB.ok e he
  unfold En.rests
  cases hk : e.kd with
  | deed g t r ws =>
    have := h.2.2.2
    rw [hk] at this
    have := this.2.2.2.1
    show r.length ≤ 300
    omega
  | act x o => exact Nat.zero_le _
theorem why_smF {n : Nat} {es : List En} {d k : Int} {ys : List En} (h : Oa n es d k ys) (hl : ys.length ≤ 300) : ∀ (f : Nat) (e : En), e ∈ es → e.isDeed = true → e.num.toNat + 1 ≤ f → (why es ys d k e.num).sm = true
  | 0, e, _, _, hf => by omega
  | f + 1, e, he, hd, hf => by
    have hB := h.bk
    have hr := hB.rng e he
    have ih : ∀ r ∈ e.rests, (why es ys d k r).sm = true := fun r hr' => by
      obtain ⟨u, hu, hud, hun, hlt⟩ := rest_deed hB he hr'
      subst hun
      have := hB.rng u hu
      exact why_smF h hl f u hu hud (by omega)
    have hrl : e.rests.length ≤ 300 := by
      have := rests_len2 hB he
      omega
    have hpp : ∀ us : List En, (∀ u ∈ us, u ∈ ys) → us.length ≤ 300 → (Dat.tup (us.map (pap ys))).sm = true := fun us hus hu3 => sm_tup (by rw [List.length_map]; exact hu3) fun x hx => by
      obtain ⟨u, hu, rfl⟩ := List.mem_map.mp hx
      exact pap_sm h hl (hus u hu)
    have hbl : (Dat.tup (e.rests.map (why es ys d k))).sm = true := sm_tup (by rw [List.length_map]; exact hrl) fun x hx => by
      obtain ⟨r, hr, rfl⟩ := List.mem_map.mp hx
      exact ih r hr
    have hsv : ∀ u ∈ voids ys e, u ∈ ys := fun u hu => (List.mem_filter.mp hu).1
    have hsp : ∀ u ∈ paids ys e, u ∈ ys := fun u hu => (List.mem_filter.mp hu).1
    have hfl : ∀ p : En → Bool, (ys.filter p).length ≤ 300 := fun p => Nat.le_trans (List.length_filter_le p ys) hl
    have hfy : ∀ us : List En, (∀ u ∈ us, u ∈ ys) → us.any (frc es d k) = true → (fy ys us).sm = true := fun us hus ha => by
      obtain ⟨u, r, _, h1, h2, h3, h4⟩ := fy_is h hus ha
      rw [h4]
      exact pap_sm h hl h2
    have hs : ∀ w : Str, w.length ≤ 300 → (Dat.str w).sm = true := fun w hw => by
      unfold Dat.sm
      exact decide_eq_true hw
    have hi : (Dat.int e.num).sm = true := sm_int hr.1 hr.2
    have q0 : ∀ x : Dat, x ∈ ([] : List Dat) → x.sm = true := fun _ hx => nomatch hx
    have qc : ∀ {a : Dat} {l : List Dat}, a.sm = true → (∀ x ∈ l, x.sm = true) → ∀ x ∈ a :: l, x.sm = true := fun ha hl x hx => by
      rcases List.mem_cons.mp hx with rfl | hx
      · exact ha
      · exact hl x hx
    rw [why_eq hB ys d k he hd]
    rcases st_cases hB d k he with ⟨h1, h2⟩ | ⟨h1, h2⟩ | ⟨h1, h2⟩ | ⟨h1, h2, h3⟩ | ⟨h1, h2, h3, h4⟩ | ⟨h1, h2, h3, h4⟩
    · rw [h1]
      exact sm_tup (by show 2 ≤ 300; decide) (qc (hs _ (by decide +kernel)) (qc hi q0))
    · rw [h1]
      exact sm_tup (by show 2 ≤ 300; decide) (qc (hs _ (by decide +kernel)) (qc hi q0))
    · rw [h1]
      rw [h.any (by decide)] at h2
      exact sm_tup (by show 3 ≤ 300; decide) (qc (hs _ (by decide +kernel)) (qc hi (qc (hfy _ hsv h2) q0)))
    · rw [h1]
      refine sm_tup (by show 3 ≤ 300; decide) (qc (hs _ (by decide +kernel)) (qc hi (qc ?_ q0)))
      rw [lost_filter hB ys d k he]
      cases hc : e.rests.filter (restLost es d k) with
      | nil =>
        obtain ⟨r, hr, hh⟩ := List.any_eq_true.mp h3
        have : r ∈ e.rests.filter (restLost es d k) := List.mem_filter.mpr ⟨hr, hh⟩
        rw [hc] at this
        cases this
      | cons r t =>
        have hm : r ∈ e.rests.filter (restLost es d k) := by rw [hc]; exact List.mem_cons_self
        exact ih r (List.mem_filter.mp hm).1
    · rw [h1]
      rw [h.any (by decide)] at h4
      exact sm_tup (by show 5 ≤ 300; decide) (qc (hs _ (by decide +kernel)) (qc hi (qc (hpp _ hsv (hfl _)) (qc hbl (qc (hfy _ hsp h4) q0)))))
    · rw [h1]
      exact sm_tup (by show 4 ≤ 300; decide) (qc (hs _ (by decide +kernel)) (qc hi (qc (hpp _ (fun u hu => (List.mem_filter.mp hu).1) (hfl _)) (qc hbl q0))))
theorem why_sm {n : Nat} {es : List En} {d k : Int} {ys : List En} (h : Oa n es d k ys) (hl : ys.length ≤ 300) {e : En} (he : e ∈ es) (hd : e.isDeed = true) : (why es ys d k e.num).sm = true := why_smF h hl _ e he hd (Nat.le_refl _)
end Deed

namespace Deed
open PySem PySem.Spec PyProof.Rows L2 LamX
section
variable {P : Program} {w : World} {K : PySem.W.Frag} {mg : Str → Option Value} {base : Heap} {T : List (Addr × Str)}
theorem liswhy_never {vs : List V} {H : Hp} {Q : V → Hp → Prop} {E : _} (h : spLIsWhy T 0 vs H Q E) : False := by
  obtain ⟨ed, wd, r, d, k, n, zs, ys, v, x, rfl, _, _, _, ⟨u, _, _, _, hl⟩, _⟩ := h
  exact absurd hl (Nat.not_lt_zero _)
variable {fW fE : Addr} {dW dE : FuncData}
theorem liswhy_all {c tb : Addr} {b : Nat} (DW : Df K mg "_law_is_why" sLIsWhy pLIsWhy fW dW) (DE : Df K mg "_law_each" sLEach pLEach fE dE) (hc : dW.code = .ref c) (TB : TabB base mg c tb) (hmT : (tb, qLIsWhy) ∈ T) (hu : ∀ p ∈ T, p.1 = tb → p.2 = qLIsWhy)
    (C_head : CallOk P w K mg base b "_law_head" pLHead spLHead) (C_by : CallOk P w K mg base b "_law_by" pLBy (spLBy T)) (C_oof : CallOk P w K mg base b "_law_open_of" pLOpenOf spLOpenOf) (C_no : CallOk P w K mg base b "_law_is_no" pLIsNo (spLIs2 T false 31)) (m_int : mg "int" = none) (m_isinstance : mg "isinstance" = none) (m_tuple : mg "tuple" = none) (m_len : mg "len" = none) (m_zip : mg "zip" = none) :
    ∀ m : Nat, FnOk P w K mg base CX0 (3 * m + b + 3) fW dW pLIsWhy (spLIsWhy T m)
  | 0 => DW.F.ok scLIsWhy (fun _ _ _ _ h => (liswhy_never h).elim) (fun _ _ _ _ _ _ _ _ _ h => (liswhy_never h).elim)
  | m + 1 => by
    have hW := liswhy_all DW DE hc TB hmT hu C_head C_by C_oof C_no m_int m_isinstance m_tuple m_len m_zip m
    exact (ok_LIsWhy (k := 3 * m + b + 3) DW.F hc TB hmT hu (C_head.mono (by omega)) (C_by.mono (by omega)) (C_oof.mono (by omega)) (DE.call (ok_LEach true DE.F m_isinstance m_tuple m_len m_zip)) (DE.call (ok_LEach false DE.F m_isinstance m_tuple m_len m_zip)) (C_no.mono (by omega)) (DW.call hW) m_int).mono (by omega)
end
end Deed

namespace Deed
open PySem PySem.Spec PyProof.Rows L2 LamX
section
variable {J : It} {n : Nat} {G : Hp → Prop} {Y : Nat → Hp → V → Hp → Prop} {g : TG} {te : TE} {vs : List Nat} {σ : L2.St} {H1 : Hp} {D : Addr} {Qd : Hp → Prop} {α : Type}
/-- things that are told, by what they are; the tables may be otherwise -/
theorem lc_extDa (T : List (Addr × Str)) (w : Walk J n G Y) (ys : List α) (gd : α → Dat) (hn : ys.length = n) (hlen : ys.length ≤ 1000) (nD : H1 D = none) (hT : Tabs T H1) (hG : ∀ H, ExtN H1 H → G H)
    (hs : ∀ i y x H H', ys[i]? = some y → ExtN H1 H → Tabs T H → Y i H x H' → ∀ (Q1 : V → Hp → Prop), (∀ a H4, ExtN H H4 → Tabs T H4 → Da H4 (.ref a) (gd y) → Q1 (.ref a) H4) → g x (wipe σ vs) H' fun σ2 H2 => wipe σ2 vs = wipe σ vs ∧ te σ2 H2 Q1)
    (hd : ∀ H (as : List (Addr × Dat)), ExtN H1 H → Tabs T H → H D = some (.lst (as.map fun z => V.ref z.1)) → as.map (·.2) = ys.map gd → (∀ z ∈ as, Da H (.ref z.1) z.2) → Qd H) : LcGoal J g tYes te vs σ H1 D Qd := by
  refine lc_gen w ys (fun _ => true) (fun H => ExtN H1 H ∧ Tabs T H) (fun H H' => ExtN H H' ∧ Tabs T H') (fun H y u => ∃ a, u = .ref a ∧ Da H (.ref a) (gd y)) hn hlen ⟨.of (same_new nD _), hT.ext (same_new nD _)⟩ (fun H h => hG H h.1) (fun H H' h1 h2 => ⟨⟨h1.1.trans h2.1, h2.2⟩, fun xs e => h2.1 _ _ e fun _ z => nomatch z⟩) (fun H xs l h1 e => ⟨fun b o q n => ?_, Tabs.putL h1.2 e⟩) (fun H H' y u _ h2 e => ?_) (fun H xs l y u h1 h2 e => ?_) (fun i y x H H' hy h1 hY Q1 Q0 q1 q0 => ?_) (fun H zs h1 e ez hz => ?_)
  · have hb : b ≠ D := fun z => by
      rw [z, nD] at q
      cases q
    rw [upd_ne hb]
    exact h1.1 b o q n
  · obtain ⟨a, e1, e2⟩ := e
    exact ⟨a, e1, e2.ext h2.1⟩
  · obtain ⟨a, e1, e2⟩ := e
    exact ⟨a, e1, e2.putL h2 _⟩
  · exact hs i y x H H' hy h1.1 h1.2 hY Q1 fun a H4 e4 T4 d4 => q1 rfl _ H4 ⟨e4, T4⟩ ⟨a, rfl, d4⟩
  · have key : ∀ zs : List (V × α), (∀ z ∈ zs, ∃ a, z.1 = .ref a ∧ Da H (.ref a) (gd z.2)) → ∃ as : List (Addr × Dat), zs.map (·.1) = as.map (fun z => V.ref z.1) ∧ as.map (·.2) = (zs.map (·.2)).map gd ∧ ∀ z ∈ as, Da H (.ref z.1) z.2 := by
      intro zs
      induction zs with
      | nil => exact fun _ => ⟨[], rfl, rfl, fun _ h => nomatch h⟩
      | cons z r ih =>
        intro h
        obtain ⟨as, a1, a2, a3⟩ := ih fun x hx => h x (List.mem_cons_of_mem _ hx)
        obtain ⟨a, e1, e2⟩ := h z List.mem_cons_self
        refine ⟨(a, gd z.2) :: as, ?_, ?_, fun x hx => ?_⟩
        · rw [List.map_cons, List.map_cons, a1, e1]
        · rw [List.map_cons, List.map_cons, List.map_cons, a2]
        · rcases List.mem_cons.mp hx with h | h
          · rw [h]
            exact e2
          · exact a3 x h
    obtain ⟨as, a1, a2, a3⟩ := key zs hz
    exact hd H as h1.1 h1.2 (by rw [e, a1]) (by rw [a2, ez, List.filter_eq_self.mpr fun _ _ => rfl]) a3
end
end Deed

namespace Deed
open PySem PySem.Spec PyProof.Rows L2
/-! ### enumerate of a list or a tuple: true is a list -/
set_option maxHeartbeats 1000000 in
theorem enumNew1 {v : Value} {o : Obj} {G : Heap → Prop} (B : Begins v o G) :
    Meets (Builtin.«enumerate.__new__» ⟨[.type "enumerate", v], []⟩) (fun _ R t => G t.heap ∧ R (.ok (.ret (.ref (t.heap.push o).objs.size))) { t with heap := (t.heap.push o).push { cls := .type "enumerate", data := .fields #[.none, .bool false, .ref t.heap.objs.size, rawInt 0, .none, .none] } }) := by
  refine .of_wp fun prog w A R t h => ?_
  obtain ⟨hp, gs, dd, tk, os⟩ := t
  obtain ⟨hG, hR⟩ := h
  have sb := sub_enumerate
  have it1 : ∀ {A' : Around} {E : Value → Shared → Prop} {Q : Value → Shared → Prop}, Q (.ref hp.objs.size) ⟨hp.push o, gs, dd, tk, os⟩ → wpAny (model prog w) A' (pyIter v) Q E ⟨hp, gs, dd, tk, os⟩ := fun q => B.iter prog w _ _ ⟨hp, gs, dd, tk, os⟩ _ hG q
  wp_walk using it1
  refine wpAny_stack_any fun k => wpAny_pure ?_
  split
  · next c _ _ _ _ _ =>
    cases (c == Value.type "enumerate") <;> (wp_walk using it1; exact ⟨_, rfl, hR⟩)
  · wp_walk using it1
    exact ⟨_, rfl, hR⟩
section
variable {prog : Program} {w : World} {A : Around} {E : Value → Shared → Prop} {s : Shared}
theorem callEnum1 {v : Value} {o : Obj} {G : Heap → Prop} {Q : Value → Shared → Prop} (B : Begins v o G) (hG : G s.heap)
    (q : ∀ h1, IsEnum h1 (s.heap.objs.size + 1) s.heap.objs.size 0 .none → h1.get? s.heap.objs.size = some o → (∀ c x, s.heap.get? c = some x → h1.get? c = some x) → Q (.ref (s.heap.objs.size + 1)) { s with heap := h1 }) : wpAny (model prog w) A (call (.type "enumerate") [v]) Q E s := by
  refine callType_new F.called_enumerate (by decide) (F.typeCall_enumerate_1 v) (F.newCall_enumerate_1 v) (fun ob => F.args_object_init_2 ob v) F.entry_enumerate_new (enumNew1 B) ⟨hG, ?_⟩
  have sz : (s.heap.push o).objs.size = s.heap.objs.size + 1 := Heap.size_push ..
  show _ ∧ _
  rw [sz]
  have en := Heap.get?_push_size (s.heap.push o) (o := { cls := .type "enumerate", data := .fields #[.none, .bool false, .ref s.heap.objs.size, rawInt 0, .none, .none] }) rfl
  rw [sz] at en
  exact ⟨⟨_, en, rfl⟩, q _ en (Heap.get?_push_of_some _ (Heap.get?_push_size _ B.free)) fun c x z => Heap.get?_push_of_some _ (Heap.get?_push_of_some _ z)⟩
end
def ItEB (K : PySem.W.Frag) (c : Bool) (a : Addr) : It :=
  ⟨fun i H => ∃ (xs : List V) (x : V), Sq2 K c H a xs ∧ xs[i]? = some x,
    fun i H v H' => ∃ T x, v = .ref T ∧ H T = none ∧ H' = upd H T (.tup [.int (i : Nat), x]) ∧ ∀ xs, Sq2 K c H a xs → xs[i]? = some x,
    fun i H => ∃ xs : List V, Sq2 K c H a xs ∧ xs.length = i⟩
theorem turn_enumB {P : Program} {w : World} {K : PySem.W.Frag} {elts : List Expr} {kk : Nat} {tpos : Pos} {c : Bool} {a e it : Addr} (ne : e ≠ it) (na : a ≠ it) (nae : a ≠ e) :
    Turn P w K (.Tuple elts kk tpos) (ItEB K c a) [e, it] e (fun i h => (∃ old, IsEnum h e it ((i : Nat) : Int) old) ∧ IterB c h it a i) where
  mem := List.mem_cons_self
  obj := fun i h st b hb => by
    obtain ⟨⟨old, he⟩, k1⟩ := st
    rcases (show b = e ∨ b = it by simpa using hb) with rfl | rfl
    · exact ⟨_, he, fun v q => by cases q⟩
    · exact k1.obj
  keep := fun i h h' st k => by
    obtain ⟨⟨old, he⟩, k1⟩ := st
    exact ⟨⟨old, k e (by simp) _ he⟩, k1.at (k it (by simp))⟩
  item := by
    intro X eP ew eK cal i pins s σ H E I hf st hg
    subst eP ew eK
    obtain ⟨⟨old, he⟩, k1⟩ := st
    obtain ⟨xs, x, qa, gx⟩ := hg
    obtain ⟨va, ra, pa, _⟩ := sq2_is I qa
    obtain ⟨u, hu, ru⟩ := ra.get gx
    have hh : X.A.in1.handled = none := I.ok.hd cal
    have el : e < s.heap.objs.size := Heap.lt_size he
    have li : i < va.toArray.size := by simpa using (List.getElem?_eq_some_iff.mp hu).1
    refine wpAny_pyNext_enum_itemD (drawsB hh c it a na va.toArray) he ⟨k1, pa⟩ li ne (by simp [ne, nae.symm]) fun x1 h1 tk p1 ho st1 hT hsz hk => ?_
    obtain rfl : u = x1 := by simpa [hu] using p1
    refine ⟨_, rfl, wpAny_letOwnedTupleGo_enum (s := { s with heap := h1, toks := tk + 1 }) ho fun h2 e2 sb => ?_⟩
    have hT2 : h2.get? s.heap.objs.size = some { cls := .type "tuple", data := .seq #[.int i tk, u] } := (sb.2 _ (Nat.ne_of_gt el)).trans hT
    have ok : ObjOk X.prog X.w (upd H s.heap.objs.size (.tup [.int (i : Nat), x])) h2 s.heap.objs.size (.tup [.int (i : Nat), x]) := ⟨by show 2 ≤ sizeLine; decide, [.int i tk, u], .cons ⟨_, rfl⟩ (.cons ru .nil), ⟨_, hT2, rfl, _, rfl⟩⟩
    have I2 : Inv X pins σ (upd H s.heap.objs.size (.tup [.int (i : Nat), x])) { s with heap := h2, toks := tk + 1 } := by
      refine I.turnedNew (ch := [e, it]) (fun b o hb q => ?_) hf (Nat.le_refl _) ok
      simp only [List.mem_cons, List.not_mem_nil, or_false, not_or] at hb
      exact (sb.2 b hb.1).trans (hk b o hb.1 hb.2 q)
    refine ⟨.ref s.heap.objs.size, _, I2, rfl, ⟨_, x, rfl, I.hok.fresh (Nat.le_refl _), rfl, fun l hl => ?_⟩, ⟨⟨u, ?_⟩, ?_⟩, fun b hb => ?_⟩
    · rw [sq2_inj I hl qa]
      exact gx
    · rw [show ((i + 1 : Nat) : Int) = (i : Int) + 1 from rfl]
      exact e2
    · exact st1.1.at fun o q => (sb.2 _ ne.symm).trans q
    · have hlt : b < s.heap.objs.size := by
        obtain ⟨o1, e1, _⟩ := k1.obj
        rcases (show b = e ∨ b = it by simpa using hb) with rfl | rfl
        · exact el
        · exact Heap.lt_size e1
      rw [upd_ne (Nat.ne_of_lt hlt)]
      exact (hf b hb).1
  done := by
    intro X eP ew eK cal i pins s σ H E I hf st hg
    subst eP ew eK
    obtain ⟨⟨old, he⟩, k1⟩ := st
    obtain ⟨xs, qa, rfl⟩ := hg
    obtain ⟨va, ra, pa, _⟩ := sq2_is I qa
    have hh : X.A.in1.handled = none := I.ok.hd cal
    have la : va.toArray.size = xs.length := by simpa using ra.length.symm
    refine wpAny_pyNext_enum_endD (drawsB hh c it a na va.toArray) he ⟨by rw [la]; exact k1, pa⟩ fun h1 ex => ⟨rfl, ?_⟩
    refine I.turnedL (t' := s.toks) (ch := [e, it]) (fun b o hb q => ?_) hf
    simp only [List.mem_cons, List.not_mem_nil, or_false, not_or] at hb
    exact ex b o hb.2 q
  self := fun A i s Q E st q => by
    obtain ⟨⟨old, he⟩, _⟩ := st
    exact wpAny_pyIter_enum he q
def iEnumB (K : PySem.W.Frag) (c : Bool) (ta : TA) : TI := fun σ H R => ta σ H fun vs H1 => ∃ a xs, vs = [.ref a] ∧ Sq2 K c H1 a xs ∧ R (ItEB K c a) H1
theorem pi_enumB (c : Bool) {X : Cx} {x : Expr} {ta : TA} {p pos tpos : Pos} {elts : List Expr} {kk : Nat} (hg : Gl X "enumerate") (hm : X.mg "enumerate" = none) (ha : PA X [x] ta) (hs : starEach [x] X.env = [(false, eval x X.env)] := by rfl) : PI X (.Tuple elts kk tpos) (.Call (.Name "enumerate" p) [x] [] pos) (iEnumB X.K c ta) := by
  refine ⟨fun pins s σ H R I h => Call_ (ld_blt I hg hm boot_enumerate (PyProof.Rows.callWith_type1 (thn (ha.run pos pins s σ H _ I h) fun us s1 ⟨vs, H1, I1, r1, q1⟩ => ?_) hs rfl))⟩
  obtain ⟨a, xs, ex, qa, q⟩ := q1
  subst ex
  obtain ⟨va, ra, pa, la⟩ := sq2_is I1 qa
  obtain ⟨o1, B1, it1⟩ := begB c a va.toArray
  cases r1 with
  | cons r rr =>
    cases rr
    cases r
    refine callEnum1 B1 pa fun h1 he g1 hk => wpAny_pyIter_enum he ?_
    have I2 : Inv X pins σ H1 { s1 with heap := h1 } := I1.kept (t' := s1.toks) hk
    refine ⟨s1.heap.objs.size + 1, [s1.heap.objs.size + 1, s1.heap.objs.size], _, _, H1, rfl, I2, turn_enumB (Nat.succ_ne_self _) (Nat.ne_of_lt la) (Nat.ne_of_lt (Nat.lt_succ_of_lt la)), ⟨⟨.none, he⟩, it1 _ _ g1⟩, fun b hb => ?_, q⟩
    have hle : s1.heap.objs.size ≤ b := by
      rcases (show b = s1.heap.objs.size + 1 ∨ b = s1.heap.objs.size by simpa using hb) with rfl | rfl
      · exact Nat.le_add_right _ 1
      · exact Nat.le_refl _
    exact I1.fpOk hle (I1.hok.fresh hle)
theorem walk_enumB {K : PySem.W.Frag} {c : Bool} {a : Addr} {xs : List V} : Walk (ItEB K c a) xs.length (fun H => Sq2 K c H a xs) (YPair (fun i => some (.int (i : Nat))) (fun i => xs[i]?)) := by
  refine ⟨fun i H hi q => ⟨xs, xs[i], q, List.getElem?_eq_getElem hi⟩, fun H q => ⟨xs, q, rfl⟩, fun i H v H' _ q y => ?_⟩
  obtain ⟨T, x, t1, t2, t3, t4⟩ := y
  exact ⟨T, .int (i : Nat), x, t1, t2, t3, rfl, t4 xs q⟩
end Deed

namespace Deed
open PySem PySem.Spec PyProof.Rows L2
/-! ### enumerate of a locked dict -/
section
variable {prog : Program} {w : World} {A : Around} {E : Value → Shared → Prop} {s : Shared}
/-- the keys' iterator drawn once -/
theorem nk_item {it d : Addr} {i n ep : Nat} {od : Obj} {es : Array DictEntry} {en : DictEntry} {Q : Value → Shared → Prop} (hit : s.heap.IsKeyIter it d i n ep) (hod : s.heap.get? d = some od) (hdd : od.data = .dict es ep)
    (hsz : es.size = n) (hx : es[i]? = some en) (hQ : ∀ h', h'.IsKeyIter it d (i + 1) n ep → Heap.SameBut it s.heap h' → Q en.key { s with heap := h' }) : wpAny (model prog w) A (Builtin.SmallTypes.nextOf (.ref it)) Q E s := by
  obtain ⟨o, ho, hc, hd⟩ := id hit
  have moved : (s.heap.update it (Obj.mapFields (·.setIfInBounds 1 (rawInt ((i : Int) + 1))))).IsKeyIter it d (i + 1) n ep := ⟨_, Heap.get?_update_self _ ho (Obj.isFreed_of_fields (Obj.data_mapFields hd _)), by rw [Obj.cls_mapFields]; exact hc, by rw [Obj.data_mapFields hd]; simp [rawInt]⟩
  have ty2 : ({ s with heap := s.heap.update it (Obj.mapFields (·.setIfInBounds 1 (rawInt ((i : Int) + 1)))) } : Shared).TypeIs (.ref it) "dict_keyiterator" := moved.typeIs
  have at_i : (if ((i : Nat) : Int) < 0 then none else es[((i : Nat) : Int).toNat]?) = some en := by
    rw [if_neg (by omega)]
    exact hx
  have own : Builtin.Dict_items.ownsTuple "dict_keyiterator" = false := by decide
  unfold Builtin.SmallTypes.nextOf
  refine wpAny_bind (wpAny_callSpecial?_slot hit.typeIs F.slot_dict_keyiterator_next (wpAny_call_entry F.slot_dict_keyiterator_next hit.typeIs F.entry_dict_keyiterator_next ?_ (F.args_dict_keyiterator_next_1 _)))
  wp_walk using wpAny_typeNameOfWhole_keyiter hit.typeIs, wpAny_fieldsOf ho hd, wpAny_dictEntries hod hdd, wpAny_dictEpoch hod hdd
  rw [at_i]
  refine wpAny_bind (wpAny_bind (wpAny_typeNameOfWhole_keyiter hit.typeIs (wpAny_pure ?_)))
  rw [own, if_neg Bool.false_ne_true]
  refine wpAny_bind (wpAny_isOneOf_keyiter hit.typeIs (wpAny_bind (wpAny_setField ho hd (by simp) (wpAny_bind (wpAny_holding (wpAny_bind (wpAny_isOneOf_keyiter ty2 ?_)))))))
  exact wpAny_pure (wpAny_pure ⟨_, rfl, wpAny_pure (hQ _ moved (Heap.SameBut.update ..))⟩)
/-- and at its end -/
theorem nk_end {it d : Addr} {i n ep : Nat} {od : Obj} {es : Array DictEntry} {Q : Value → Shared → Prop} (hh : A.handled = none) (hit : s.heap.IsKeyIter it d i n ep) (hod : s.heap.get? d = some od) (hdd : od.data = .dict es ep) (hsz : es.size = n) (hge : n ≤ i)
    (hE : ∀ h' e, Heap.ExtBut it s.heap h' → (∃ o, h'.get? e = some o ∧ o.cls = .type "StopIteration") → E (.ref e) { s with heap := h' }) : wpAny (model prog w) A (Builtin.SmallTypes.nextOf (.ref it)) Q E s := by
  obtain ⟨o, ho, hc, hd⟩ := id hit
  have hA : A.in1.handled = none := hh
  have at_i : (if ((i : Nat) : Int) < 0 then none else es[((i : Nat) : Int).toNat]?) = none := by
    rw [if_neg (by omega)]
    exact Array.getElem?_eq_none (by rw [hsz]; exact hge)
  have own : Builtin.Dict_items.ownsTuple "dict_keyiterator" = false := by decide
  unfold Builtin.SmallTypes.nextOf
  refine wpAny_bind (wpAny_callSpecial?_slot hit.typeIs F.slot_dict_keyiterator_next (wpAny_call_entry F.slot_dict_keyiterator_next hit.typeIs F.entry_dict_keyiterator_next ?_ (F.args_dict_keyiterator_next_1 _)))
  wp_walk using wpAny_typeNameOfWhole_keyiter hit.typeIs, wpAny_fieldsOf ho hd, wpAny_dictEntries hod hdd, wpAny_dictEpoch hod hdd
  rw [at_i]
  refine wpAny_bind (wpAny_bind (wpAny_typeNameOfWhole_keyiter hit.typeIs (wpAny_pure ?_)))
  rw [own, if_neg Bool.false_ne_true]
  refine wpAny_bind (wpAny_setField ho hd (by simp) ?_)
  wp_walk
  unfold raiseNew
  refine wpAny_bind (wpAny_handled ?_)
  rw [hA]
  refine wpAny_bind (wpAny_pure (wpAny_throw (hE _ _ ?_ ?_)))
  · exact ((Heap.SameBut.update ..).extBut.push _).push _
  · exact ⟨_, Heap.get?_push_size _ rfl, rfl⟩
end
theorem drawsK {prog : Program} {w : World} {A : Around} (hh : A.handled = none) (it d : Addr) (hne : d ≠ it) (o : Obj) (es : Array DictEntry) (ep : Nat) (hdd : o.data = .dict es ep) :
    Draws prog w A it [it, d] es.size (fun i v => ∃ en, es[i]? = some en ∧ v = en.key) (fun i h => h.IsKeyIter it d i es.size ep ∧ h.get? d = some o) where
  live := fun _ _ st => let ⟨o, ho, _⟩ := st.1; ⟨o, ho⟩
  frame := fun _ _ _ st hk => ⟨st.1.at fun o e => hk it (by simp) o e, hk d (by simp) _ st.2⟩
  item := fun i s Q E hi st hQ => by
    refine nk_item st.1 st.2 hdd rfl (en := es[i]) (by simp [hi]) fun h' hit' hs' => ?_
    exact hQ _ h' s.toks ⟨_, by simp [hi], rfl⟩ ⟨hit', (hs'.2 d hne).trans st.2⟩ hs'
  done := fun s Q E st hE => nk_end hh st.1 st.2 hdd rfl (Nat.le_refl _) hE
theorem begins_keys (d : Addr) (o : Obj) (es : Array DictEntry) (ep : Nat) (hd : (d == sysModules) = false) (hc : o.ExactDict) (hdat : o.data = .dict es ep) :
    Begins (.ref d) { cls := .type "dict_keyiterator", data := .fields #[.ref d, .int 0 0, .int es.size 0, .int ep 0] } fun h => h.get? d = some o where
  iter := fun prog w A E s Q hl h => iter_keys hd hl hc hdat h
  keeps := fun h h' x hk => hk d o x
  free := rfl
def ItEK (d : Addr) (o : Obj) (kvs : List (Key × V)) : It :=
  ⟨fun i H => H d = some (.frz o (.dK kvs)) ∧ i < kvs.length,
    fun i H v H' => ∃ T k x, v = .ref T ∧ H T = none ∧ H' = upd H T (.tup [.int (i : Nat), kV k]) ∧ kvs[i]? = some (k, x),
    fun i H => H d = some (.frz o (.dK kvs)) ∧ kvs.length = i⟩
theorem turn_enumK {P : Program} {w : World} {K : PySem.W.Frag} {elts : List Expr} {kk : Nat} {tpos : Pos} {d e it : Addr} {o : Obj} {kvs : List (Key × V)} {es : Array DictEntry} {ep : Nat} (hod : o.data = .dict es ep) (ne : e ≠ it) (nd : d ≠ it) (nde : d ≠ e) :
    Turn P w K (.Tuple elts kk tpos) (ItEK d o kvs) [e, it] e (fun i h => (∃ old, IsEnum h e it ((i : Nat) : Int) old) ∧ h.IsKeyIter it d i es.size ep) where
  mem := List.mem_cons_self
  obj := fun i h st b hb => by
    obtain ⟨⟨old, he⟩, oi, e1, c, dd⟩ := st
    rcases (show b = e ∨ b = it by simpa using hb) with rfl | rfl
    · exact ⟨_, he, fun v q => by cases q⟩
    · exact ⟨oi, e1, fun v q => by rw [dd] at q; cases q⟩
  keep := fun i h h' st k => by
    obtain ⟨⟨old, he⟩, k1⟩ := st
    exact ⟨⟨old, k e (by simp) _ he⟩, k1.at fun o z => k it (by simp) o z⟩
  item := by
    intro X eP ew eK cal i pins s σ H E I hf st hg
    subst eP ew eK
    obtain ⟨⟨old, he⟩, k1⟩ := st
    obtain ⟨hd, hi⟩ := hg
    obtain ⟨hs, hgd, hx, es', ep', vs, hdt, hsz, kv, hm⟩ := I.frzK hd
    obtain ⟨rfl, rfl⟩ := dict_ep hod hdt
    obtain ⟨⟨k, v⟩, hkv⟩ : ∃ p, kvs[i]? = some p := ⟨kvs[i], List.getElem?_eq_getElem hi⟩
    obtain ⟨u, hu, ru⟩ := kv_get kv hkv
    have hh : X.A.in1.handled = none := I.ok.hd cal
    have el : e < s.heap.objs.size := Heap.lt_size he
    refine wpAny_pyNext_enum_itemD (drawsK hh it d nd o _ _ hdt) he ⟨k1, hgd⟩ (by omega) ne (by simp [ne, nde.symm]) fun x1 h1 tk p1 ho st1 hT hsz1 hk => ?_
    obtain ⟨en, hen, rfl⟩ := p1
    have rk : RelV (kV k) en.key := by
      obtain ⟨od, es2, hod2, hcd, hdd, hk2, hp, hn⟩ := id hm
      rw [hgd] at hod2
      cases hod2
      obtain ⟨rfl, _⟩ := dict_ep hdt hdd
      exact relV_key (show keyIs k en.key = true from (hp.get? (e := en) (by simpa using hen) hu).1)
    refine ⟨_, rfl, wpAny_letOwnedTupleGo_enum (s := { s with heap := h1, toks := tk + 1 }) ho fun h2 e2 sb => ?_⟩
    have hT2 : h2.get? s.heap.objs.size = some { cls := .type "tuple", data := .seq #[.int i tk, en.key] } := (sb.2 _ (Nat.ne_of_gt el)).trans hT
    have ok : ObjOk X.prog X.w (upd H s.heap.objs.size (.tup [.int (i : Nat), kV k])) h2 s.heap.objs.size (.tup [.int (i : Nat), kV k]) := ⟨by show 2 ≤ sizeLine; decide, [.int i tk, en.key], .cons ⟨_, rfl⟩ (.cons rk .nil), ⟨_, hT2, rfl, _, rfl⟩⟩
    have I2 : Inv X pins σ (upd H s.heap.objs.size (.tup [.int (i : Nat), kV k])) { s with heap := h2, toks := tk + 1 } := by
      refine I.turnedNew (ch := [e, it]) (fun b o hb q => ?_) hf (Nat.le_refl _) ok
      simp only [List.mem_cons, List.not_mem_nil, or_false, not_or] at hb
      exact (sb.2 b hb.1).trans (hk b o hb.1 hb.2 q)
    refine ⟨.ref s.heap.objs.size, _, I2, rfl, ⟨_, k, v, rfl, I.hok.fresh (Nat.le_refl _), rfl, hkv⟩, ⟨⟨en.key, ?_⟩, ?_⟩, fun b hb => ?_⟩
    · rw [show ((i + 1 : Nat) : Int) = (i : Int) + 1 from rfl]
      exact e2
    · exact st1.1.at fun o q => (sb.2 _ ne.symm).trans q
    · have hlt : b < s.heap.objs.size := by
        obtain ⟨o1, e1, _⟩ := k1
        rcases (show b = e ∨ b = it by simpa using hb) with rfl | rfl
        · exact el
        · exact Heap.lt_size e1
      rw [upd_ne (Nat.ne_of_lt hlt)]
      exact (hf b hb).1
  done := by
    intro X eP ew eK cal i pins s σ H E I hf st hg
    subst eP ew eK
    obtain ⟨⟨old, he⟩, k1⟩ := st
    obtain ⟨hd, rfl⟩ := hg
    obtain ⟨hs, hgd, hx, es', ep', vs, hdt, hsz, kv, hm⟩ := I.frzK hd
    obtain ⟨rfl, rfl⟩ := dict_ep hod hdt
    have hh : X.A.in1.handled = none := I.ok.hd cal
    rw [← hsz] at k1
    refine wpAny_pyNext_enum_endD (drawsK hh it d nd o _ _ hdt) he ⟨k1, hgd⟩ fun h1 ex => ⟨rfl, ?_⟩
    refine I.turnedL (t' := s.toks) (ch := [e, it]) (fun b o hb q => ?_) hf
    simp only [List.mem_cons, List.not_mem_nil, or_false, not_or] at hb
    exact ex b o hb.2 q
  self := fun A i s Q E st q => by
    obtain ⟨⟨old, he⟩, _⟩ := st
    exact wpAny_pyIter_enum he q
/-- the dict is locked by the caller -/
def iEnumK (ta : TA) : TI := fun σ H R => ta σ H fun vs H1 => ∃ d o kvs, vs = [.ref d] ∧ H1 d = some (.frz o (.dK kvs)) ∧ R (ItEK d o kvs) H1
theorem pi_enumK {X : Cx} {x : Expr} {ta : TA} {p pos tpos : Pos} {elts : List Expr} {kk : Nat} (hg : Gl X "enumerate") (hm : X.mg "enumerate" = none) (ha : PA X [x] ta) (hs : starEach [x] X.env = [(false, eval x X.env)] := by rfl) : PI X (.Tuple elts kk tpos) (.Call (.Name "enumerate" p) [x] [] pos) (iEnumK ta) := by
  refine ⟨fun pins s σ H R I h => Call_ (ld_blt I hg hm boot_enumerate (PyProof.Rows.callWith_type1 (thn (ha.run pos pins s σ H _ I h) fun us s1 ⟨vs, H1, I1, r1, q1⟩ => ?_) hs rfl))⟩
  obtain ⟨d, o, kvs, ex, hd, q⟩ := q1
  subst ex
  obtain ⟨hsm, hgd, hx, es, ep, vs, hdt, hsz, kv, hm2⟩ := I1.frzK hd
  have la : d < s1.heap.objs.size := Heap.lt_size hgd
  cases r1 with
  | cons r rr =>
    cases rr
    cases r
    refine callEnum1 (begins_keys d o es ep hsm hx hdt) hgd fun h1 he g1 hk => wpAny_pyIter_enum he ?_
    have I2 : Inv X pins σ H1 { s1 with heap := h1 } := I1.kept (t' := s1.toks) hk
    refine ⟨s1.heap.objs.size + 1, [s1.heap.objs.size + 1, s1.heap.objs.size], _, _, H1, rfl, I2, turn_enumK hdt (Nat.succ_ne_self _) (Nat.ne_of_lt la) (Nat.ne_of_lt (Nat.lt_succ_of_lt la)), ⟨⟨.none, he⟩, ⟨_, g1, rfl, rfl⟩⟩, fun b hb => ?_, q⟩
    have hle : s1.heap.objs.size ≤ b := by
      rcases (show b = s1.heap.objs.size + 1 ∨ b = s1.heap.objs.size by simpa using hb) with rfl | rfl
      · exact Nat.le_add_right _ 1
      · exact Nat.le_refl _
    exact I1.fpOk hle (I1.hok.fresh hle)
theorem walk_enumK {d : Addr} {o : Obj} {kvs : List (Key × V)} : Walk (ItEK d o kvs) kvs.length (fun H => H d = some (.frz o (.dK kvs))) (YPair (fun i => some (.int (i : Nat))) (fun i => (kvs[i]?).map fun p => kV p.1)) := by
  refine ⟨fun i H hi q => ⟨q, hi⟩, fun H q => ⟨q, rfl⟩, fun i H v H' _ q y => ?_⟩
  obtain ⟨T, k, x, t1, t2, t3, t4⟩ := y
  exact ⟨T, .int (i : Nat), kV k, t1, t2, t3, rfl, by show (kvs[i]?).map (fun p => kV p.1) = _; rw [t4]; rfl⟩
end Deed

namespace Deed
open PySem PySem.Spec PyProof.Rows L2 LamX
/-! ### what gives a thing, now or later -/
theorem gName_ap {i : Nat} {v : V} {σ : L2.St} {H : Hp} {Q : L2.St → Hp → Prop} : gName i v σ H Q = Q (σ.set i (some v)) H := rfl
theorem tSeq_ap {t u : TS} {D : Ends} {σ : L2.St} {H : Hp} : tSeq t u D σ H = t { D with nx := u D } σ H := rfl
theorem tAsg_ap {te : TE} {g : TG} {D : Ends} {σ : L2.St} {H : Hp} : tAsg te g D σ H = te σ H (fun x H1 => g x σ H1 D.nx) := rfl
def tupN (m : Nat) (t : Tg) : Prop := ∃ ts, t = .tup ts ∧ ts.length ≤ m
def GE (p : Addr) (te : TE) (σ : L2.St) (H : Hp) (R : Tg → Prop) : Prop := ∀ H1, Kp p H H1 → PenAt H1 p → ∀ Q : VK, (∀ v t H', Kp p H1 H' → PenAt H' p → TgAt p H' v t → R t → Q v H') → te σ H1 Q
def GA (p : Addr) (ta : TA) (σ : L2.St) (H : Hp) (n : Nat) : Prop := ∀ H1, Kp p H H1 → PenAt H1 p → ∀ Q : List V → Hp → Prop, (∀ vs ts H', Kp p H1 H' → PenAt H' p → TgAll p H' vs ts → vs.length = n → Q vs H') → ta σ H1 Q
def GI (p : Addr) (te : TE) (σ : L2.St) (H : Hp) : Prop := ∀ H1, Kp p H H1 → PenAt H1 p → ∀ Q : VK, (∀ i H', Kp p H1 H' → PenAt H' p → Q (.int i) H') → te σ H1 Q
def GO (p : Addr) (to : TO) (σ : L2.St) (H : Hp) : Prop := ∀ H1, Kp p H H1 → PenAt H1 p → ∀ Q : Option Int → Hp → Prop, (∀ o H', Kp p H1 H' → PenAt H' p → Q o H') → to σ H1 Q
section
variable {p : Addr} {σ : L2.St} {H : Hp} {K : PySem.W.Frag} {te tb : TE} {ta : TA} {R : Tg → Prop}
theorem GE.imp {R' : Tg → Prop} (h : GE p te σ H R) (i : ∀ t, R t → R' t) : GE p te σ H R' := fun H1 k P Q q => h H1 k P Q fun v t H' k' P' hT hR => q v t H' k' P' hT (i t hR)
theorem ge_int {i : Int} : GE p (tC (.int i)) σ H (fun t => t = .int i) := fun H1 _ P Q q => q _ _ H1 (Kp.refl _ _) P (.int i) rfl
theorem ge_bl {b : Bool} : GE p (tC (.bl b)) σ H (fun _ => True) := fun H1 _ P Q q => q _ _ H1 (Kp.refl _ _) P (.bl b) trivial
theorem ge_non : GE p (tC .non) σ H (fun _ => True) := fun H1 _ P Q q => q _ _ H1 (Kp.refl _ _) P .non trivial
theorem ge_str {x : Str} : GE p (tC (.str x)) σ H (fun _ => True) := fun H1 _ P Q q => q _ _ H1 (Kp.refl _ _) P (.str x) trivial
theorem ge_neg {r : V → Hp → VK → Prop} {i : Int} (hr : r = rU fun i => .int (-i)) : GE p (tUn r (tC (.int i))) σ H (fun _ => True) := by
  subst hr
  exact fun H1 _ P Q q => ⟨_, rfl, q _ _ H1 (Kp.refl _ _) P (.int _) trivial⟩
theorem ge_gi (h : GI p te σ H) : GE p te σ H (fun _ => True) := fun H1 k P Q q => h H1 k P Q fun i H' k' P' => q _ _ H' k' P' (.int i) trivial
theorem ge_var {i : Nat} {v : V} {t : Tg} (hP : PenAt H p) (hv : σ[i]? = some (some v)) (hT : TgAt p H v t) (hR : R t) : GE p (tVar i) σ H R := fun H1 k P Q q => ⟨v, hv, q _ _ H1 (Kp.refl _ _) P (TgAt.kp k hP _ _ hT) hR⟩
theorem ge_varT {i : Nat} {v : V} {t : Tg} (hP : PenAt H p) (hv : σ[i]? = some (some v)) (hT : TgAt p H v t) : GE p (tVar i) σ H (fun _ => True) := ge_var hP hv hT trivial
theorem ga_nil : GA p tNil σ H 0 := fun H1 _ P Q q => q [] [] H1 (Kp.refl _ _) P .nil rfl
theorem ga_cons {n : Nat} (h1 : GE p te σ H R) (h2 : GA p ta σ H n) : GA p (tCons te ta) σ H (n + 1) := fun H1 k P Q q => h1 H1 k P _ fun v t H2 k2 P2 hT _ => h2 H2 (k.trans k2) P2 _ fun vs ts H3 k3 P3 hts hl => q _ _ H3 (k2.trans k3) P3 (.cons (TgAt.kp k3 P2 _ _ hT) hts) (by rw [List.length_cons, hl])
theorem ge_tup {n : Nat} (h : GA p ta σ H n) (hn : n ≤ 1000 := by decide) : GE p (tTup ta) σ H (tupN n) := fun H1 k P Q q => h H1 k P _ fun vs ts H2 k2 P2 hts hl => ⟨Nat.le_of_lt (small1000 (by omega)), fun a na => q _ _ _ (k2.trans (Kp.new na _)) (P2.new na _) (.tup upd_same (TgAll.kp (Kp.new na _) P2 _ _ hts)) ⟨ts, rfl, by rw [← hts.length, hl]; exact Nat.le_refl _⟩⟩
theorem ge_catA {m n : Nat} (h1 : GE p te σ H (tupN m)) (h2 : GE p tb σ H (tupN n)) (hmn : m + n ≤ 1000 := by decide) : GE p (tOp (rCatA K) te tb) σ H (tupN (m + n)) := fun H1 k P Q q => h1 H1 k P _ fun v t H2 k2 P2 hT hR => h2 H2 (k.trans k2) P2 _ fun v' t' H3 k3 P3 hT' hR' => by
  obtain ⟨ts, rfl, hl⟩ := hR
  obtain ⟨ts', rfl, hl'⟩ := hR'
  have hT3 := TgAt.kp k3 P2 _ _ hT
  cases hT3 with
  | @tup a xs _ ea ha =>
  cases hT' with
  | @tup b ys _ eb hb =>
  have e1 := ha.length
  have e2 := hb.length
  refine catA_same ea eb (by omega) fun c H4 s4 e4 => ?_
  have P4 : PenAt H4 p := by
    obtain ⟨x1, x2, x3, x4, z1, z2⟩ := P3
    exact ⟨x1, x2, x3, x4, s4 _ _ z1, z2⟩
  exact q _ _ H4 (k2.trans (k3.trans (Kp.same s4))) P4 (.tup e4 ((TgAll.same s4 _ _ ha).append (TgAll.same s4 _ _ hb))) ⟨_, rfl, by rw [List.length_append]; omega⟩
theorem ge_slA {m : Nat} {tl th : TO} (h : GE p te σ H (tupN m)) (hl : GO p tl σ H) (hh : GO p th σ H) : GE p (tSl (rSlA K) te tl th) σ H (tupN m) := fun H1 k P Q q => h H1 k P _ fun v t H2 k2 P2 hT hR => hl H2 (k.trans k2) P2 _ fun lo H3 k3 P3 => hh H3 (k.trans (k2.trans k3)) P3 _ fun hi H4 k4 P4 => by
  obtain ⟨ts, rfl, hm⟩ := hR
  have hT4 := TgAt.kp (k3.trans k4) P2 _ _ hT
  cases hT4 with
  | @tup a xs _ ea ha =>
  refine slA_same ea fun c H5 s5 e5 => ?_
  have P5 : PenAt H5 p := by
    obtain ⟨x1, x2, x3, x4, z1, z2⟩ := P4
    exact ⟨x1, x2, x3, x4, s5 _ _ z1, z2⟩
  obtain ⟨ts', hts'⟩ := (TgAll.same s5 _ _ ha).cut lo hi
  refine q _ _ H5 (k2.trans (k3.trans (k4.trans (Kp.same s5)))) P5 (.tup e5 hts') ⟨_, rfl, ?_⟩
  have := hts'.length
  have h9 : (cutV xs lo hi).length ≤ xs.length := cutV_length xs lo hi
  have := ha.length
  omega
theorem go_none : GO p tNoPart σ H := fun H1 _ P Q q => q none H1 (Kp.refl _ _) P
theorem go_some (h : GI p te σ H) : GO p (tPart te) σ H := fun H1 k P Q q => h H1 k P _ fun i H' k' P' => ⟨i, rfl, q _ H' k' P'⟩
theorem gi_int {i : Int} : GI p (tC (.int i)) σ H := fun H1 _ P Q q => q i H1 (Kp.refl _ _) P
theorem gi_neg {r : V → Hp → VK → Prop} {i : Int} (hr : r = rU fun i => .int (-i)) : GI p (tUn r (tC (.int i))) σ H := by
  subst hr
  exact fun H1 _ P Q q => ⟨_, rfl, q _ H1 (Kp.refl _ _) P⟩
theorem gi_var {i : Nat} {n : Int} (hv : σ[i]? = some (some (.int n))) : GI p (tVar i) σ H := fun H1 _ P Q q => ⟨_, hv, q n H1 (Kp.refl _ _) P⟩
theorem gi_add (h1 : GI p te σ H) (h2 : GI p tb σ H) : GI p (tOp (rI0 fun i j => .int (i + j)) te tb) σ H := fun H1 k P Q q => h1 H1 k P _ fun i H2 k2 P2 => h2 H2 (k.trans k2) P2 _ fun j H3 k3 P3 => ⟨i, j, rfl, rfl, q _ H3 (k2.trans k3) P3⟩
theorem gi_sub (h1 : GI p te σ H) (h2 : GI p tb σ H) : GI p (tOp (rI0 fun i j => .int (i - j)) te tb) σ H := fun H1 k P Q q => h1 H1 k P _ fun i H2 k2 P2 => h2 H2 (k.trans k2) P2 _ fun j H3 k3 P3 => ⟨i, j, rfl, rfl, q _ H3 (k2.trans k3) P3⟩
/-- a draw -/
theorem gi_draw {i : Nat} {bd : Int} {E : XK} (hv : σ[i]? = some (some (.ref p))) (h0 : 0 < bd := by decide) (h1 : bd < 1073741824 := by decide) : GI p (tCall spDraw [] E (tCons (tVar i) (tCons (tC (.int bd)) tNil))) σ H := fun H1 k P Q q => ⟨_, hv, p, bd, rfl, P, h0, h1, fun v H2 k2 P2 _ _ => q v H2 k2 P2⟩
/-- the first number of a tuple -/
theorem gi_ix0 (h : GE p te σ H (fun t => ∃ i r, t = .tup (.int i :: r))) : GI p (tOp (rIxT K) te (tC (.int 0))) σ H := fun H1 k P Q q => h H1 k P _ fun v t H2 k2 P2 hT hR => by
  obtain ⟨i, r, rfl⟩ := hR
  cases hT with
  | @tup a xs _ ea ha =>
  cases ha with
  | cons h1 _ =>
  cases h1
  exact ⟨a, _, 0, .int i, rfl, rfl, SqT.of ea, atI_nat (j := 0) rfl, q i H2 k2 P2⟩
/-- list(t) -/
theorem ge_list {m : Nat} (h : GE p te σ H (tupN m)) : GE p (tCB (fun xs H Q => ∃ p ys, xs = [.ref p] ∧ (SqL K H p ys ∨ SqT K H p ys) ∧ ∀ l, H l = none → Q (.ref l) (upd H l (.lst ys))) (tCons te tNil)) σ H (fun _ => True) := fun H1 k P Q q => h H1 k P _ fun v t H2 k2 P2 hT hR => by
  obtain ⟨ts, rfl, hm⟩ := hR
  cases hT with
  | @tup a xs _ ea ha =>
  exact ⟨a, xs, rfl, .inr (SqT.of ea), fun l nl => q _ _ _ (k2.trans (Kp.new nl _)) (P2.new nl _) (.lst (P2.free nl) upd_same) trivial⟩
/-- t * 6 -/
theorem ge_rep {n : Int} (h : GE p te σ H (fun t => ∃ ts, t = .tup ts ∧ ts ≠ [] ∧ ts.length ≤ 1000)) (h2 : 2 ≤ n := by decide) (h3 : n ≤ 1000 := by decide) : GE p (tOp (rRepT K) te (tC (.int n))) σ H (fun _ => True) := fun H1 k P Q q => h H1 k P _ fun v t H2 k2 P2 hT hR => by
  obtain ⟨ts, rfl, hne, hm⟩ := hR
  cases hT with
  | @tup a xs _ ea ha =>
  have hl := ha.length
  refine ⟨a, n, xs, rfl, rfl, SqT.of ea, fun z => hne (List.eq_nil_of_length_eq_zero (by rw [← hl, z]; rfl)), h2, h3, by omega, fun b nb => ?_⟩
  exact q _ _ _ (k2.trans (Kp.new nb _)) (P2.new nb _) (.tup upd_same (TgAll.kp (Kp.new nb _) P2 _ _ (ha.rep _))) trivial
/-- a list of things -/
def ThL (p : Addr) (H : Hp) (L : Addr) (n : Nat) : Prop := L ≠ p ∧ ∃ vs ts, H L = some (.lst vs) ∧ TgAll p H vs ts ∧ vs.length = n
theorem ThL.kp {H' : Hp} {L : Addr} {n : Nat} (h : ThL p H L n) (k : Kp p H H') (P : PenAt H p) : ThL p H' L n := by
  obtain ⟨h1, vs, ts, h2, h3, h4⟩ := h
  exact ⟨h1, vs, ts, k _ _ h1 h2, TgAll.kp k P _ _ h3, h4⟩
theorem gl_lst {n : Nat} {Q : VK} (h : GA p ta σ H n) (P : PenAt H p) (q : ∀ L H', Kp p H H' → PenAt H' p → H L = none → ThL p H' L n → Q (.ref L) H') (hn : n ≤ 1000 := by decide) : tLst ta σ H Q := h H (Kp.refl _ _) P _ fun vs ts H2 k2 P2 hts hl => ⟨Nat.le_of_lt (small1000 (by omega)), fun a na => q _ _ (k2.trans (Kp.new na _)) (P2.new na _) (k2.noneG (P2.free na) na) ⟨P2.free na, vs, ts, upd_same, TgAll.kp (Kp.new na _) P2 _ _ hts, hl⟩⟩
/-- two lists of things put together -/
theorem ThL.cat {L M : Addr} {m n : Nat} {Q : VK} (h1 : ThL p H L m) (h2 : ThL p H M n) (P : PenAt H p) (hmn : m + n ≤ 1000) (q : ∀ N H', Kp p H H' → PenAt H' p → H N = none → ThL p H' N (m + n) → Q (.ref N) H') : rCat (.ref L) (.ref M) H Q := by
  obtain ⟨a1, vs, ts, a2, a3, a4⟩ := h1
  obtain ⟨b1, us, rs, b2, b3, b4⟩ := h2
  refine ⟨L, M, vs, us, rfl, rfl, a2, b2, Nat.le_of_lt (small1000 (by omega)), fun N nN => ?_⟩
  exact q N _ (Kp.new nN _) (P.new nN _) nN ⟨P.free nN, _, _, upd_same, TgAll.kp (Kp.new nN _) P _ _ (a3.append b3), by rw [List.length_append, a4, b4]⟩
/-- one more behind -/
theorem ThL.snoc {L : Addr} {n : Nat} {v : V} {t : Tg} (h : ThL p H L n) (P : PenAt H p) (hT : TgAt p H v t) : ∃ xs, H L = some (.lst xs) ∧ xs.length = n ∧ PenAt (upd H L (.lst (xs ++ [v]))) p ∧ ThL p (upd H L (.lst (xs ++ [v]))) L (n + 1) := by
  obtain ⟨a1, vs, ts, a2, a3, a4⟩ := h
  refine ⟨vs, a2, a4, ?_, a1, _, _, upd_same, (TgAll.relist a2 _ _ a3).append (.cons (TgAt.relist a2 _ _ hT) .nil), by rw [List.length_append, a4]; rfl⟩
  obtain ⟨x1, x2, x3, x4, z1, z2⟩ := P
  exact ⟨x1, x2, x3, x4, by rw [upd_ne fun z => a1 z.symm]; exact z1, z2⟩
end
end Deed

namespace Deed
open PySem PySem.Spec PyProof.Rows L2 LamX
abbrev sLaw : Stmt := topS 71
abbrev nLaw : List Str := ["_law_script", "_law_k", "_law_pen_here", "_law_book_here", "_law_entries_here", "_law_turn", "_law_d", "_law_known", "_law_other", "_law_words_here", "_law_whys", "_law_later", "_law_at", "_law_number", "_law_things", "_law_thing_here", "_law_due", "_law_found", "_law_lap"]
abbrev pLaw : List Str := ["_law_script"]
theorem scLaw : FnScope nLaw pLaw (defScope sLaw) := ⟨rfl, rfl, rfl, by decide +kernel, rfl, by decide +kernel, by decide +kernel⟩
mutual
theorem TgAt.ext {p : Addr} {H H' : Hp} (k : ExtN H H') : ∀ (t : Tg) (v : V), TgAt p H v t → TgAt p H' v t
  | .non, _, h => by cases h; exact .non
  | .bl _, _, h => by cases h; exact .bl _
  | .int _, _, h => by cases h; exact .int _
  | .str _, _, h => by cases h; exact .str _
  | .lst, _, h => by
    cases h with
    | lst n e => exact .lst n (k _ _ e fun _ z => by cases z)
  | .tup ts, _, h => by
    cases h with
    | tup e ha => exact .tup (k _ _ e fun _ z => by cases z) (TgAll.ext k ts _ ha)
  | .dct, _, h => by
    cases h with
    | dct n e => exact .dct n (k _ _ e fun _ z => by cases z)
theorem TgAll.ext {p : Addr} {H H' : Hp} (k : ExtN H H') : ∀ (ts : List Tg) (vs : List V), TgAll p H vs ts → TgAll p H' vs ts
  | [], _, h => by cases h; exact .nil
  | t :: ts, _, h => by
    cases h with
    | cons h1 h2 => exact .cons (TgAt.ext k t _ h1) (TgAll.ext k ts _ h2)
end
mutual
/-- of what holds no list the tuples are enough -/
theorem TgAt.kpD {p : Addr} {H H' : Hp} (k : KpT H H') : ∀ {d : Dat} {v : V}, Da H v d → d.sm = true → TgAt p H' v d.tg
  | .non, _, h, _ => by cases h; exact .non
  | .bl b, _, h, _ => by cases h; exact .bl b
  | .int i, _, h, _ => by cases h; exact .int i
  | .str x, _, h, _ => by cases h; exact .str x
  | .oth, _, h, o => by unfold Dat.sm at o; cases o
  | .tup ds, _, h, o => by
    cases h with
    | tup e ha =>
      unfold Dat.sm at o
      rw [Bool.and_eq_true] at o
      exact .tup (k _ _ e) (TgAll.kpD k ha o.2)
theorem TgAll.kpD {p : Addr} {H H' : Hp} (k : KpT H H') : ∀ {ds : List Dat} {vs : List V}, DaAll H vs ds → Dat.smAll ds = true → TgAll p H' vs (Dat.tgAll ds)
  | [], _, h, _ => by cases h; exact .nil
  | d :: r, _, h, o => by
    unfold Dat.smAll at o
    rw [Bool.and_eq_true] at o
    cases h with
    | cons h1 h2 => exact .cons (TgAt.kpD k h1 o.1) (TgAll.kpD k h2 o.2)
end
theorem ge_thing {p : Addr} {σ : L2.St} {H : Hp} {m i : Nat} {bd : Int} {E : XK} (hv : σ[i]? = some (some (.ref p))) (h0 : 0 ≤ bd) (h1 : bd < m) : GE p (tCall (spLThing m) [] E (tCons (tVar i) (tCons (tC (.int bd)) tNil))) σ H (fun _ => True) := fun H1 k P Q q => ⟨_, hv, p, bd, rfl, P, h0, h1, fun v H2 k2 P2 ⟨t, ht⟩ => q v t H2 k2 P2 ht trivial⟩
theorem turns2 (m : Nat) : ∃ tn : Int, (if (if 2 < (m : Int) then 2 else (m : Int)) > 1 then (if 2 < (m : Int) then 2 else (m : Int)) else 1) = tn ∧ 0 ≤ tn ∧ tn ≤ 2 := ⟨_, rfl, by split <;> split <;> omega, by split <;> split <;> omega⟩
mutual
theorem TgAt.xp {p : Addr} {H H' : Hp} (x : XP p H H') (P : PenAt H p) : ∀ {t : Tg} {v : V}, TgAt p H v t → TgAt p H' v t
  | .non, _, h => by cases h; exact .non
  | .bl b, _, h => by cases h; exact .bl b
  | .int i, _, h => by cases h; exact .int i
  | .str s, _, h => by cases h; exact .str s
  | .lst, _, h => by
    cases h with
    | lst n e => exact .lst n (x _ _ n e fun _ z => nomatch z)
  | .dct, _, h => by
    cases h with
    | dct n e => exact .dct n (x _ _ n e fun _ z => nomatch z)
  | .tup ts, _, h => by
    cases h with
    | tup e ha => exact .tup (x.tup P _ _ e) (TgAll.xp x P ha)
theorem TgAll.xp {p : Addr} {H H' : Hp} (x : XP p H H') (P : PenAt H p) : ∀ {ts : List Tg} {vs : List V}, TgAll p H vs ts → TgAll p H' vs ts
  | [], _, h => by cases h; exact .nil
  | t :: r, _, h => by
    cases h with
    | cons h1 h2 => exact .cons (TgAt.xp x P h1) (TgAll.xp x P h2)
end
theorem ExtN.unlock {H H' : Hp} {d : Addr} {u v : HO} (hd : H d = some u) (e : ExtN (upd H d v) H') : ExtN H (upd H' d u) := fun b o q n => by
  by_cases hb : b = d
  · rw [hb, upd_same]
    rw [hb, hd] at q
    exact q
  · rw [upd_ne hb]
    exact e b o (by rw [upd_ne hb]; exact q) n
theorem kpT_unlock {H' : Hp} {d : Addr} {u : HO} {od : Obj} {kvs : List (Key × V)} (e : H' d = some (.frz od (.dK kvs))) : KpT H' (upd H' d u) := fun b xs q => by
  rw [upd_ne fun z => by rw [z, e] at q; cases q]
  exact q
/-- a thing out of a list, by a number -/
theorem ge_ixL {p : Addr} {σ : L2.St} {H : Hp} {K : PySem.W.Frag} {i j : Nat} {M : Addr} {vs : List V} {n : Nat} {v : V} {t : Tg} {R : Tg → Prop} (hP : PenAt H p) (hM : σ[i]? = some (some (.ref M))) (hi : σ[j]? = some (some (.int (n : Int)))) (nM : M ≠ p) (eM : H M = some (.lst vs)) (hv : vs[n]? = some v) (hT : TgAt p H v t) (hR : R t) : GE p (tOp (rIxL K) (tVar i) (tVar j)) σ H R := fun H1 k P Q q => ⟨_, hM, _, hi, M, vs, n, v, rfl, rfl, SqL.of (k _ _ nM eM), atI_nat hv, q _ _ H1 (Kp.refl _ _) P (TgAt.kp k hP _ _ hT) hR⟩
section
variable {P : Program} {w : World} {K : PySem.W.Frag} {mg : Str → Option Value} {base : Heap} {T : List (Addr × Str)}
def spLaw (K : PySem.W.Frag) (T : List (Addr × Str)) : Sp := fun vs H Q _ => ∃ (a : Addr) (ns : List Int), vs = [.ref a] ∧ SqL K H a (ns.map V.int) ∧ ns.length ≤ 63 ∧ Tabs T H ∧ ∀ H', Q (.bl true) H'
theorem ok_law {f : Addr} {fd : FuncData} {k : Nat} (F : Fun K "law" "law" sLaw f fd) (C__law_cell_at : CallOk P w K mg base k "_law_cell_at" ["_law_script", "_law_k"] (spCell K)) (C__law_pen : CallOk P w K mg base k "_law_pen" ["_law_cell"] spPen) (C__law_book : CallOk P w K mg base k "_law_book" ["_law_pen_here", "_law_most"] spBook) (C__law_entries : CallOk P w K mg base k "_law_entries" ["_law_book_here"] spEnts) (C__law_days : CallOk P w K mg base k "_law_days" pDays spDays) (C__law_words : CallOk P w K mg base k "_law_words" pWords spWords) (C_why_of : CallOk P w K mg base k "why_of" pWhyOf (spWhyOf T)) (C__law_thing : CallOk P w K mg base k "_law_thing" pLThing (spLThing 4)) (C__law_spoilt : CallOk P w K mg base k "_law_spoilt" pLSpoilt (spLSpoilt 34)) (C__law_draw : CDrw P w K mg base k) (C__law_is_why : CallOk P w K mg base k "_law_is_why" pLIsWhy (spLIsWhy T 31)) (C_why_holds : CallOk P w K mg base k "why_holds" pWhyHolds (spWhyHolds T)) (m_len : mg "len" = none) (m_min : mg "min" = none) (m_max : mg "max" = none) (m_range : mg "range" = none) (m_enumerate : mg "enumerate" = none) (m_list : mg "list" = none) (m_isinstance : mg "isinstance" = none) (m_bool : mg "bool" = none) : FnOk P w K mg base CX0 (k + 1) f fd pLaw (spLaw K T) := by
  refine F.ok scLaw (fun vs H Q E h => ?_) (fun cdv A outer s H vs Q E hr h => ?_)
  · obtain ⟨a, ns, rfl, _⟩ := h
    rfl
  · obtain ⟨a, ns, rfl, hS, h63, hT, q⟩ := h
    have nd := scLaw.nd
    have hu := hu_of hr
    refine ⟨_, pss_cons (ps_for PassesOwn.never rfl (pi_range1 rfl m_range (pa_cons (pe_callB (call_max2 rfl) (by rfl) m_max (by decide +kernel) (pa_cons pe_int (pa_cons (pe_callB (call_min2 rfl) (by rfl) m_min (by decide +kernel) (pa_cons (pe_callB call_len_seq (by rfl) m_len (by decide +kernel) (pa_cons (pv 0) pa_nil)) (pa_cons pe_int pa_nil))) pa_nil))) pa_nil)) (pg_name (i := 1) nd rfl (.inl rfl))
        (pss_cons (ps_set (i := 2) nd rfl (.inr rfl) (pe_call C__law_pen.ok hr (by rfl) C__law_pen.g C__law_pen.kp C__law_pen.b .nil pass0 (pa_cons (pe_call C__law_cell_at.ok hr (by rfl) C__law_cell_at.g C__law_cell_at.kp C__law_cell_at.b .nil pass0 (pa_cons (pv 0) (pa_cons (pv 1) pa_nil))) pa_nil)))
      (pss_cons (ps_set (i := 3) nd rfl (.inr rfl) (pe_call C__law_book.ok hr (by rfl) C__law_book.g C__law_book.kp C__law_book.b .nil pass0 (pa_cons (pv 2) (pa_cons pe_int pa_nil))))
      (pss_cons (ps_set (i := 4) nd rfl (.inl rfl) (pe_call C__law_entries.ok hr (by rfl) C__law_entries.g C__law_entries.kp C__law_entries.b .nil pass0 (pa_cons (pv 3) pa_nil)))
      (pss_one (ps_for PassesOwn.never rfl (pi_range1 rfl m_range (pa_cons pe_int pa_nil)) (pg_name (i := 5) nd rfl (.inl rfl))
        (pss_cons (ps_asg (pe_call C__law_days.ok hr (by rfl) C__law_days.g C__law_days.kp C__law_days.b .nil pass0 (pa_cons (pv 2) (pa_cons (pv 3) pa_nil))) (pg_tup (by rfl) (pgs_cons (pg_name (i := 6) nd rfl (.inr rfl)) (pgs_cons (pg_name (i := 7) nd rfl (.inr rfl)) pgs_nil))))
      (pss_cons (ps_set (i := 8) nd rfl (.inr rfl) (pe_call C__law_days.ok hr (by rfl) C__law_days.g C__law_days.kp C__law_days.b .nil pass0 (pa_cons (pv 2) (pa_cons (pv 3) pa_nil))))
      (pss_cons (ps_set (i := 9) nd rfl (.inl rfl) (pe_call C__law_words.ok hr (by rfl) C__law_words.g C__law_words.kp C__law_words.b .nil pass0 (pa_cons (pv 4) (pa_cons (pv 6) (pa_cons (pv 7) pa_nil)))))
      (pss_cons (ps_set (i := 10) nd rfl (.inr rfl) (pe_lock (pe_lc (own := [("_law_number", 13)]) (g := gName 13) (by rfl) nd (pi_keys (pv 9)) (blkOk_by (own := [("_law_number", 13)]) (N := nLaw) (sc := defScope sLaw) (by decide +kernel)) (fun _ _ _ _ _ => (pg_name (i := 13) nd rfl (.inl rfl))) (fun _ _ _ _ _ => pts_nil)
          (fun _ _ _ _ _ => (pe_call C_why_of.ok hr (by rfl) C_why_of.g C_why_of.kp C_why_of.b .nil pass0 (pa_cons (pv 3) (pa_cons (pv 13) (pa_cons (pv 6) (pa_cons (pv 7) pa_nil)))))))))
      (pss_cons (ps_lock (ps_setLc (i := 11) (own := [("_law_number", 13)]) (g := gName 13) (by rfl) nd rfl rfl (sw_true rfl rfl rfl (by decide +kernel)) (pi_keys (pv 9)) (blkOk_by (own := [("_law_number", 13)]) (N := nLaw) (sc := defScope sLaw) (by decide +kernel)) (fun _ _ _ _ _ => (pg_name (i := 13) nd rfl (.inl rfl))) (fun _ _ _ _ _ => pts_nil)
          (fun _ _ _ _ _ => (pe_call C_why_of.ok hr (by rfl) C_why_of.g C_why_of.kp C_why_of.b .nil pass0 (pa_cons (pv 3) (pa_cons (pv 13) (pa_cons (pe_ix (ix_tupK (K := K) (by rfl)) (pv 8) pe_int (fun _ _ => rfl)) (pa_cons (pe_ix (ix_tupK (K := K) (by rfl)) (pv 8) pe_int (fun _ _ => rfl)) pa_nil))))))))
      (pss_one (ps_lock (ps_for PassesOwn.never rfl (pi_enumK (by rfl) m_enumerate (pa_cons (pv 9) pa_nil)) (pg_tup (by rfl) (pgs_cons (pg_name (i := 12) nd rfl (.inr rfl)) (pgs_cons (pg_name (i := 13) nd rfl (.inl rfl)) pgs_nil)))
        (pss_cons (ps_set (i := 14) nd rfl (.inl rfl) (pe_lst (pa_cons (pe_ix ix_list (pv 10) (pv 12) (fun _ _ => rfl)) (pa_cons (pe_callTy call_list_of (by rfl) m_list (by decide +kernel) (pa_cons (pe_ix ix_list (pv 10) (pv 12) (fun _ _ => rfl)) pa_nil)) (pa_cons (pe_ix ix_list (pv 11) (pv 12) (fun _ _ => rfl)) (pa_cons (pe_call C__law_thing.ok hr (by rfl) C__law_thing.g C__law_thing.kp C__law_thing.b .nil pass0 (pa_cons (pv 2) (pa_cons pe_int pa_nil))) (pa_cons (pe_slice sl_tupA (pe_ix ix_list (pv 10) (pv 12) (fun _ _ => rfl)) po_none (po_some (pe_un un_neg pe_int))) (pa_cons (pe_op op_catA (pe_ix ix_list (pv 10) (pv 12) (fun _ _ => rfl)) (pe_tup (pa_cons (pe_tup pa_nil) pa_nil))) pa_nil))))))))
      (pss_cons (ps_set (i := 14) nd rfl (.inl rfl) (pe_op op_cat (pv 14) (pe_lc (own := [("_law_lap", 18)]) (g := gName 18) (by rfl) nd (pi_range1 rfl m_range (pa_cons pe_int pa_nil)) (blkOk_by (own := [("_law_lap", 18)]) (N := nLaw) (sc := defScope sLaw) (by decide +kernel)) (fun _ _ _ _ _ => (pg_name (i := 18) nd rfl (.inl rfl))) (fun _ _ _ _ _ => pts_nil)
          (fun _ _ _ _ _ => (pe_call C__law_spoilt.ok hr (by rfl) C__law_spoilt.g C__law_spoilt.kp C__law_spoilt.b .nil pass0 (pa_cons (pv 2) (pa_cons (pe_ix (ix_listK (K := K) (by rfl)) (pv 10) (pv 12) (fun _ _ => rfl)) pa_nil)))))))
      (pss_cons (ps_expr (pe_bm PySem.F.plainAttrs_list PySem.F.slot_list_append PySem.F.type_list_append mt_append (pv 14) (pa_cons (pe_ix ix_list (pv 10) (pe_call C__law_draw.ok hr (by rfl) C__law_draw.g C__law_draw.kp C__law_draw.b .nil pass0 (pa_cons (pv 2) (pa_cons (pe_callB call_len_seq (by rfl) m_len (by decide +kernel) (pa_cons (pv 10) pa_nil)) pa_nil))) (fun _ _ => rfl)) pa_nil)))
      (pss_one (ps_for PassesOwn.never rfl (pi_list (pv 14)) (pg_name (i := 15) nd rfl (.inl rfl))
        (pss_cons (ps_set (i := 16) nd rfl (.inl rfl) (pe_call C__law_is_why.ok hr (by rfl) C__law_is_why.g C__law_is_why.kp C__law_is_why.b .nil pass0 (pa_cons (pv 4) (pa_cons (pv 9) (pa_cons (pv 13) (pa_cons (pv 6) (pa_cons (pv 7) (pa_cons (pv 15) pa_nil))))))))
      (pss_cons (ps_set (i := 17) nd rfl (.inl rfl) (pe_call C_why_holds.ok hr (by rfl) C_why_holds.g C_why_holds.kp C_why_holds.b .nil pass0 (pa_cons (pv 3) (pa_cons (pv 13) (pa_cons (pv 6) (pa_cons (pv 7) (pa_cons (pv 15) pa_nil)))))))
      (pss_one (ps_if (PW.pt (pw_or (pt_not (pt_val (pe_callB call_isi (by rfl) m_isinstance (by decide +kernel) (pa_cons (pv 17) (pa_cons (pe_bltn (v := .ty "bool") (by rfl) m_bool (by decide +kernel) rfl) pa_nil))))) (pw_or1 (pt_cmpR op_ne (pv 17) (pv 16) (nomark _))))) (pss_one (ps_ret pe_bl)) pss_nil)))))))))))))))))))))))
      (pss_one (ps_ret pe_bl)), ?_⟩
    have hl : (ns.map V.int).length = ns.length := List.length_map _
    refine ⟨_, rfl, a, _, rfl, .inl hS, _, _, rfl, _, _, rfl, ?_⟩
    rw [hl]
    obtain ⟨tn, etn, ht0, ht3⟩ := turns2 ns.length
    rw [etn]
    refine ⟨_, rfl, by omega, by omega, ?_⟩
    refine for_range (lo := 0) (n := tn.toNat) (fun i σ H' => ∃ r, σ = some (.ref a) :: r ∧ r.length = 18 ∧ ExtN H H' ∧ Tabs T H') ⟨_, rfl, rfl, ExtN.refl H, hT⟩ ?_ (fun σ H' _ => q H')
    rintro i σ H' hi ⟨r, rfl, hrl, eN, T'⟩
    obtain ⟨y1, y2, y3, y4, y5, y6, y7, y8, y9, y10, y11, y12, y13, y14, y15, y16, y17, y18, rfl⟩ : ∃ y1 y2 y3 y4 y5 y6 y7 y8 y9 y10 y11 y12 y13 y14 y15 y16 y17 y18, r = [y1, y2, y3, y4, y5, y6, y7, y8, y9, y10, y11, y12, y13, y14, y15, y16, y17, y18] := by
      match r, hrl with
      | [a, b, c, d, e, f, g, h, i, j, k, l, m, n, o, p, q, r], _ => exact ⟨a, b, c, d, e, f, g, h, i, j, k, l, m, n, o, p, q, r, rfl⟩
    refine ⟨_, rfl, _, rfl, a, ns, _, rfl, ExtN.sqL eN hS, by omega, fun cv => ?_⟩
    refine ⟨cv, rfl, fun p H1 s1 np P1 => ?_⟩
    have T1 : Tabs T H1 := T'.ext s1
    refine ⟨_, rfl, p, 11, rfl, P1, by decide, by decide, fun b fk t n age zs H2 k2 P2 hB2 hz11 => ?_⟩
    have T2 : Tabs T H2 := Tabs.kp T1 k2 P1
    have e2 : ExtN H' H2 := ExtN.kp (ExtN.of s1) np k2
    refine ⟨_, rfl, b, fk, t, n, age, zs, rfl, hB2, fun ed H6 s6 ned hE6 => ?_⟩
    have P6 : PenAt H6 p := ExtN.pen (.of s6) P2
    have T6 : Tabs T H6 := T2.ext s6
    have hB6 := hB2.kp (Same.tup s6)
    have e6 : ExtN H' H6 := e2.trans (.of s6)
    refine ⟨3, rfl, by decide, by decide, ?_⟩
    refine for_range (lo := 0) (n := (3 : Int).toNat) (fun j σ H7 => ∃ y5 y6 y7 y8 y9 y10 y11 y12 y13 y14 y15 y16 y17 y18, σ = [some (.ref a), some (.int (0 + (i : Int))), some (.ref p), some (.ref b), some (.ref ed), y5, y6, y7, y8, y9, y10, y11, y12, y13, y14, y15, y16, y17, y18] ∧ XP p H6 H7 ∧ PenAt H7 p ∧ Tabs T H7) ⟨_, _, _, _, _, _, _, _, _, _, _, _, _, _, rfl, XP.refl _ _, P6, T6⟩ ?_ ?_
    · rintro j2 σ H7 hj2 ⟨w5, w6, w7, w8, w9, w10, w11, w12, w13, w14, w15, w16, w17, w18, rfl, x7, P7, T7⟩
      have hB7 := hB6.kp (x7.tup P6)
      refine ⟨_, rfl, _, rfl, p, b, fk, t, n, age, zs, rfl, P7, hB7, fun ta d kk H8 k8 P8 eta hd hk => ?_⟩
      refine ⟨ta, [.int d, .int kk], rfl, SqT.of eta, rfl, .int d, [.int kk], rfl, .int kk, [], rfl, rfl, ?_⟩
      have x8 : XP p H6 H8 := x7.trans (XP.ofK k8)
      have T8 : Tabs T H8 := Tabs.kp T7 k8 P7
      have hB8 := hB6.kp (x8.tup P6)
      refine ⟨_, rfl, _, rfl, p, b, fk, t, n, age, zs, rfl, P8, hB8, fun tb d2 kk2 H9 k9 P9 etb hd2 hk2 => ?_⟩
      have x9 : XP p H6 H9 := x8.trans (XP.ofK k9)
      have T9 : Tabs T H9 := Tabs.kp T8 k9 P8
      have hB9 := hB6.kp (x9.tup P6)
      have hE9 := hE6.xp x9 P6
      refine ⟨_, rfl, _, rfl, _, rfl, ed, d, kk, n, zs, rfl, hE9, fun du us H10 s10 ndu edu hDU => ?_⟩
      have T10 : Tabs T H10 := T9.ext s10
      have P10 : PenAt H10 p := ExtN.pen (.of s10) P9
      have hB10 := hB9.kp (Same.tup s10)
      have hE10 := hE9.same s10
      have etb10 := s10 _ _ etb
      have ndup : du ≠ p := (P9.free ndu)
      obtain ⟨ys, hO⟩ := oa_some hE10.ok d kk
      obtain ⟨yo, hO2⟩ := oa_some hE10.ok d2 kk2
      have hf11 : (ens zs).length ≤ 11 := by rw [List.length_map]; omega
      have hul : us.length ≤ 16 := hDU.2.2
      generalize hwk : wdE (ens zs) d kk (ens us) = kvs at edu
      have hkl : kvs.length = us.length := by rw [← hwk]; simp [wdE, ens]
      have hkey : ∀ (i : Nat) (e : En), (ens us)[i]? = some e → (kvs[i]?).map (fun p => kV p.1) = some (.int e.num) := fun i e he => by
        rw [← hwk]
        unfold wdE
        rw [List.getElem?_map, he]
        rfl
      have hmem : ∀ {i : Nat} {e : En}, (ens us)[i]? = some e → e ∈ ens zs ∧ e.isDeed = true := fun {i e} he => (hDU.2.1 e).mp (List.mem_of_getElem? he)
      have hel : (ens us).length = us.length := List.length_map _
      have nf : ∀ (od : Obj) (ps : Array Value), HO.frz od (.dK kvs) ≠ .tbl ps := fun _ _ z => by cases z
      refine ⟨du, _, edu, trivial, fun od => ?_⟩
      have hL : ∀ b0 o, b0 ≠ du → H10 b0 = some o → (upd H10 du (.frz od (.dK kvs))) b0 = some o := fun b0 o nb e => by
        rw [upd_ne nb]
        exact e
      have hLe : (upd H10 du (.frz od (.dK kvs))) du = some (.frz od (.dK kvs)) := upd_same
      have TL : Tabs T (upd H10 du (.frz od (.dK kvs))) := Tabs.lock T10 edu _
      have un : ∀ {H' : Hp}, ExtN (upd H10 du (.frz od (.dK kvs))) H' → ExtN H10 (upd H' du (.dK kvs)) := fun e => ExtN.unlock edu e
      generalize (upd H10 du (.frz od (.dK kvs))) = HL at hL hLe TL un
      have kL : KpT H10 HL := fun b0 xs0 e0 => hL b0 _ (fun z => by rw [z, edu] at e0; cases e0) e0
      have hBL := hB10.kp kL
      have pfree : ∀ {x : Addr}, HL x = none → x ≠ p := fun {x} z e => by
        obtain ⟨x1, x2, x3, x4, z1, z2⟩ := P10
        rw [e, hL _ _ ndup.symm z1] at z
        cases z
      refine ⟨_, rfl, du, od, rfl, .inl ⟨kvs, hLe, fun M nM => ?_⟩⟩
      have nMp : M ≠ p := pfree nM
      have nMd : M ≠ du := fun z => by
        rw [z, hLe] at nM
        cases nM
      refine lc_extDa T walk_keys (ens us) (fun e => why (ens zs) ys d kk e.num) (by rw [hkl, hel]) (by omega) nM TL (fun H s => s _ _ hLe (nf od)) ?_ ?_
      · rintro i3 y x H3 H4 hy s3 T3 ⟨rfl, kkey, vv, hkv, rfl⟩ Q1 q1
        have hk3 := hkey i3 y hy
        rw [hkv] at hk3
        have hk4 : kV kkey = V.int y.num := Option.some.inj hk3
        rw [hk4]
        obtain ⟨h1, h2⟩ := hmem hy
        refine ⟨rfl, _, rfl, _, rfl, _, rfl, _, rfl, b, fk, t, n, age, zs, y, d, kk, rfl, hBL.kp (ExtN.tup s3), T3, h1, h2, hd, hk, fun a5 ys5 H5 e5 T5 hO5 hd5 => ?_⟩
        obtain rfl := hO.one hO5
        exact q1 a5 H5 e5 T5 hd5
      intro H12 as e12 T12 eM eas haz
      have z12 := e12 _ _ hLe (nf od)
      refine ⟨z12, ?_⟩
      have e13 := un e12
      have eM13 : (upd H12 du (.dK kvs)) M = some (.lst (as.map fun z => V.ref z.1)) := by
        rw [upd_ne nMd]
        exact eM
      have kU : KpT H12 (upd H12 du (.dK kvs)) := kpT_unlock z12
      have T13 : Tabs T (upd H12 du (.dK kvs)) := Tabs.unlock T12 z12 _
      have du13 : (upd H12 du (.dK kvs)) du = some (.dK kvs) := upd_same
      generalize (upd H12 du (.dK kvs)) = H13 at e13 eM13 kU T13 du13
      have P13 : PenAt H13 p := ExtN.pen e13 P10
      have etb13 := e13 _ _ etb10 fun _ z => nomatch z
      refine ⟨du, _, du13, trivial, fun od2 => ?_⟩
      have hL2 : ∀ b0 o, b0 ≠ du → H13 b0 = some o → (upd H13 du (.frz od2 (.dK kvs))) b0 = some o := fun b0 o nb e => by
        rw [upd_ne nb]
        exact e
      have hLe2 : (upd H13 du (.frz od2 (.dK kvs))) du = some (.frz od2 (.dK kvs)) := upd_same
      have TL2 : Tabs T (upd H13 du (.frz od2 (.dK kvs))) := Tabs.lock T13 du13 _
      have un2 : ∀ {H' : Hp}, ExtN (upd H13 du (.frz od2 (.dK kvs))) H' → ExtN H13 (upd H' du (.dK kvs)) := fun e => ExtN.unlock du13 e
      generalize (upd H13 du (.frz od2 (.dK kvs))) = HM at hL2 hLe2 TL2 un2
      have kL2 : KpT H13 HM := fun b0 xs0 e0 => hL2 b0 _ (fun z => by rw [z, du13] at e0; cases e0) e0
      have hBM := (hB10.kp (ExtN.tup e13)).kp kL2
      have etbM := kL2 _ _ etb13
      refine ⟨_, rfl, du, od2, rfl, .inl ⟨kvs, hLe2, fun M2 nM2 => ?_⟩⟩
      have nM2p : M2 ≠ p := fun e => by
        obtain ⟨x1, x2, x3, x4, z1, z2⟩ := P13
        rw [e, hL2 _ _ ndup.symm z1] at nM2
        cases nM2
      have nM2d : M2 ≠ du := fun z => by
        rw [z, hLe2] at nM2
        cases nM2
      refine lc_extDa T walk_keys (ens us) (fun e => why (ens zs) yo d2 kk2 e.num) (by rw [hkl, hel]) (by omega) nM2 TL2 (fun H s => s _ _ hLe2 (nf od2)) ?_ ?_
      · rintro i3 y x H3 H4 hy s3 T3 ⟨rfl, kkey, vv, hkv, rfl⟩ Q1 q1
        have hk3 := hkey i3 y hy
        rw [hkv] at hk3
        have hk4 : kV kkey = V.int y.num := Option.some.inj hk3
        rw [hk4]
        obtain ⟨h1, h2⟩ := hmem hy
        refine ⟨rfl, _, rfl, _, rfl, _, rfl, tb, _, _, _, rfl, rfl, SqT.of (ExtN.tup s3 _ _ etbM), (atI_nat (j := 0) rfl), _, rfl, tb, _, _, _, rfl, rfl, SqT.of (ExtN.tup s3 _ _ etbM), (atI_nat (j := 1) rfl), b, fk, t, n, age, zs, y, d2, kk2, rfl, hBM.kp (ExtN.tup s3), T3, h1, h2, hd2, hk2, fun a5 ys5 H5 e5 T5 hO5 hd5 => ?_⟩
        obtain rfl := hO2.one hO5
        exact q1 a5 H5 e5 T5 hd5
      intro H14 as2 e14 T14 eM2 eas2 haz2
      have z14 := e14 _ _ hLe2 (nf od2)
      refine ⟨z14, ?_⟩
      have e15 := un2 e14
      have eM215 : (upd H14 du (.dK kvs)) M2 = some (.lst (as2.map fun z => V.ref z.1)) := by
        rw [upd_ne nM2d]
        exact eM2
      have kU2 : KpT H14 (upd H14 du (.dK kvs)) := kpT_unlock z14
      have T15 : Tabs T (upd H14 du (.dK kvs)) := Tabs.unlock T14 z14 _
      have du15 : (upd H14 du (.dK kvs)) du = some (.dK kvs) := upd_same
      generalize (upd H14 du (.dK kvs)) = H15 at e15 eM215 kU2 T15 du15
      have P15 : PenAt H15 p := ExtN.pen e15 P13
      refine ⟨du, _, du15, trivial, fun od3 => ?_⟩
      have hL3 : ∀ b0 o, b0 ≠ du → H15 b0 = some o → (upd H15 du (.frz od3 (.dK kvs))) b0 = some o := fun b0 o nb e => by
        rw [upd_ne nb]
        exact e
      have hLe3 : (upd H15 du (.frz od3 (.dK kvs))) du = some (.frz od3 (.dK kvs)) := upd_same
      have TL3 : Tabs T (upd H15 du (.frz od3 (.dK kvs))) := Tabs.lock T15 du15 _
      generalize (upd H15 du (.frz od3 (.dK kvs))) = HN at hL3 hLe3 TL3
      have kN : KpT H15 HN := fun b0 xs0 e0 => hL3 b0 _ (fun z => by rw [z, du15] at e0; cases e0) e0
      have PN : PenAt HN p := by
        obtain ⟨x1, x2, x3, x4, z1, z2⟩ := P15
        exact ⟨x1, x2, x3, x4, hL3 _ _ ndup.symm z1, z2⟩
      have hBN := ((hB10.kp (ExtN.tup e13)).kp (ExtN.tup e15)).kp kN
      have hE15 := (hE10.extN e13).extN e15
      have ned2 : ed ≠ du := fun z => by
        rw [← z, hE9.at_] at ndu
        cases ndu
      have hEN : EdAt HN ed n zs := ⟨hL3 _ _ ned2 hE15.at_, fun z hz => (hE15.ent z hz).kp kN, hE15.ok, hE15.len⟩
      have eMN := hL3 _ _ nMd (e15 _ _ eM13 fun _ z => nomatch z)
      have eM2N := hL3 _ _ nM2d eM215
      have k12N : KpT H12 HN := fun b0 xs0 e0 => kN _ _ (ExtN.tup e15 _ _ (kU _ _ e0))
      have k14N : KpT H14 HN := fun b0 xs0 e0 => kN _ _ (kU2 _ _ e0)
      have hyl : ys.length ≤ 16 := by
        have h2 := hO.len
        omega
      have hyl2 : yo.length ≤ 16 := by
        have h2 := hO2.len
        omega
      have tgs : ∀ z ∈ as, TgAt p HN (.ref z.1) z.2.tg := fun z hz => by
        obtain ⟨u, hu, e⟩ := List.mem_map.mp (show z.2 ∈ (ens us).map (fun e => why (ens zs) ys d kk e.num) by rw [← eas]; exact List.mem_map.mpr ⟨z, hz, rfl⟩)
        obtain ⟨q1, q2⟩ := (hDU.2.1 u).mp hu
        exact TgAt.kpD k12N (haz z hz) (by rw [← e]; exact why_sm hO (by omega) q1 q2)
      have tgs2 : ∀ z ∈ as2, TgAt p HN (.ref z.1) z.2.tg := fun z hz => by
        obtain ⟨u, hu, e⟩ := List.mem_map.mp (show z.2 ∈ (ens us).map (fun e => why (ens zs) yo d2 kk2 e.num) by rw [← eas2]; exact List.mem_map.mpr ⟨z, hz, rfl⟩)
        obtain ⟨q1, q2⟩ := (hDU.2.1 u).mp hu
        exact TgAt.kpD k14N (haz2 z hz) (by rw [← e]; exact why_sm hO2 (by omega) q1 q2)
      have hal : as.length = us.length := by
        have := congrArg List.length eas
        rw [List.length_map, List.length_map, hel] at this
        exact this
      have hal2 : as2.length = us.length := by
        have := congrArg List.length eas2
        rw [List.length_map, List.length_map, hel] at this
        exact this
      refine ⟨_, rfl, du, od3, kvs, rfl, hLe3, ?_⟩
      refine for_it walk_enumK (fun i3 σ H' => ∃ y12 y13 y14 y15 y16 y17 y18, σ = [some (.ref a), some (.int (0 + (i : Int))), some (.ref p), some (.ref b), some (.ref ed), some (.int (0 + (j2 : Int))), some (.int d), some (.int kk), some (.ref tb), some (.ref du), some (.ref M), some (.ref M2), y12, y13, y14, y15, y16, y17, y18] ∧ XP p HN H' ∧ PenAt H' p ∧ Tabs T H') ⟨_, _, _, _, _, _, _, rfl, XP.refl _ _, PN, TL3⟩ (fun i3 σ H' _ h => ?_) ?_ ?_
      · obtain ⟨_, _, _, _, _, _, _, _, x, _⟩ := h
        exact x _ _ ndup hLe3 (nf od3)
      · rintro i3 x σ H16 H17 hi3 ⟨y12, y13, y14, y15, y16, y17, y18, rfl, x16, P16, T16⟩ ⟨Tt, w1, w2, rfl, nT, rfl, g1, g2⟩
        cases g1
        have hi4 : i3 < (ens us).length := by omega
        obtain ⟨e, he⟩ : ∃ e, (ens us)[i3]? = some e := ⟨_, List.getElem?_eq_getElem hi4⟩
        obtain ⟨he1, he2⟩ := hmem he
        have g3 : (kvs[i3]?).map (fun p => kV p.1) = some w2 := g2
        rw [hkey i3 e he] at g3
        cases g3
        have s17 := same_new nT (.tup [.int (i3 : Nat), .int e.num])
        refine ⟨Tt, _, rfl, SqT.of upd_same, rfl, _, _, rfl, _, _, rfl, rfl, ?_⟩
        generalize (upd H16 Tt (.tup [.int (i3 : Nat), .int e.num])) = H17 at s17
        have P17 : PenAt H17 p := ExtN.pen (.of s17) P16
        have T17 : Tabs T H17 := T16.ext s17
        have xN17 : XP p HN H17 := x16.trans (XP.ofS s17)
        have kN17 : KpT HN H17 := xN17.tup PN
        have hia : i3 < as.length := by omega
        have hia2 : i3 < as2.length := by omega
        have hpa : (as[i3]).2 = why (ens zs) ys d kk e.num := by
          have h1 : (as.map (·.2))[i3]? = ((ens us).map fun e => why (ens zs) ys d kk e.num)[i3]? := by rw [eas]
          rw [List.getElem?_map, List.getElem?_map, List.getElem?_eq_getElem hia, he] at h1
          exact Option.some.inj h1
        obtain ⟨wr, ewy⟩ := why_head hO.bk ys d kk he1 he2
        have hsm : (why (ens zs) ys d kk e.num).sm = true := why_sm hO (by omega) he1 he2
        have hdp : (why (ens zs) ys d kk e.num).dep < 34 := by
          have h1 := (why_fine hO he1 he2).2
          omega
        have hfit : FitsN 34 (why (ens zs) ys d kk e.num).tg := sm_fits 34 _ hsm hdp
        have hTp : TgAt p H17 (.ref (as[i3]).1) (why (ens zs) ys d kk e.num).tg := by
          have h1 := tgs as[i3] (List.getElem_mem hia)
          rw [hpa] at h1
          exact TgAt.xp xN17 PN h1
        have hTp2 := TgAt.xp xN17 PN (tgs2 as2[i3] (List.getElem_mem hia2))
        have hN3 : tupN 300 (why (ens zs) ys d kk e.num).tg := by
          rw [ewy] at hsm ⊢
          have h2 : (wr.length + 2) ≤ 300 := by
            unfold Dat.sm at hsm
            rw [Bool.and_eq_true] at hsm
            exact of_decide_eq_true hsm.1
          refine ⟨Dat.tgAll (.str (st (ens zs) d kk e) :: .int e.num :: wr), rfl, ?_⟩
          rw [tgAll_map, List.length_map]
          exact h2
        have eM17 := xN17 _ _ nMp eMN fun _ z => nomatch z
        have eM217 := xN17 _ _ nM2p eM2N fun _ z => nomatch z
        have hvi : (as.map fun z => V.ref z.1)[i3]? = some (.ref (as[i3]).1) := by rw [List.getElem?_map, List.getElem?_eq_getElem hia]; rfl
        have hvi2 : (as2.map fun z => V.ref z.1)[i3]? = some (.ref (as2[i3]).1) := by rw [List.getElem?_map, List.getElem?_eq_getElem hia2]; rfl
        show tSeq _ _ _ _ _
        rw [tSeq_ap]
        rw [tAsg_ap]
        refine gl_lst (ga_cons (ge_ixL (R := fun _ => True) P17 rfl rfl nMp eM17 hvi hTp trivial) (ga_cons (ge_list (ge_ixL P17 rfl rfl nMp eM17 hvi hTp hN3)) (ga_cons (ge_ixL (R := fun _ => True) P17 rfl rfl nM2p eM217 hvi2 hTp2 trivial) (ga_cons (ge_thing (m := 4) rfl (by decide) (by decide)) (ga_cons (ge_slA (ge_ixL P17 rfl rfl nMp eM17 hvi hTp hN3) go_none (go_some (gi_neg rfl))) (ga_cons (ge_catA (m := 300) (n := 1) (ge_ixL P17 rfl rfl nMp eM17 hvi hTp hN3) (ge_tup (ga_cons (ge_tup ga_nil) ga_nil))) ga_nil)))))) P17 fun L15 H15' k15 P15' nL15 hL15 => ?_
        show gName 14 _ _ _ _
        rw [gName_ap]
        dsimp only
        rw [tSeq_ap]
        rw [tAsg_ap]
        refine ⟨_, rfl, _, rfl, by decide, by decide, fun M5 nM5 => ?_⟩
        have nM5p : M5 ≠ p := P15'.free nM5
        refine lc_range (lo := 0) (n := 6) (fun i H' => Kp p H15' H' ∧ PenAt H' p ∧ ThL p H' M5 i) ⟨Kp.new nM5 _, P15'.new nM5 _, nM5p, [], [], upd_same, .nil, rfl⟩ ?_ ?_
        · rintro i5 H18 hi5 ⟨k18, P18, hM18⟩
          refine ⟨rfl, ?_⟩
          unfold tYes
          dsimp only
          rw [if_pos rfl]
          have k1718 := k15.trans k18
          refine ⟨_, rfl, _, rfl, _, rfl, M, _, ((i3 : Nat) : Int), .ref (as[i3]).1, rfl, rfl, SqL.of (k1718 _ _ nMp eM17), atI_nat hvi, p, _, _, rfl, P18, TgAt.kp k1718 P17 _ _ hTp, hfit, fun v H19 k19 P19 ⟨tv, hv⟩ => ?_⟩
          obtain ⟨xs, ex, hxl, P20, h20⟩ := (hM18.kp k19 P18).snoc P19 hv
          exact ⟨_, ex, small1000 (by omega), (k18.trans k19).over nM5 _, P20, h20⟩
        rintro H18 ⟨k18, P18, hM18⟩
        have hM18' : ThL p H18 M5 6 := hM18
        show rCat _ _ _ _
        refine ThL.cat (hL15.kp k18 P15') hM18' P18 (by decide) fun L19 H19 k19 P19 nL19 hL19 => ?_
        have k1719 : Kp p H17 H19 := k15.trans (k18.trans k19)
        have eM19 := k1719 _ _ nMp eM17
        have hul : ((as.map fun z => V.ref z.1).length : Int) = as.length := by rw [List.length_map]
        refine ⟨_, rfl, .inl ⟨rfl, _, SqL.of hL19.2.choose_spec.choose_spec.1⟩, _, rfl, _, rfl, _, rfl, M, _, rfl, .inl (SqL.of eM19), p, _, rfl, P19, by omega, by omega, fun o H20 k20 P20 a20 b20 => ?_⟩
        have hoa : o.toNat < as.length := by omega
        have eM20 := k20 _ _ nMp eM19
        have hTo : TgAt p H20 (.ref (as[o.toNat]).1) (as[o.toNat]).2.tg := TgAt.kp (k1719.trans k20) P17 _ _ (TgAt.xp xN17 PN (tgs as[o.toNat] (List.getElem_mem hoa)))
        obtain ⟨xs6, ex6, hxl6, P21, h21⟩ := (hL19.kp k20 P19).snoc P20 hTo
        refine ⟨M, _, o, .ref (as[o.toNat]).1, rfl, rfl, SqL.of eM20, at_of (j := o.toNat) (by omega) (by rw [List.getElem?_map, List.getElem?_eq_getElem hoa]; rfl), L19, xs6, .ref (as[o.toNat]).1, rfl, rfl, ex6, small1000 (by omega), ?_⟩
        have k1721 : Kp p H17 (upd H20 L19 (.lst (xs6 ++ [.ref (as[o.toNat]).1]))) := (k15.trans k18).trans ((k19.trans k20).over nL19 _)
        have k1921 : Kp p H18 (upd H20 L19 (.lst (xs6 ++ [.ref (as[o.toNat]).1]))) := (k19.trans k20).over nL19 _
        generalize (upd H20 L19 (.lst (xs6 ++ [.ref (as[o.toNat]).1]))) = H21 at k1721 k1921 P21 h21
        have xN21 : XP p HN H21 := xN17.trans (XP.ofK k1721)
        have T21 : Tabs T H21 := Tabs.kp T17 k1721 P17
        obtain ⟨nL21p, vs, ts, eL21, hts, hvl⟩ := h21
        have hB21 := hBN.kp (xN21.tup PN)
        have hE21 := hEN.xp xN21 PN
        have du21 := xN21 _ _ ndup hLe3 (nf od3)
        have hlt : lessN (ens zs) 31 e.num := ⟨e, he1, he2, rfl, by have hr := hO.bk.rng e he1; omega⟩
        refine ⟨_, rfl, L19, rfl, ⟨_, SqL.of eL21⟩, ?_⟩
        refine for_list (K := K) (a := L19) (xs := vs) (fun i6 σ H' => ∃ y15 y16 y17 y18, σ = [some (.ref a), some (.int (0 + (i : Int))), some (.ref p), some (.ref b), some (.ref ed), some (.int (0 + (j2 : Int))), some (.int d), some (.int kk), some (.ref tb), some (.ref du), some (.ref M), some (.ref M2), some (.int ((i3 : Nat) : Int)), some (.int e.num), some (.ref L19), y15, y16, y17, y18] ∧ ExtN H21 H' ∧ Tabs T H') ⟨_, _, _, _, rfl, ExtN.refl _, T21⟩ (fun i6 σ H' _ h => ?_) ?_ ?_
        · obtain ⟨_, _, _, _, _, e, _⟩ := h
          exact SqL.of (e _ _ eL21 fun _ z => nomatch z)
        · rintro i6 xv σ H24 hx ⟨y15, y16, y17, y18, rfl, e24, T24⟩
          obtain ⟨tx, _, htx⟩ := hts.get hx
          have hda : Da H24 xv tx.dat := (TgAt.ext e24 _ _ htx).da
          have hE24 := hE21.extN e24
          have hB24 := hB21.kp (ExtN.tup e24)
          have hW24 : WordR H24 du (ens zs) d kk := ⟨zs, us, rfl, hDU, .inr ⟨od3, by rw [hwk]; exact e24 _ _ du21 (nf od3)⟩⟩
          refine ⟨_, rfl, _, rfl, _, rfl, _, rfl, _, rfl, _, rfl, ed, du, e.num, d, kk, n, zs, ys, xv, _, rfl, hE24, hW24, hO, hlt, hda, T24, fun H25 e25 T25 => ?_⟩
          refine ⟨_, rfl, _, rfl, _, rfl, _, rfl, _, rfl, b, fk, t, n, age, zs, e, d, kk, xv, _, rfl, hB24.kp (ExtN.tup e25), T25, he1, he2, hd, hk, hda.ext e25, trivial, fun ys3 H27 e27 T27 hO3 => ?_⟩
          obtain rfl := hO.one hO3
          refine ⟨_, rfl, _, _, _, _, true, rfl, .ty "bool", .base (.bl _), kit_ty (by decide +kernel), _, rfl, ?_⟩
          refine iteF ?_
          refine ⟨_, rfl, _, rfl, rfl, _, rfl, ?_⟩
          refine ite2 (fun c9 => ?_) (fun c9 => ?_)
          · exfalso
            simp at c9
          · exact ⟨_, _, _, _, rfl, e24.trans (e25.trans e27), T27⟩
        · rintro σ H24 ⟨y15, y16, y17, y18, rfl, e24, T24⟩
          exact ⟨_, _, _, _, _, _, _, rfl, xN21.trans (XP.ofN e24), ExtN.pen e24 P21, T24⟩
      · rintro σ H16 ⟨y12, y13, y14, y15, y16, y17, y18, rfl, x16, P16, T16⟩
        have z16 := x16 _ _ ndup hLe3 (nf od3)
        refine ⟨z16, _, _, _, _, _, _, _, _, _, _, _, _, _, _, rfl, ?_, ?_, Tabs.unlock T16 z16 _⟩
        · intro b0 o0 nb h0 ht0
          have h1 : H9 b0 = some o0 := x9 b0 o0 nb h0 ht0
          have hb : b0 ≠ du := fun z => by
            rw [z, ndu] at h1
            cases h1
          rw [upd_ne hb]
          exact x16 _ _ nb (hL3 _ _ hb (e15 _ _ (e13 _ _ (s10 _ _ h1) ht0) ht0)) ht0
        · obtain ⟨x1, x2, x3, x4, z1, z2⟩ := P16
          exact ⟨x1, x2, x3, x4, by rw [upd_ne ndup.symm]; exact z1, z2⟩
    rintro σ H7 ⟨w5, w6, w7, w8, w9, w10, w11, w12, w13, w14, w15, w16, w17, w18, rfl, x7, P7, T7⟩
    exact ⟨_, rfl, rfl, eN.trans (x7.toN e6 np), T7⟩
end
end Deed

namespace Deed
open PySem PySem.Spec PyProof.Rows L2 LamX
theorem szB_ok {K : PySem.W.Frag} {w : World} {es : Array DictEntry} {n : Nat} {x : Str} {i : Int} (D : KDict K w (He.ga K "WHY_SIZES") es n) (h : szB K x i = true) : KDct K w (He.ga K "WHY_SIZES") x (.int i) := by
  unfold szB at h
  split at h
  · next j t e => exact ⟨es, n, _, D.at_, D.lit, e, ⟨t, by rw [of_decide_eq_true h]⟩⟩
  · cases h
theorem szAll_ok {K : PySem.W.Frag} {w : World} {mg : Str → Option Value} {es : Array DictEntry} {n : Nat} (g : mg "WHY_SIZES" = some (.ref (He.ga K "WHY_SIZES"))) (D : KDict K w (He.ga K "WHY_SIZES") es n) (h : szAll K = true) : SizesAt K w mg := by
  unfold szAll at h
  simp only [Bool.and_eq_true] at h
  obtain ⟨h1, h2, h3, h4, h5, h6⟩ := h
  refine ⟨_, g, fun x hx => ?_⟩
  simp only [stWords, List.mem_cons, List.not_mem_nil, or_false] at hx
  rcases hx with rfl | rfl | rfl | rfl | rfl | rfl
  · exact szB_ok D h1
  · exact szB_ok D h2
  · exact szB_ok D h3
  · exact szB_ok D h4
  · exact szB_ok D h5
  · exact szB_ok D h6
end Deed

namespace Deed
open PySem PySem.Spec PyProof.Rows L2 LamX
theorem funOf {K : PySem.W.Frag} {x : Str} {st : Stmt} {f : Addr} {fd : FuncData} (F : FunD K x x (defArgs st) (defBody st) (defScope st) [] [] f fd) : Fun K x x st f fd := by
  obtain ⟨oc, od, dV, kV, doc, pm, an, cdv, ct, osl, e, lk, hcd, hD, hK⟩ := F.ex
  rcases hD with ⟨_, hD⟩ | ⟨hD, _⟩
  · subst hD
    exact ⟨⟨oc, od, kV, doc, pm, an, cdv, ct, osl, e, lk, hcd⟩, F.kp⟩
  · exact absurd rfl hD
theorem codeAt {K : PySem.W.Frag} {x : Str} {st : Stmt} {p : He.Defn} {fd : FuncData} (F : Fun K x x st (He.fAd K p) fd) : fd.code = .ref (He.cT K p).1 := by
  obtain ⟨oc, od, kV, doc, pm, an, cdv, ct, osl, e, lk, hcd⟩ := F.ex
  obtain ⟨c, ec⟩ := He.codeIn_ref hcd
  have e2 : fd.code = .ref c := by rw [e, ← ec]
  rw [show (He.cT K p).1 = c from He.codeOf_eq lk e2]
  exact e2
theorem facts {l : PySem.W.OpenLaw} {w : World} {K : PySem.W.Frag} {h : Heap} {mg : Str → Option Value} {f : Addr} (X : K.In h) (G : h.Ns mainGlobals mg) (hfa : mg ("law" : Str) = some (.ref f)) (c : He.SaysX faAll fnAll tsAll tfAll exAll w h K) : LawAtS l w K CX0 229 63 "_law_script" mg f h := by
  obtain ⟨d0, F0'⟩ := c.t.d.def_ 0 (d := mkD "_law_cell_at" sCell) rfl
  have g0 := He.glo_ok X G (c.t.d.fact 0 (f := .glo "_law_cell_at") rfl)
  have F0 : Fun K "_law_cell_at" "_law_cell_at" sCell (He.fAd K ("_law_cell_at", none)) d0 := funOf F0'
  have D0 : Df K mg "_law_cell_at" sCell ["_law_script", "_law_k"] _ d0 := ⟨F0, F0.binds (ps := ["_law_script", "_law_k"]) (fun _ _ _ _ _ _ us hl => match us, hl with | [_, _], _ => rfl), g0⟩
  obtain ⟨d1, F1'⟩ := c.t.d.def_ 1 (d := mkD "_law_pen" sPen) rfl
  have g1 := He.glo_ok X G (c.t.d.fact 1 (f := .glo "_law_pen") rfl)
  have F1 : Fun K "_law_pen" "_law_pen" sPen (He.fAd K ("_law_pen", none)) d1 := funOf F1'
  have D1 : Df K mg "_law_pen" sPen ["_law_cell"] _ d1 := ⟨F1, F1.binds (ps := ["_law_cell"]) (fun _ _ _ _ _ _ us hl => match us, hl with | [_], _ => rfl), g1⟩
  obtain ⟨d2, F2'⟩ := c.t.d.def_ 2 (d := mkD "_law_draw" sDraw) rfl
  have g2 := He.glo_ok X G (c.t.d.fact 2 (f := .glo "_law_draw") rfl)
  have F2 : Fun K "_law_draw" "_law_draw" sDraw (He.fAd K ("_law_draw", none)) d2 := funOf F2'
  have D2 : Df K mg "_law_draw" sDraw ["_law_pen_here", "_law_bound"] _ d2 := ⟨F2, F2.binds (ps := ["_law_pen_here", "_law_bound"]) (fun _ _ _ _ _ _ us hl => match us, hl with | [_, _], _ => rfl), g2⟩
  obtain ⟨d3, F3'⟩ := c.t.d.def_ 3 (d := mkD "_law_day" sDay) rfl
  have g3 := He.glo_ok X G (c.t.d.fact 3 (f := .glo "_law_day") rfl)
  have F3 : Fun K "_law_day" "_law_day" sDay (He.fAd K ("_law_day", none)) d3 := funOf F3'
  have D3 : Df K mg "_law_day" sDay ["_law_pen_here"] _ d3 := ⟨F3, F3.binds (ps := ["_law_pen_here"]) (fun _ _ _ _ _ _ us hl => match us, hl with | [_], _ => rfl), g3⟩
  obtain ⟨d4, F4'⟩ := c.t.d.def_ 4 (d := mkD "_law_folk" sFolk) rfl
  have g4 := He.glo_ok X G (c.t.d.fact 4 (f := .glo "_law_folk") rfl)
  have F4 : Fun K "_law_folk" "_law_folk" sFolk (He.fAd K ("_law_folk", none)) d4 := funOf F4'
  have D4 : Df K mg "_law_folk" sFolk ["_law_pen_here", "_law_least"] _ d4 := ⟨F4, F4.binds (ps := ["_law_pen_here", "_law_least"]) (fun _ _ _ _ _ _ us hl => match us, hl with | [_, _], _ => rfl), g4⟩
  obtain ⟨d5, F5'⟩ := c.t.d.def_ 5 (d := mkD "_law_few" sFew) rfl
  have g5 := He.glo_ok X G (c.t.d.fact 5 (f := .glo "_law_few") rfl)
  have F5 : Fun K "_law_few" "_law_few" sFew (He.fAd K ("_law_few", none)) d5 := funOf F5'
  have D5 : Df K mg "_law_few" sFew ["_law_pen_here", "_law_some", "_law_most"] _ d5 := ⟨F5, F5.binds (ps := ["_law_pen_here", "_law_some", "_law_most"]) (fun _ _ _ _ _ _ us hl => match us, hl with | [_, _, _], _ => rfl), g5⟩
  obtain ⟨d6, F6'⟩ := c.t.d.def_ 6 (d := mkD "_law_deed" sDeed) rfl
  have g6 := He.glo_ok X G (c.t.d.fact 6 (f := .glo "_law_deed") rfl)
  have F6 : Fun K "_law_deed" "_law_deed" sDeed (He.fAd K ("_law_deed", none)) d6 := funOf F6'
  have D6 : Df K mg "_law_deed" sDeed ["_law_pen_here", "_law_folk_here", "_law_deeds"] _ d6 := ⟨F6, F6.binds (ps := ["_law_pen_here", "_law_folk_here", "_law_deeds"]) (fun _ _ _ _ _ _ us hl => match us, hl with | [_, _, _], _ => rfl), g6⟩
  obtain ⟨d7, F7'⟩ := c.t.d.def_ 7 (d := mkD "_law_entry" sEntry) rfl
  have g7 := He.glo_ok X G (c.t.d.fact 7 (f := .glo "_law_entry") rfl)
  have F7 : Fun K "_law_entry" "_law_entry" sEntry (He.fAd K ("_law_entry", none)) d7 := funOf F7'
  have D7 : Df K mg "_law_entry" sEntry ["_law_pen_here", "_law_folk_here", "_law_number", "_law_deeds", "_law_acts"] _ d7 := ⟨F7, F7.binds (ps := ["_law_pen_here", "_law_folk_here", "_law_number", "_law_deeds", "_law_acts"]) (fun _ _ _ _ _ _ us hl => match us, hl with | [_, _, _, _, _], _ => rfl), g7⟩
  obtain ⟨d8, F8'⟩ := c.t.d.def_ 8 (d := mkD "_law_mixed" sMixed) rfl
  have g8 := He.glo_ok X G (c.t.d.fact 8 (f := .glo "_law_mixed") rfl)
  have F8 : Fun K "_law_mixed" "_law_mixed" sMixed (He.fAd K ("_law_mixed", none)) d8 := funOf F8'
  have D8 : Df K mg "_law_mixed" sMixed ["_law_pen_here", "_law_some"] _ d8 := ⟨F8, F8.binds (ps := ["_law_pen_here", "_law_some"]) (fun _ _ _ _ _ _ us hl => match us, hl with | [_, _], _ => rfl), g8⟩
  obtain ⟨d9, F9'⟩ := c.t.d.def_ 9 (d := mkD "_law_book" sBook) rfl
  have g9 := He.glo_ok X G (c.t.d.fact 9 (f := .glo "_law_book") rfl)
  have F9 : Fun K "_law_book" "_law_book" sBook (He.fAd K ("_law_book", none)) d9 := funOf F9'
  have D9 : Df K mg "_law_book" sBook ["_law_pen_here", "_law_most"] _ d9 := ⟨F9, F9.binds (ps := ["_law_pen_here", "_law_most"]) (fun _ _ _ _ _ _ us hl => match us, hl with | [_, _], _ => rfl), g9⟩
  obtain ⟨d10, F10'⟩ := c.t.d.def_ 10 (d := mkD "entries_rising" sRising) rfl
  have g10 := He.glo_ok X G (c.t.d.fact 10 (f := .glo "entries_rising") rfl)
  have F10 : Fun K "entries_rising" "entries_rising" sRising (He.fAd K ("entries_rising", none)) d10 := funOf F10'
  have D10 : Df K mg "entries_rising" sRising ["book"] _ d10 := ⟨F10, F10.binds (ps := ["book"]) (fun _ _ _ _ _ _ us hl => match us, hl with | [_], _ => rfl), g10⟩
  obtain ⟨d11, F11'⟩ := c.t.d.def_ 11 (d := mkD "deed_entries" sDeedE) rfl
  have g11 := He.glo_ok X G (c.t.d.fact 11 (f := .glo "deed_entries") rfl)
  have F11 : Fun K "deed_entries" "deed_entries" sDeedE (He.fAd K ("deed_entries", none)) d11 := funOf F11'
  have D11 : Df K mg "deed_entries" sDeedE ["book"] _ d11 := ⟨F11, F11.binds (ps := ["book"]) (fun _ _ _ _ _ _ us hl => match us, hl with | [_], _ => rfl), g11⟩
  obtain ⟨d12, F12'⟩ := c.t.d.def_ 12 (d := mkD "act_entries" sActE) rfl
  have g12 := He.glo_ok X G (c.t.d.fact 12 (f := .glo "act_entries") rfl)
  have F12 : Fun K "act_entries" "act_entries" sActE (He.fAd K ("act_entries", none)) d12 := funOf F12'
  have D12 : Df K mg "act_entries" sActE ["book"] _ d12 := ⟨F12, F12.binds (ps := ["book"]) (fun _ _ _ _ _ _ us hl => match us, hl with | [_], _ => rfl), g12⟩
  obtain ⟨d13, F13'⟩ := c.t.d.def_ 13 (d := mkD "deeds_of" sDeedsOf) rfl
  have g13 := He.glo_ok X G (c.t.d.fact 13 (f := .glo "deeds_of") rfl)
  have F13 : Fun K "deeds_of" "deeds_of" sDeedsOf (He.fAd K ("deeds_of", none)) d13 := funOf F13'
  have D13 : Df K mg "deeds_of" sDeedsOf ["book"] _ d13 := ⟨F13, F13.binds (ps := ["book"]) (fun _ _ _ _ _ _ us hl => match us, hl with | [_], _ => rfl), g13⟩
  obtain ⟨d14, F14'⟩ := c.t.d.def_ 14 (d := mkD "is_whole" sWhole) rfl
  have g14 := He.glo_ok X G (c.t.d.fact 14 (f := .glo "is_whole") rfl)
  have F14 : Fun K "is_whole" "is_whole" sWhole (He.fAd K ("is_whole", none)) d14 := funOf F14'
  have D14 : Df K mg "is_whole" sWhole ["thing"] _ d14 := ⟨F14, F14.binds (ps := ["thing"]) (fun _ _ _ _ _ _ us hl => match us, hl with | [_], _ => rfl), g14⟩
  obtain ⟨d15, F15'⟩ := c.t.d.def_ 15 (d := mkD "is_within" sWithin) rfl
  have g15 := He.glo_ok X G (c.t.d.fact 15 (f := .glo "is_within") rfl)
  have F15 : Fun K "is_within" "is_within" sWithin (He.fAd K ("is_within", none)) d15 := funOf F15'
  have D15 : Df K mg "is_within" sWithin ["thing", "low", "high"] _ d15 := ⟨F15, F15.binds (ps := ["thing", "low", "high"]) (fun _ _ _ _ _ _ us hl => match us, hl with | [_, _, _], _ => rfl), g15⟩
  obtain ⟨d16, F16'⟩ := c.t.d.def_ 16 (d := mkD "is_day" sIsDay) rfl
  have g16 := He.glo_ok X G (c.t.d.fact 16 (f := .glo "is_day") rfl)
  have F16 : Fun K "is_day" "is_day" sIsDay (He.fAd K ("is_day", none)) d16 := funOf F16'
  have D16 : Df K mg "is_day" sIsDay ["thing"] _ d16 := ⟨F16, F16.binds (ps := ["thing"]) (fun _ _ _ _ _ _ us hl => match us, hl with | [_], _ => rfl), g16⟩
  obtain ⟨d17, F17'⟩ := c.t.d.def_ 17 (d := mkD "check_day" sCheckDay) rfl
  have g17 := He.glo_ok X G (c.t.d.fact 17 (f := .glo "check_day") rfl)
  have F17 : Fun K "check_day" "check_day" sCheckDay (He.fAd K ("check_day", none)) d17 := funOf F17'
  have D17 : Df K mg "check_day" sCheckDay ["thing"] _ d17 := ⟨F17, F17.binds (ps := ["thing"]) (fun _ _ _ _ _ _ us hl => match us, hl with | [_], _ => rfl), g17⟩
  obtain ⟨d18, F18'⟩ := c.t.d.def_ 18 (d := mkD "check_deed" sCheckDeed) rfl
  have g18 := He.glo_ok X G (c.t.d.fact 18 (f := .glo "check_deed") rfl)
  have F18 : Fun K "check_deed" "check_deed" sCheckDeed (He.fAd K ("check_deed", none)) d18 := funOf F18'
  have D18 : Df K mg "check_deed" sCheckDeed ["book", "thing"] _ d18 := ⟨F18, F18.binds (ps := ["book", "thing"]) (fun _ _ _ _ _ _ us hl => match us, hl with | [_, _], _ => rfl), g18⟩
  obtain ⟨d19, F19'⟩ := c.t.d.def_ 19 (d := mkD "open_acts" sOpenA) rfl
  have g19 := He.glo_ok X G (c.t.d.fact 19 (f := .glo "open_acts") rfl)
  have F19 : Fun K "open_acts" "open_acts" sOpenA (He.fAd K ("open_acts", none)) d19 := funOf F19'
  have D19 : Df K mg "open_acts" sOpenA ["book", "d", "k"] _ d19 := ⟨F19, F19.binds (ps := ["book", "d", "k"]) (fun _ _ _ _ _ _ us hl => match us, hl with | [_, _, _], _ => rfl), g19⟩
  obtain ⟨d20, F20'⟩ := c.t.d.def_ 20 (d := mkD "acts_on" sActsOn) rfl
  have g20 := He.glo_ok X G (c.t.d.fact 20 (f := .glo "acts_on") rfl)
  have F20 : Fun K "acts_on" "acts_on" sActsOn (He.fAd K ("acts_on", none)) d20 := funOf F20'
  have D20 : Df K mg "acts_on" sActsOn ["acts", "word", "number"] _ d20 := ⟨F20, F20.binds (ps := ["acts", "word", "number"]) (fun _ _ _ _ _ _ us hl => match us, hl with | [_, _, _], _ => rfl), g20⟩
  obtain ⟨d21, F21'⟩ := c.t.d.def_ 21 (d := mkD "acts_in_force" sForced) rfl
  have g21 := He.glo_ok X G (c.t.d.fact 21 (f := .glo "acts_in_force") rfl)
  have F21 : Fun K "acts_in_force" "acts_in_force" sForced (He.fAd K ("acts_in_force", none)) d21 := funOf F21'
  have D21 : Df K mg "acts_in_force" sForced ["acts"] _ d21 := ⟨F21, F21.binds (ps := ["acts"]) (fun _ _ _ _ _ _ us hl => match us, hl with | [_], _ => rfl), g21⟩
  obtain ⟨d22, F22'⟩ := c.t.d.def_ 22 (d := mkD "word_of_deed" sWordOf) rfl
  have g22 := He.glo_ok X G (c.t.d.fact 22 (f := .glo "word_of_deed") rfl)
  have F22 : Fun K "word_of_deed" "word_of_deed" sWordOf (He.fAd K ("word_of_deed", none)) d22 := funOf F22'
  have D22 : Df K mg "word_of_deed" sWordOf ["deed", "forced", "words", "d", "k"] _ d22 := ⟨F22, F22.binds (ps := ["deed", "forced", "words", "d", "k"]) (fun _ _ _ _ _ _ us hl => match us, hl with | [_, _, _, _, _], _ => rfl), g22⟩
  obtain ⟨d23, F23'⟩ := c.t.d.def_ 23 (d := mkDd "all_standing" sAllSt [.int 9999]) rfl
  have g23 := He.glo_ok X G (c.t.d.fact 23 (f := .glo "all_standing") rfl)
  have F23 : FunD K "all_standing" "all_standing" (defArgs sAllSt) (defBody sAllSt) (defScope sAllSt) [V.int 9999] [] (He.fAd K ("all_standing", none)) d23 := F23'
  obtain ⟨ds23, hv23, b23⟩ := FunD.binds1 (ps := ["book", "d", "k"]) F23 3 1 (by decide) rfl (fun T kV doc pm an cdv ct us its h1 h2 => match us, its, h1, h2 with | [_, _, _], [_], _, _ => ⟨_, rfl, rfl⟩)
  cases hv23
  obtain ⟨d24, F24'⟩ := c.t.d.def_ 24 (d := mkD "_law_open" sOpen) rfl
  have g24 := He.glo_ok X G (c.t.d.fact 24 (f := .glo "_law_open") rfl)
  have F24 : Fun K "_law_open" "_law_open" sOpen (He.fAd K ("_law_open", none)) d24 := funOf F24'
  have D24 : Df K mg "_law_open" sOpen ["_law_entry_here", "_law_d", "_law_k"] _ d24 := ⟨F24, F24.binds (ps := ["_law_entry_here", "_law_d", "_law_k"]) (fun _ _ _ _ _ _ us hl => match us, hl with | [_, _, _], _ => rfl), g24⟩
  obtain ⟨d25, F25'⟩ := c.t.d.def_ 25 (d := mkD "_law_of" sOf) rfl
  have g25 := He.glo_ok X G (c.t.d.fact 25 (f := .glo "_law_of") rfl)
  have F25 : Fun K "_law_of" "_law_of" sOf (He.fAd K ("_law_of", none)) d25 := funOf F25'
  have D25 : Df K mg "_law_of" sOf ["_law_entries_here", "_law_number", "_law_words_here"] _ d25 := ⟨F25, F25.binds (ps := ["_law_entries_here", "_law_number", "_law_words_here"]) (fun _ _ _ _ _ _ us hl => match us, hl with | [_, _, _], _ => rfl), g25⟩
  obtain ⟨d26, F26'⟩ := c.t.d.def_ 26 (d := mkD "_law_force" sForce) rfl
  have g26 := He.glo_ok X G (c.t.d.fact 26 (f := .glo "_law_force") rfl)
  have F26 : Fun K "_law_force" "_law_force" sForce (He.fAd K ("_law_force", none)) d26 := funOf F26'
  have D26 : Df K mg "_law_force" sForce ["_law_entries_here", "_law_act", "_law_d", "_law_k"] _ d26 := ⟨F26, F26.binds (ps := ["_law_entries_here", "_law_act", "_law_d", "_law_k"]) (fun _ _ _ _ _ _ us hl => match us, hl with | [_, _, _, _], _ => rfl), g26⟩
  obtain ⟨d27, F27'⟩ := c.t.d.def_ 27 (d := mkD "_law_any" sAny) rfl
  have g27 := He.glo_ok X G (c.t.d.fact 27 (f := .glo "_law_any") rfl)
  have F27 : Fun K "_law_any" "_law_any" sAny (He.fAd K ("_law_any", none)) d27 := funOf F27'
  have D27 : Df K mg "_law_any" sAny ["_law_entries_here", "_law_number", "_law_words_here", "_law_d", "_law_k"] _ d27 := ⟨F27, F27.binds (ps := ["_law_entries_here", "_law_number", "_law_words_here", "_law_d", "_law_k"]) (fun _ _ _ _ _ _ us hl => match us, hl with | [_, _, _, _, _], _ => rfl), g27⟩
  obtain ⟨d28, F28'⟩ := c.t.d.def_ 28 (d := mkD "_law_words" sWords) rfl
  have g28 := He.glo_ok X G (c.t.d.fact 28 (f := .glo "_law_words") rfl)
  have F28 : Fun K "_law_words" "_law_words" sWords (He.fAd K ("_law_words", none)) d28 := funOf F28'
  have D28 : Df K mg "_law_words" sWords ["_law_entries_here", "_law_d", "_law_k"] _ d28 := ⟨F28, F28.binds (ps := ["_law_entries_here", "_law_d", "_law_k"]) (fun _ _ _ _ _ _ us hl => match us, hl with | [_, _, _], _ => rfl), g28⟩
  obtain ⟨d29, F29'⟩ := c.t.d.def_ 29 (d := mkD "_law_entries" sEnts) rfl
  have g29 := He.glo_ok X G (c.t.d.fact 29 (f := .glo "_law_entries") rfl)
  have F29 : Fun K "_law_entries" "_law_entries" sEnts (He.fAd K ("_law_entries", none)) d29 := funOf F29'
  have D29 : Df K mg "_law_entries" sEnts ["_law_book_here"] _ d29 := ⟨F29, F29.binds (ps := ["_law_book_here"]) (fun _ _ _ _ _ _ us hl => match us, hl with | [_], _ => rfl), g29⟩
  obtain ⟨d30, F30'⟩ := c.t.d.def_ 30 (d := mkD "_law_days" sDays) rfl
  have g30 := He.glo_ok X G (c.t.d.fact 30 (f := .glo "_law_days") rfl)
  have F30 : Fun K "_law_days" "_law_days" sDays (He.fAd K ("_law_days", none)) d30 := funOf F30'
  have D30 : Df K mg "_law_days" sDays ["_law_pen_here", "_law_book_here"] _ d30 := ⟨F30, F30.binds (ps := ["_law_pen_here", "_law_book_here"]) (fun _ _ _ _ _ _ us hl => match us, hl with | [_, _], _ => rfl), g30⟩
  obtain ⟨d31, F31'⟩ := c.t.d.def_ 31 (d := mkDd "why_of" sWhyOf [.int 9999]) rfl
  have g31 := He.glo_ok X G (c.t.d.fact 31 (f := .glo "why_of") rfl)
  have F31 : FunD K "why_of" "why_of" (defArgs sWhyOf) (defBody sWhyOf) (defScope sWhyOf) [V.int 9999] [] (He.fAd K ("why_of", none)) d31 := F31'
  obtain ⟨ds31, hv31, b31⟩ := FunD.binds1 (ps := ["book", "deed", "d", "k"]) F31 4 1 (by decide) rfl (fun T kV doc pm an cdv ct us its h1 h2 => match us, its, h1, h2 with | [_, _, _, _], [_], _, _ => ⟨_, rfl, rfl⟩)
  cases hv31
  obtain ⟨d32, F32'⟩ := c.t.d.def_ 32 (d := mkD "paper_over" sPapOver) rfl
  have g32 := He.glo_ok X G (c.t.d.fact 32 (f := .glo "paper_over") rfl)
  have F32 : Fun K "paper_over" "paper_over" sPapOver (He.fAd K ("paper_over", none)) d32 := funOf F32'
  have D32 : Df K mg "paper_over" sPapOver ["number", "undones"] _ d32 := ⟨F32, F32.binds (ps := ["number", "undones"]) (fun _ _ _ _ _ _ us hl => match us, hl with | [_, _], _ => rfl), g32⟩
  obtain ⟨d33, F33'⟩ := c.t.d.def_ 33 (d := mkD "papers_of" sPapersOf) rfl
  have g33 := He.glo_ok X G (c.t.d.fact 33 (f := .glo "papers_of") rfl)
  have F33 : Fun K "papers_of" "papers_of" sPapersOf (He.fAd K ("papers_of", none)) d33 := funOf F33'
  have D33 : Df K mg "papers_of" sPapersOf ["acts"] _ d33 := ⟨F33, F33.binds (ps := ["acts"]) (fun _ _ _ _ _ _ us hl => match us, hl with | [_], _ => rfl), g33⟩
  obtain ⟨d34, F34'⟩ := c.t.d.def_ 34 (d := mkD "first_yes" sFirstYes) rfl
  have g34 := He.glo_ok X G (c.t.d.fact 34 (f := .glo "first_yes") rfl)
  have F34 : Fun K "first_yes" "first_yes" sFirstYes (He.fAd K ("first_yes", none)) d34 := funOf F34'
  have D34 : Df K mg "first_yes" sFirstYes ["papers", "numbers"] _ d34 := ⟨F34, F34.binds (ps := ["papers", "numbers"]) (fun _ _ _ _ _ _ us hl => match us, hl with | [_, _], _ => rfl), g34⟩
  obtain ⟨d35, F35'⟩ := c.t.d.def_ 35 (d := mkD "why_over" sWhyOver) rfl
  have g35 := He.glo_ok X G (c.t.d.fact 35 (f := .glo "why_over") rfl)
  have F35 : Fun K "why_over" "why_over" sWhyOver (He.fAd K ("why_over", none)) d35 := funOf F35'
  have D35 : Df K mg "why_over" sWhyOver ["deed", "word", "acts", "papers", "whys"] _ d35 := ⟨F35, F35.binds (ps := ["deed", "word", "acts", "papers", "whys"]) (fun _ _ _ _ _ _ us hl => match us, hl with | [_, _, _, _, _], _ => rfl), g35⟩
  obtain ⟨d36, F36'⟩ := c.t.d.def_ 36 (d := mkD "has_head" sHasHead) rfl
  have g36 := He.glo_ok X G (c.t.d.fact 36 (f := .glo "has_head") rfl)
  have F36 : Fun K "has_head" "has_head" sHasHead (He.fAd K ("has_head", none)) d36 := funOf F36'
  have D36 : Df K mg "has_head" sHasHead ["thing", "size", "word", "number"] _ d36 := ⟨F36, F36.binds (ps := ["thing", "size", "word", "number"]) (fun _ _ _ _ _ _ us hl => match us, hl with | [_, _, _, _], _ => rfl), g36⟩
  obtain ⟨d37, F37'⟩ := c.t.d.def_ 37 (d := mkD "is_yes" sIsYes) rfl
  have g37 := He.glo_ok X G (c.t.d.fact 37 (f := .glo "is_yes") rfl)
  have F37 : Fun K "is_yes" "is_yes" sIsYes (He.fAd K ("is_yes", none)) d37 := funOf F37'
  have D37 : Df K mg "is_yes" sIsYes ["acts", "act", "thing"] _ d37 := ⟨F37, F37.binds (ps := ["acts", "act", "thing"]) (fun _ _ _ _ _ _ us hl => match us, hl with | [_, _, _], _ => rfl), g37⟩
  obtain ⟨d38, F38'⟩ := c.t.d.def_ 38 (d := mkD "is_no" sIsNo) rfl
  have g38 := He.glo_ok X G (c.t.d.fact 38 (f := .glo "is_no") rfl)
  have F38 : Fun K "is_no" "is_no" sIsNo (He.fAd K ("is_no", none)) d38 := funOf F38'
  have D38 : Df K mg "is_no" sIsNo ["acts", "act", "thing"] _ d38 := ⟨F38, F38.binds (ps := ["acts", "act", "thing"]) (fun _ _ _ _ _ _ us hl => match us, hl with | [_, _, _], _ => rfl), g38⟩
  obtain ⟨d39, F39'⟩ := c.t.d.def_ 39 (d := mkD "is_some_yes" sIsSomeYes) rfl
  have g39 := He.glo_ok X G (c.t.d.fact 39 (f := .glo "is_some_yes") rfl)
  have F39 : Fun K "is_some_yes" "is_some_yes" sIsSomeYes (He.fAd K ("is_some_yes", none)) d39 := funOf F39'
  have D39 : Df K mg "is_some_yes" sIsSomeYes ["acts", "numbers", "thing"] _ d39 := ⟨F39, F39.binds (ps := ["acts", "numbers", "thing"]) (fun _ _ _ _ _ _ us hl => match us, hl with | [_, _, _], _ => rfl), g39⟩
  obtain ⟨d40, F40'⟩ := c.t.d.def_ 40 (d := mkD "are_nos" sAreNos) rfl
  have g40 := He.glo_ok X G (c.t.d.fact 40 (f := .glo "are_nos") rfl)
  have F40 : Fun K "are_nos" "are_nos" sAreNos (He.fAd K ("are_nos", none)) d40 := funOf F40'
  have D40 : Df K mg "are_nos" sAreNos ["acts", "numbers", "thing"] _ d40 := ⟨F40, F40.binds (ps := ["acts", "numbers", "thing"]) (fun _ _ _ _ _ _ us hl => match us, hl with | [_, _, _], _ => rfl), g40⟩
  obtain ⟨d41, F41'⟩ := c.t.d.def_ 41 (d := mkD "are_whys" sAreWhys) rfl
  have g41 := He.glo_ok X G (c.t.d.fact 41 (f := .glo "are_whys") rfl)
  have F41 : Fun K "are_whys" "are_whys" sAreWhys (He.fAd K ("are_whys", none)) d41 := funOf F41'
  have D41 : Df K mg "are_whys" sAreWhys ["deeds", "words", "acts", "numbers", "thing"] _ d41 := ⟨F41, F41.binds (ps := ["deeds", "words", "acts", "numbers", "thing"]) (fun _ _ _ _ _ _ us hl => match us, hl with | [_, _, _, _, _], _ => rfl), g41⟩
  obtain ⟨d42, F42'⟩ := c.t.d.def_ 42 (d := mkD "is_why" sIsWhy) rfl
  have g42 := He.glo_ok X G (c.t.d.fact 42 (f := .glo "is_why") rfl)
  have F42 : Fun K "is_why" "is_why" sIsWhy (He.fAd K ("is_why", none)) d42 := funOf F42'
  have D42 : Df K mg "is_why" sIsWhy ["deeds", "words", "acts", "deed", "thing"] _ d42 := ⟨F42, F42.binds (ps := ["deeds", "words", "acts", "deed", "thing"]) (fun _ _ _ _ _ _ us hl => match us, hl with | [_, _, _, _, _], _ => rfl), g42⟩
  obtain ⟨d43, F43'⟩ := c.t.d.def_ 43 (d := mkD "why_holds" sWhyHolds) rfl
  have g43 := He.glo_ok X G (c.t.d.fact 43 (f := .glo "why_holds") rfl)
  have F43 : Fun K "why_holds" "why_holds" sWhyHolds (He.fAd K ("why_holds", none)) d43 := funOf F43'
  have D43 : Df K mg "why_holds" sWhyHolds ["book", "deed", "d", "k", "thing"] _ d43 := ⟨F43, F43.binds (ps := ["book", "deed", "d", "k", "thing"]) (fun _ _ _ _ _ _ us hl => match us, hl with | [_, _, _, _, _], _ => rfl), g43⟩
  obtain ⟨d44, F44'⟩ := c.t.d.def_ 44 (d := mkD "_law_open_of" sLOpenOf) rfl
  have g44 := He.glo_ok X G (c.t.d.fact 44 (f := .glo "_law_open_of") rfl)
  have F44 : Fun K "_law_open_of" "_law_open_of" sLOpenOf (He.fAd K ("_law_open_of", none)) d44 := funOf F44'
  have D44 : Df K mg "_law_open_of" sLOpenOf ["_law_entries_here", "_law_number", "_law_words_here", "_law_d", "_law_k"] _ d44 := ⟨F44, F44.binds (ps := ["_law_entries_here", "_law_number", "_law_words_here", "_law_d", "_law_k"]) (fun _ _ _ _ _ _ us hl => match us, hl with | [_, _, _, _, _], _ => rfl), g44⟩
  obtain ⟨d45, F45'⟩ := c.t.d.def_ 45 (d := mkD "_law_head" sLHead) rfl
  have g45 := He.glo_ok X G (c.t.d.fact 45 (f := .glo "_law_head") rfl)
  have F45 : Fun K "_law_head" "_law_head" sLHead (He.fAd K ("_law_head", none)) d45 := funOf F45'
  have D45 : Df K mg "_law_head" sLHead ["_law_thing_here", "_law_word", "_law_number", "_law_many"] _ d45 := ⟨F45, F45.binds (ps := ["_law_thing_here", "_law_word", "_law_number", "_law_many"]) (fun _ _ _ _ _ _ us hl => match us, hl with | [_, _, _, _], _ => rfl), g45⟩
  obtain ⟨d46, F46'⟩ := c.t.d.def_ 46 (d := mkD "_law_each" sLEach) rfl
  have g46 := He.glo_ok X G (c.t.d.fact 46 (f := .glo "_law_each") rfl)
  have F46 : Fun K "_law_each" "_law_each" sLEach (He.fAd K ("_law_each", none)) d46 := funOf F46'
  have D46 : Df K mg "_law_each" sLEach ["_law_some", "_law_thing_here", "_law_look"] _ d46 := ⟨F46, F46.binds (ps := ["_law_some", "_law_thing_here", "_law_look"]) (fun _ _ _ _ _ _ us hl => match us, hl with | [_, _, _], _ => rfl), g46⟩
  obtain ⟨d47, F47'⟩ := c.t.d.def_ 47 (d := mkD "_law_is_yes" sLIsYes) rfl
  have g47 := He.glo_ok X G (c.t.d.fact 47 (f := .glo "_law_is_yes") rfl)
  have F47 : Fun K "_law_is_yes" "_law_is_yes" sLIsYes (He.fAd K ("_law_is_yes", none)) d47 := funOf F47'
  have D47 : Df K mg "_law_is_yes" sLIsYes ["_law_entries_here", "_law_act", "_law_d", "_law_k", "_law_thing_here"] _ d47 := ⟨F47, F47.binds (ps := ["_law_entries_here", "_law_act", "_law_d", "_law_k", "_law_thing_here"]) (fun _ _ _ _ _ _ us hl => match us, hl with | [_, _, _, _, _], _ => rfl), g47⟩
  obtain ⟨d48, F48'⟩ := c.t.d.def_ 48 (d := mkD "_law_is_no" sLIsNo) rfl
  have g48 := He.glo_ok X G (c.t.d.fact 48 (f := .glo "_law_is_no") rfl)
  have F48 : Fun K "_law_is_no" "_law_is_no" sLIsNo (He.fAd K ("_law_is_no", none)) d48 := funOf F48'
  have D48 : Df K mg "_law_is_no" sLIsNo ["_law_entries_here", "_law_act", "_law_d", "_law_k", "_law_thing_here"] _ d48 := ⟨F48, F48.binds (ps := ["_law_entries_here", "_law_act", "_law_d", "_law_k", "_law_thing_here"]) (fun _ _ _ _ _ _ us hl => match us, hl with | [_, _, _, _, _], _ => rfl), g48⟩
  obtain ⟨d49, F49'⟩ := c.t.d.def_ 49 (d := mkD "_law_by" sLBy) rfl
  have g49 := He.glo_ok X G (c.t.d.fact 49 (f := .glo "_law_by") rfl)
  have F49 : Fun K "_law_by" "_law_by" sLBy (He.fAd K ("_law_by", none)) d49 := funOf F49'
  have D49 : Df K mg "_law_by" sLBy ["_law_entries_here", "_law_deed_here", "_law_word", "_law_d", "_law_k", "_law_thing_here"] _ d49 := ⟨F49, F49.binds (ps := ["_law_entries_here", "_law_deed_here", "_law_word", "_law_d", "_law_k", "_law_thing_here"]) (fun _ _ _ _ _ _ us hl => match us, hl with | [_, _, _, _, _, _], _ => rfl), g49⟩
  obtain ⟨d50, F50'⟩ := c.t.d.def_ 50 (d := mkD "_law_is_why" sLIsWhy) rfl
  have g50 := He.glo_ok X G (c.t.d.fact 50 (f := .glo "_law_is_why") rfl)
  have F50 : Fun K "_law_is_why" "_law_is_why" sLIsWhy (He.fAd K ("_law_is_why", none)) d50 := funOf F50'
  have D50 : Df K mg "_law_is_why" sLIsWhy ["_law_entries_here", "_law_words_here", "_law_deed_here", "_law_d", "_law_k", "_law_thing_here"] _ d50 := ⟨F50, F50.binds (ps := ["_law_entries_here", "_law_words_here", "_law_deed_here", "_law_d", "_law_k", "_law_thing_here"]) (fun _ _ _ _ _ _ us hl => match us, hl with | [_, _, _, _, _, _], _ => rfl), g50⟩
  obtain ⟨d51, F51'⟩ := c.t.d.def_ 51 (d := mkD "_law_thing" sLThing) rfl
  have g51 := He.glo_ok X G (c.t.d.fact 51 (f := .glo "_law_thing") rfl)
  have F51 : Fun K "_law_thing" "_law_thing" sLThing (He.fAd K ("_law_thing", none)) d51 := funOf F51'
  have D51 : Df K mg "_law_thing" sLThing ["_law_pen_here", "_law_deep"] _ d51 := ⟨F51, F51.binds (ps := ["_law_pen_here", "_law_deep"]) (fun _ _ _ _ _ _ us hl => match us, hl with | [_, _], _ => rfl), g51⟩
  obtain ⟨d52, F52'⟩ := c.t.d.def_ 52 (d := mkD "_law_spoilt" sLSpoilt) rfl
  have g52 := He.glo_ok X G (c.t.d.fact 52 (f := .glo "_law_spoilt") rfl)
  have F52 : Fun K "_law_spoilt" "_law_spoilt" sLSpoilt (He.fAd K ("_law_spoilt", none)) d52 := funOf F52'
  have D52 : Df K mg "_law_spoilt" sLSpoilt ["_law_pen_here", "_law_thing_here"] _ d52 := ⟨F52, F52.binds (ps := ["_law_pen_here", "_law_thing_here"]) (fun _ _ _ _ _ _ us hl => match us, hl with | [_, _], _ => rfl), g52⟩
  obtain ⟨d53, F53'⟩ := c.t.d.def_ 53 (d := mkD "law" sLaw) rfl
  have g53 := He.glo_ok X G (c.t.d.fact 53 (f := .glo "law") rfl)
  have F53 : Fun K "law" "law" sLaw (He.fAd K ("law", none)) d53 := funOf F53'
  have m_range := He.free_ok X G (c.t.d.fact 54 (f := .free "range") rfl)
  have m_min := He.free_ok X G (c.t.d.fact 55 (f := .free "min") rfl)
  have m_max := He.free_ok X G (c.t.d.fact 56 (f := .free "max") rfl)
  have m_tuple := He.free_ok X G (c.t.d.fact 57 (f := .free "tuple") rfl)
  have m_list := He.free_ok X G (c.t.d.fact 58 (f := .free "list") rfl)
  have m_len := He.free_ok X G (c.t.d.fact 59 (f := .free "len") rfl)
  have m_sorted := He.free_ok X G (c.t.d.fact 60 (f := .free "sorted") rfl)
  have m_int := He.free_ok X G (c.t.d.fact 61 (f := .free "int") rfl)
  have m_isinstance := He.free_ok X G (c.t.d.fact 62 (f := .free "isinstance") rfl)
  have m_bool := He.free_ok X G (c.t.d.fact 63 (f := .free "bool") rfl)
  have m_str := He.free_ok X G (c.t.d.fact 64 (f := .free "str") rfl)
  have m_any := He.free_ok X G (c.t.d.fact 65 (f := .free "any") rfl)
  have m_all := He.free_ok X G (c.t.d.fact 66 (f := .free "all") rfl)
  have m_zip := He.free_ok X G (c.t.d.fact 67 (f := .free "zip") rfl)
  have m_dict := He.free_ok X G (c.t.d.fact 68 (f := .free "dict") rfl)
  have m_enumerate := He.free_ok X G (c.t.d.fact 69 (f := .free "enumerate") rfl)
  have i_NUMBER : MgInt mg "NUMBER" 0 := He.int_ok X G (c.t.d.fact 70 (f := .int "NUMBER" 0) rfl)
  have i_WORD : MgInt mg "WORD" 4 := He.int_ok X G (c.t.d.fact 71 (f := .int "WORD" 4) rfl)
  have i_DAY : MgInt mg "DAY" 1 := He.int_ok X G (c.t.d.fact 72 (f := .int "DAY" 1) rfl)
  have i_WRITTEN : MgInt mg "WRITTEN" 2 := He.int_ok X G (c.t.d.fact 73 (f := .int "WRITTEN" 2) rfl)
  have i_OF : MgInt mg "OF" 5 := He.int_ok X G (c.t.d.fact 74 (f := .int "OF" 5) rfl)
  have i_RESTS : MgInt mg "RESTS" 7 := He.int_ok X G (c.t.d.fact 75 (f := .int "RESTS" 7) rfl)
  have i_LAST_DAY : MgInt mg "LAST_DAY" 9999 := He.int_ok X G (c.t.d.fact 76 (f := .int "LAST_DAY" 9999) rfl)
  have e := hfa.symm.trans g53
  cases e
  have b := FunD.bindsA (ps := ["_law_script"]) F53' fun _ _ _ _ _ _ us hl => match us, hl with | [_], _ => rfl
  have B : Bi mg := ⟨m_range, m_min, m_max, m_tuple, m_list, m_len, m_sorted, m_int⟩
  have t0 : (("entries_rising", none) : He.Defn) ∈ tfAll := List.mem_cons_self
  have t1 : (("_law_is_yes", none) : He.Defn) ∈ tfAll := List.mem_cons_of_mem _ List.mem_cons_self
  have t2 : (("_law_is_why", none) : He.Defn) ∈ tfAll := List.mem_cons_of_mem _ (List.mem_cons_of_mem _ List.mem_cons_self)
  have gCar := He.glo_ok X G (c.t.d.fact 77 (f := .glo "CARRYING") rfl)
  have gSz := He.glo_ok X G (c.t.d.fact 78 (f := .glo "WHY_SIZES") rfl)
  have hex : He.tupB K "CARRYING" [.str "stands", .str "paid"] = true ∧ szAll K = true ∧ (He.cT K ("entries_rising", none)).2 ≠ (He.cT K ("_law_is_yes", none)).2 ∧ (He.cT K ("entries_rising", none)).2 ≠ (He.cT K ("_law_is_why", none)).2 ∧ (He.cT K ("_law_is_yes", none)).2 ≠ (He.cT K ("_law_is_why", none)).2 := by
    have := c.more
    unfold exAll at this
    simp only [Bool.and_eq_true, decide_eq_true_eq] at this
    exact this
  obtain ⟨hex1, hex2, n01, n02, n12⟩ := hex
  have cCar : CarryAt K mg := ⟨_, gCar, fun H => He.tupB_ok hex1 H⟩
  obtain ⟨esz, nsz, dSz⟩ := c.t.tab 0 (t := (fun K => He.ga K "WHY_SIZES", ["unknown", "ahead", "void", "fallen", "paid", "stands"])) rfl
  have cSz : SizesAt K w mg := szAll_ok gSz dSz hex2
  have mT : ∀ {p : Addr × Str}, p ∈ ([((He.cT K ("entries_rising", none)).2, qRis), ((He.cT K ("_law_is_yes", none)).2, qLIsYes), ((He.cT K ("_law_is_why", none)).2, qLIsWhy)] : List (Addr × Str)) ↔ (p = ((He.cT K ("entries_rising", none)).2, qRis) ∨ p = ((He.cT K ("_law_is_yes", none)).2, qLIsYes) ∨ p = ((He.cT K ("_law_is_why", none)).2, qLIsWhy)) := by
    intro p
    simp only [List.mem_cons, List.not_mem_nil, or_false]
  refine ⟨d53, tfAll.map (He.cT K), spLaw K [((He.cT K ("entries_rising", none)).2, qRis), ((He.cT K ("_law_is_yes", none)).2, qLIsYes), ((He.cT K ("_law_is_why", none)).2, qLIsWhy)], fun p hp => ?_, fun p hp => ?_, fun p hp => ?_, fun s v => b s [v] rfl, fun H a ns hl _ hH hS => ?_, fun base hK hG hTB => ?_⟩
  · obtain ⟨q, hq, rfl⟩ := List.mem_map.mp hp
    exact c.empty q hq
  · obtain ⟨q, hq, rfl⟩ := List.mem_map.mp hp
    exact c.out q hq
  · obtain ⟨q, hq, rfl⟩ := List.mem_map.mp hp
    exact PySem.W.codeHd_of_K X (c.hd q hq)
  · refine ⟨a, ns, rfl, hS, hl, fun p hp => ?_, fun _ => rfl⟩
    rcases mT.mp hp with rfl | rfl | rfl
    · exact TabS.nil (hH _ (List.mem_map.mpr ⟨_, t0, rfl⟩))
    · exact TabS.nil (hH _ (List.mem_map.mpr ⟨_, t1, rfl⟩))
    · exact TabS.nil (hH _ (List.mem_map.mpr ⟨_, t2, rfl⟩))
  · have tb0 := hTB _ (List.mem_map.mpr ⟨_, t0, rfl⟩)
    have tb1 := hTB _ (List.mem_map.mpr ⟨_, t1, rfl⟩)
    have tb2 := hTB _ (List.mem_map.mpr ⟨_, t2, rfl⟩)
    have u0 : ∀ p ∈ ([((He.cT K ("entries_rising", none)).2, qRis), ((He.cT K ("_law_is_yes", none)).2, qLIsYes), ((He.cT K ("_law_is_why", none)).2, qLIsWhy)] : List (Addr × Str)), p.1 = (He.cT K ("entries_rising", none)).2 → p.2 = qRis := fun p hp e => by
      rcases mT.mp hp with rfl | rfl | rfl
      · rfl
      · exact absurd e.symm n01
      · exact absurd e.symm n02
    have u1 : ∀ p ∈ ([((He.cT K ("entries_rising", none)).2, qRis), ((He.cT K ("_law_is_yes", none)).2, qLIsYes), ((He.cT K ("_law_is_why", none)).2, qLIsWhy)] : List (Addr × Str)), p.1 = (He.cT K ("_law_is_yes", none)).2 → p.2 = qLIsYes := fun p hp e => by
      rcases mT.mp hp with rfl | rfl | rfl
      · exact absurd e n01
      · rfl
      · exact absurd e.symm n12
    have u2 : ∀ p ∈ ([((He.cT K ("entries_rising", none)).2, qRis), ((He.cT K ("_law_is_yes", none)).2, qLIsYes), ((He.cT K ("_law_is_why", none)).2, qLIsWhy)] : List (Addr × Str)), p.1 = (He.cT K ("_law_is_why", none)).2 → p.2 = qLIsWhy := fun p hp e => by
      rcases mT.mp hp with rfl | rfl | rfl
      · exact absurd e n02
      · exact absurd e n12
      · rfl
    have R : RisD K mg base [((He.cT K ("entries_rising", none)).2, qRis), ((He.cT K ("_law_is_yes", none)).2, qLIsYes), ((He.cT K ("_law_is_why", none)).2, qLIsWhy)] _ d10 := ⟨D10, ⟨_, _, codeAt F10, tb0, mT.mpr (.inl rfl), u0⟩, m_sorted, i_NUMBER⟩
    have GAE : ∀ k, FnOk l.prog w K mg base CX0 (k + 3) _ d12 ["book"] (spPick (fun e => !e.isDeed) _) := fun k => ok_actE (k := k) D12.F R i_WORD
    have GDE : ∀ k, FnOk l.prog w K mg base CX0 (k + 3) _ d11 ["book"] (spPick (·.isDeed) _) := fun k => ok_deedE (k := k) D11.F R i_WORD
    have GDO : FnOk l.prog w K mg base CX0 33 _ d13 ["book"] (spNums (·.isDeed) _) := ok_DeedsOf (k := 29) D13.F D11 (GDE 29) i_NUMBER
    have GCK : FnOk l.prog w K mg base CX0 34 _ d18 ["book", "thing"] (spCkDeed _) := ok_ckDeed (k := 32) D18.F D14 m_isinstance m_int m_bool D13 GDO
    have GCD : ∀ k, FnOk l.prog w K mg base CX0 (k + 4) _ d17 ["thing"] spCkDay := fun k => ok_ckDay (k := k) D17.F D16 D15 D14 m_isinstance m_int m_bool i_LAST_DAY
    have GOA : ∀ k, FnOk l.prog w K mg base CX0 (k + 4) _ d19 ["book", "d", "k"] (spOpenA _) := fun k => ok_openA (k := k) D19.F D12 (GAE k) i_WRITTEN i_DAY
    have GFO : ∀ k, FnOk l.prog w K mg base CX0 (k + 2) _ d21 ["acts"] spForced := fun k => ok_forced (k := k) D21.F D20 i_WORD i_OF i_NUMBER
    have GWO : ∀ k, FnOk l.prog w K mg base CX0 (k + 2) _ d22 ["deed", "forced", "words", "d", "k"] spWordOf := fun k => ok_wordOf (k := k) D22.F D20 i_WORD i_OF i_NUMBER i_WRITTEN i_DAY i_RESTS m_any cCar
    have GAL : ∀ k, FnOk l.prog w K mg base CX0 (k + 5) _ d23 ["book", "d", "k"] (spAllSt _) := fun k => ok_allSt (k := k + 4) F23 i_NUMBER D17 (GCD k) D19 (GOA k) D21 (GFO (k + 2)) D11 (GDE (k + 1)) D22 (GWO (k + 2))
    have GFC : FnOk l.prog w K mg base CX0 32 _ d26 pForce (spForce 31) := ok_force D26 D24 D25 m_sorted 31
    have GAN : FnOk l.prog w K mg base CX0 33 _ d27 pAny spAny := ok_any (k := 31) D27.F D25 m_sorted D26 GFC
    have GWD : FnOk l.prog w K mg base CX0 34 _ d28 pWords spWords := ok_words (k := 32) D28.F D27 GAN m_sorted m_int
    let CAL : CallOk l.prog w K mg base 34 "all_standing" _ _ := ⟨_, _, g23, F23.kp, b23, GAL 29⟩
    let COA := D19.call (GOA 30)
    let CDE := D11.call (GDE 31)
    let CCK := D18.call GCK
    let CON := D20.call (ok_actsOn (P := l.prog) (w := w) (base := base) (k := 1) D20.F i_WORD i_OF i_NUMBER)
    let CPO := D32.call (ok_papOver (P := l.prog) (w := w) (base := base) (k := 1) D32.F m_tuple)
    let CPS := D33.call (ok_papersOf D33.F CON CPO i_NUMBER)
    let CFY := D34.call (ok_firstYes (P := l.prog) (w := w) (base := base) (k := 1) D34.F)
    let CWV := D35.call (ok_whyOver D35.F CON CFY m_tuple m_sorted i_NUMBER i_RESTS cCar)
    let CWO : CallOk l.prog w K mg base 35 "why_of" _ _ := ⟨_, _, g31, F31.kp, b31, ok_whyOf (k := 34) F31 CCK CAL COA (CPS.mono (by decide)) CDE (CWV.mono (by decide)) i_NUMBER⟩
    let CWH := D14.call (ok_wholeD (P := l.prog) (w := w) (base := base) (k := 1) D14.F m_isinstance m_int m_bool)
    let CHH := D36.call (ok_hasHead D36.F CWH m_isinstance m_tuple m_len)
    have GIS := is_all D37 D38 D39 D40 CHH (CON.mono (by decide)) m_any m_isinstance m_tuple m_len m_zip m_all 31
    let CIY := D37.call GIS.1
    let CIN := D38.call GIS.2
    let CSY := D39.call (ok_someYes D39.F CIY m_any)
    let CNS := D40.call (ok_areNos D40.F CIN m_isinstance m_tuple m_len m_zip m_all)
    have GWY := why_all (c := 67) D42 D41 (CHH.mono (by decide)) (CON.mono (by decide)) CSY CNS m_any m_sorted m_isinstance m_tuple m_len m_zip m_all i_RESTS cCar cSz 31
    let CWY := D42.call GWY
    let CHo := D43.call (ok_whyHolds (k := 130) D43.F (CCK.mono (by decide)) (CAL.mono (by decide)) (COA.mono (by decide)) (CDE.mono (by decide)) CWY i_NUMBER)
    let COf := D25.call (ok_of (P := l.prog) (w := w) (base := base) (k := 31) D25.F m_sorted)
    let COp := D24.call (ok_open (P := l.prog) (w := w) (base := base) (k := 31) D24.F)
    let COO := D44.call (ok_LOpenOf D44.F COf COp)
    let CHd := D45.call (ok_LHead (P := l.prog) (w := w) (base := base) (k := 31) D45.F m_isinstance m_tuple m_len m_str m_int m_bool)
    have GLI := lis2_all (b0 := 34) D47 D48 D46 (codeAt F47) tb1 (mT.mpr (.inr (.inl rfl))) u1 (COp.mono (by decide)) (CHd.mono (by decide)) (COf.mono (by decide)) (COO.mono (by decide)) m_isinstance m_tuple m_len m_zip 31
    let CLIN : CallOk l.prog w K mg base 130 "_law_is_no" _ (spLIs2 _ false 31) := D48.call GLI.2
    let CLIY : CallOk l.prog w K mg base 130 "_law_is_yes" _ (spLIs2 _ true 31) := D47.call GLI.1
    let CLBy : CallOk l.prog w K mg base 131 "_law_by" _ _ := D49.call (ok_LBy (k := 130) D49.F (COf.mono (by decide)) CLIY)
    have GLW := liswhy_all (b := 131) D50 D46 (codeAt F50) tb2 (mT.mpr (.inr (.inr rfl))) u2 (CHd.mono (by decide)) CLBy (COO.mono (by decide)) (CLIN.mono (by decide)) m_int m_isinstance m_tuple m_len m_zip 31
    let CLW := D50.call GLW
    let cDr : ∀ k, CDrw l.prog w K mg base (k + 1) := fun k => D2.call (ok_draw D2.F)
    let cTh3 : CallOk l.prog w K mg base 5 "_law_thing" _ (spLThing 3) := D51.call (ok_LThing (k := 1) D51 (fun n => (cDr n).mono (by omega)) m_range m_tuple 3)
    let cTh4 : CallOk l.prog w K mg base 6 "_law_thing" _ (spLThing 4) := D51.call (ok_LThing (k := 1) D51 (fun n => (cDr n).mono (by omega)) m_range m_tuple 4)
    let cSp : CallOk l.prog w K mg base 40 "_law_spoilt" _ (spLSpoilt 34) := D52.call (ok_LSpoilt (k := 5) D52 (fun n => (cDr n).mono (by omega)) (fun n => cTh3.mono (by omega)) m_isinstance m_tuple m_len m_list m_int m_str 34)
    exact ok_law (k := 228) F53 (D0.call (ok_cell D0.F m_len)) (D1.call (ok_pen D1.F m_int)) (D9.call (ok_book (k := 223) D9.F D2 D5 D3 D6 D7 D4 D8 B)) (D29.call (ok_ents D29.F m_dict)) (D30.call (ok_days (k := 226) D30.F D2 B)) (D28.call (GWD.mono (by decide))) (CWO.mono (by decide)) (cTh4.mono (by decide)) (cSp.mono (by decide)) (cDr 227) (CLW.mono (by decide)) (CHo.mono (by decide)) m_len m_min m_max m_range m_enumerate m_list m_isinstance m_bool
end Deed
open PySem PySem.W PySem.Calls PyProof.Rows
theorem PySem.Challenge.cw_deedsheaf_k17_whys_looked_at_holds : PySem.Challenge.rw_deedsheaf_k17_whys_looked_at.Holds := by
  w_on; o_law
  refine HandSHeadRun.head_any (r := OpenLaw.row PySem.Challenge.rw_deedsheaf_k17_whys_looked_at) (q := view (OpenLaw.row PySem.Challenge.rw_deedsheaf_k17_whys_looked_at).prog [71]) (H := Deed.hk) (ob := Deed.ob) (M := 9000) (loose := Deed.looseAll) (d := HandSHeadRun.topDef (OpenLaw.row PySem.Challenge.rw_deedsheaf_k17_whys_looked_at).prog 71) (kwd := []) Deed.ob_eq
    (by kernel_rfl) (fun s => by kernel_rfl) Deed.run (by kernel_rfl) (by kernel_rfl) (by kernel_rfl) (by rfl) (by first | assumption | decide +kernel) (by decide +kernel) ⟨rfl, rfl, rfl, rfl, rfl, by decide +kernel⟩ ?hw ?hc
  case hw => w_witness2
  case hc =>
    refine LamX.walk_ofTsE (l := PySem.Challenge.rw_deedsheaf_k17_whys_looked_at) (n := 63) (k := 229) (x := "_law_script") (CX := fun _ => L2.CX0) rfl (by decide) (by kernel_rfl) ⟨rfl, by decide, by decide⟩ ?F (fun _ _ _ _ _ z => z)
    intro w mg fa h Y G hmg0
    obtain ⟨K, KX, c⟩ := Y
    have hmg : mg ("law" : PySem.Str) = some (.ref fa) := by
      have e : (HandSHeadRun.topDef (OpenLaw.row PySem.Challenge.rw_deedsheaf_k17_whys_looked_at).prog 71).name = ("law" : PySem.Str) := by kernel_rfl
      rw [← e]
      exact hmg0
    exact ⟨K, KX, Deed.facts KX G hmg c⟩
